import PyProof.Rows.All
import Wide.All
import OpenK.AllK
import Wide.FinOn
import Lean
import PyProof.EqAt
import PyProof.EqKinds
import PyProof.TupleCall
import PyProof.P3Eq
import PyProof.NeData
import PyProof.ListRange
import PyProof.Rows.CallKwBuiltin
import PyProof.Rows.Range3
import PyProof.DictWalks
import PyProof.MinMaxWalk
import PyProof.WalkInts
import PyProof.Walk
import PyProof.WalkLemmas
import PyProof.RulesTry
import PyProof.ZipIter
import PyProof.Rows.SortShell
import PyProof.Rows.SortWalk
import PyProof.Rows.SortRuns
import PyProof.Rows.SetFrom
import PyProof.SetKind
import PyProof.SetScanFacts
import PyProof.FactsAll.subtypes_4
import PyProof.FactsAll.set_1
import PyProof.DictDisplay
import KE.KEqDict
import PyProof.DictFindH
import PySem.Challenge.RW_bentrows_k09_tables
set_option genSizeOf false
set_option compiler.extract_closed false
set_option Elab.async false
noncomputable section
set_option linter.all false
set_option maxRecDepth 100000
set_option maxHeartbeats 4000000
section
abbrev FG:=PySem.W.Frag
open PySem PySem.Spec PyProof.Rows
abbrev Dm:=@wpAny_bind
abbrev Dn:=@wpAny_pure
abbrev Dp:=@wpAny_holding
abbrev Dq:=@List.mem_cons_self
abbrev Dr:=@List.mem_cons_of_mem
abbrev Ds:=@Heap.get?_push_of_some
abbrev Dt:=@Option.map_eq_some_iff
abbrev Du:=@List.mem_append_left
abbrev Dv:=@List.mem_append_right
abbrev Dw:=@List.mem_cons
abbrev Dx:=@List.getElem?_eq_getElem
abbrev Dy:=@Heap.lt_size
abbrev Dz:=@List.mem_append
abbrev DA:=@Heap.get?_push_size
abbrev DB:=@List.length_map
abbrev DC:=@List.getElem?_eq_some_iff
abbrev DD:=@List.mem_of_getElem?
abbrev DE:=@List.sublist_append_right
abbrev DF:=@List.mem_map
abbrev DG:=@List.getElem?_map
abbrev DH:=@Nat.le_refl
abbrev DI:=@Bool.false_ne_true
abbrev DJ:=@Nat.ne_of_lt
abbrev DK:=@List.size_toArray
abbrev DL:=@List.map_cons
abbrev DM:=@decide_eq_true
abbrev DN:=@decide_eq_false
abbrev DO:=@Nat.lt_of_lt_of_le
abbrev DP:=@Nat.zero_add
abbrev DQ:=@Heap.get?_update_self
abbrev DR:=@List.length_append
abbrev DS:=@List.length_cons
abbrev DT:=@List.length_take
abbrev DU:=@Option.map_some
abbrev DW:=@Option.bind_eq_some_iff
abbrev DX:=@List.mem_singleton
abbrev DY:=@Bool.false_eq_true
abbrev DZ:=@List.mem_filter
abbrev Ea:=@Heap.get?_update_other
abbrev Eb:=@Heap.size_push
abbrev Ec:=@wpAny_truthy_bool
abbrev Ed:=@Nat.le_trans
abbrev Ee:=@List.filter_eq_self
abbrev Ef:=@List.mem_flatMap
abbrev Eg:=@List.map_map
abbrev Eh:=@List.map_congr_left
abbrev Ei:=@Option.some.inj
abbrev Ej:=@List.length_eq_zero_iff
end
section
namespace L2
open PySem
def aP (s : Stmt) : Arguments := match s with
 | .FunctionDef _ a _ _ _ _ _ _ _ _ => a
 | _ => { posonlyargs := [], args := [], vararg := none, kwonlyargs := [], kw_defaults := [], kwarg := none, defaults := [] }
def aH (s : Stmt) : List Stmt := match s with
 | .FunctionDef _ _ b _ _ _ _ _ _ _ => b
 | _ => []
def ag (s : Stmt) : Scope := match s with
 | .FunctionDef _ _ _ _ _ _ sc _ _ _ => sc
 | _ => { kind := .function, names := [], isGenerator := false, isCoroutine := false }
def oW (p : Nat × Obj) : Option (Nat × Obj) := match p.2 with
 | ⟨_, _, .freed, _⟩ => none
 | o => some (p.1, o)
def xt (h : Heap) : FG := ((List.range h.objs.size).zip h.objs.toList).filterMap oW
def refIn (K : FG) (n : Str) : Addr := match PySem.W.nsIn K mainGlobals n with
 | some (some (.ref f)) => f
 | _ => 0
abbrev nC := Str × Str × Arguments × FuncBody × Scope × Addr × List (Str × Addr) × Value × Addr × Bool
def pe (K : FG) (n : Str) : Option nC := match PySem.W.nsIn K mainGlobals n with
 | some (some (.ref f)) => (match K.lookup f with
  | some ⟨_, _, .func fd, _⟩ => some (fd.name, fd.qualname, fd.params, fd.body, fd.scope, fd.globals, fd.closure, fd.defaults, fd.builtins, PySem.W.codeIn K fd.code n)
  | _ => none)
 | _ => none
def kI (n : Str) (st : Stmt) : Option nC := some (n, n, aP st, .stmts (aH st), ag st, mainGlobals, [], .none, builtinsNs, true)
def mZ (K : FG) (n : Str) : Option Int := match PySem.W.nsIn K mainGlobals n with
 | some (some (.int v _)) => some v
 | _ => none
def uZ (K : FG) (n : Str) : Option Str := match PySem.W.nsIn K mainGlobals n with
 | some (some (.str v _)) => some v
 | _ => none
open PySem.W PyProof.Rows in
theorem t7 {p q : Program} {loose : List Str} {c : Shared → Bool} {α : Type} {g : Shared → α} {d : World → α} {N m : Nat} {ann : Option Value}
  (e : opening p = plainProg p.main.scope.names) (o : Nat.ble 600 N = true) (f : ∀ s, fenceModules? p s = some s)
  (sz : ∀ w : World, ((boot_heap w.params).isNs mainGlobals && (Array.mk [] : Array GenState).size == 0, (boot_heap w.params).objs.size, (boot_heap w.params).nsMap mainGlobals "__annotations__") = (true, m, ann))
  (go : ∀ (w : World) (os : OsState), (PySem.W.Fast.tw14082659384304107361 PySem.W.Fast.tw14364793385576792824 p w m ann N ⟨boot_heap w.params, Array.mk [], boot_drawn, boot_toks, os⟩ (topStub p)).map (fun s => ((staticsOk (importedModules p.main.body) (boot_heap w.params) s.heap && namesBound p s.heap && gensDone s && laidKept (boot_heap w.params) s.heap), PySem.W.Fast.tw4187177175401517315 q loose (importedModules p.main.body) c true s, g s)) = some (true, openGood q loose, d w)) : LeftO p q loose c g d N := fun w => by
 obtain ⟨⟨k, h, i, tk, os⟩, j, l⟩ := Dt.mp (boot_open e o f w)
 obtain ⟨rfl, rfl, rfl, rfl⟩ : k = boot_heap w.params ∧ h = Array.mk [] ∧ i = boot_drawn ∧ tk = boot_toks := by simpa using l
 have sw := sz w
 have a := go w os
 rw [← PySem.W.Fast.te14082659384304107361, ← PySem.W.Fast.te14364793385576792824, ← PySem.W.Fast.te4187177175401517315] at a
 simp only [Prod.mk.injEq] at sw
 obtain ⟨s, n, b⟩ := Dt.mp a
 simp only [Prod.mk.injEq] at b
 have tt : topFrom treeTable p w N ⟨boot_heap w.params, Array.mk [], boot_drawn, boot_toks, os⟩ = some s := by
  unfold topFrom
  dsimp only
  rw [sw.1, sw.2.1, sw.2.2, n]
  change (match staticsOk (importedModules p.main.body) (boot_heap w.params) s.heap && namesBound p s.heap && gensDone s && laidKept (boot_heap w.params) s.heap with | true => some s | false => none) = some s
  rw [b.1]
 unfold openEnds
 rw [j]
 change Option.map _ (topFrom treeTable p w N _) = _
 rw [tt]
 exact congrArg some (Prod.ext b.2.1 b.2.2)
theorem tu (h : PySem.W.Fast.tw9446332074065402090 l = true) : l.wellSaid = true := by rw [← PySem.W.Fast.te9446332074065402090] at h; exact h
end L2
namespace Bn
open PySem L2
def top (i : Nat) : Stmt := PySem.Challenge.pw_bentrows_k09_tables.main.body.getD i (.Pass ⟨0, 0, 0, 0⟩)
abbrev eh : Stmt := top 4
abbrev eA : Stmt := top 5
abbrev cO : Stmt := top 8
abbrev bO : Stmt := top 9
abbrev mB : Stmt := top 10
abbrev ip : Stmt := top 11
abbrev bE : Stmt := top 12
abbrev en : Stmt := top 13
abbrev cq : Stmt := top 14
abbrev fU : Stmt := top 15
abbrev dn : Stmt := top 16
abbrev dj : Stmt := top 20
abbrev dl : Stmt := top 21
abbrev dm : Stmt := top 22
abbrev iw : Stmt := top 24
abbrev jQ : Stmt := top 25
abbrev jS : Stmt := top 26
abbrev iq : Stmt := top 27
abbrev fV : Stmt := top 28
abbrev iy : Stmt := top 29
abbrev iu : Stmt := top 30
abbrev fW : Stmt := top 31
abbrev mz : Stmt := top 32
abbrev eg : Stmt := top 33
abbrev fY : Stmt := top 34
abbrev fX : Stmt := top 35
abbrev ir : Stmt := top 36
abbrev jR : Stmt := top 37
abbrev fv : Stmt := top 38
abbrev dsL : List (Str × Stmt) := [(("is_whole" : Str), eh), (("is_point" : Str), eA), (("are_points" : Str), cO), (("has_rising_x" : Str), bO), (("bend" : Str), mB), (("threes" : Str), ip), (("first_on_line" : Str), bE), (("is_sheet" : Str), en), (("check_sheet" : Str), cq), (("turn_at" : Str), fU), (("all_turns" : Str), dn), (("row_table" : Str), dj), (("cup_table" : Str), dl), (("cap_table" : Str), dm), (("_law_cell" : Str), iw), (("_law_mix" : Str), jQ), (("_law_box" : Str), jS), (("_law_take" : Str), iq), (("_law_whole" : Str), fV), (("_law_bend" : Str), iy), (("_law_free" : Str), iu), (("_law_sheet" : Str), fW), (("_law_up" : Str), mz), (("_law_rising" : Str), eg), (("_law_bends" : Str), fY), (("_law_parts" : Str), fX), (("_law_rows" : Str), ir), (("_law_due" : Str), jR), (("law" : Str), fv)]
abbrev blL : List Str := [("len" : Str), ("range" : Str), ("abs" : Str), ("divmod" : Str), ("enumerate" : Str), ("tuple" : Str), ("isinstance" : Str), ("int" : Str), ("bool" : Str), ("all" : Str), ("str" : Str), ("max" : Str), ("min" : Str), ("list" : Str), ("dict" : Str), ("repr" : Str), ("sorted" : Str), ("set" : Str), ("zip" : Str), ("reversed" : Str)]
abbrev ciL : List (Str × Int) := [(("MOST_POINTS" : Str), (24 : Int)), (("UP" : Str), (1 : Int)), (("DOWN" : Str), (-1 : Int))]
abbrev csL : List (Str × Str) := []
def yP (K : FG) : List (Option nC) × List (Option (Option Value)) × List (Option Int) × List (Option Str) := (dsL.map (fun p => pe K p.1), blL.map (PySem.W.nsIn K mainGlobals), ciL.map (fun p => mZ K p.1), csL.map (fun p => uZ K p.1))
def sj : List (Option nC) × List (Option (Option Value)) × List (Option Int) × List (Option Str) := (dsL.map (fun p => kI p.1 p.2), blL.map (fun _ => some none), ciL.map (fun p => some p.2), csL.map (fun p => some p.2))
theorem okL : PySem.Challenge.rw_bentrows_k09_tables.wellSaid = true := tu (by kernel_rfl)
abbrev loL : List Str := [("BentError" : Str), ("NoSheet" : Str), ("is_whole" : Str), ("is_point" : Str), ("MOST_POINTS" : Str), ("are_points" : Str), ("has_rising_x" : Str), ("bend" : Str), ("threes" : Str), ("first_on_line" : Str), ("is_sheet" : Str), ("check_sheet" : Str), ("turn_at" : Str), ("all_turns" : Str), ("UP" : Str), ("DOWN" : Str), ("row_table" : Str), ("cup_table" : Str), ("cap_table" : Str), ("_law_cell" : Str), ("_law_mix" : Str), ("_law_box" : Str), ("_law_take" : Str), ("_law_whole" : Str), ("_law_bend" : Str), ("_law_free" : Str), ("_law_sheet" : Str), ("_law_up" : Str), ("_law_rising" : Str), ("_law_bends" : Str), ("_law_parts" : Str), ("_law_rows" : Str), ("_law_due" : Str)]
abbrev viL : Program := PySem.W.view PySem.Challenge.rw_bentrows_k09_tables.row.prog [38]
theorem leftL : PySem.W.LeftO PySem.Challenge.rw_bentrows_k09_tables.row.prog viL loL (fun s => PySem.W.recOk (PySem.W.RowW.records PySem.Challenge.rw_bentrows_k09_tables.row.toRowW) s) (fun s => yP (xt s.heap)) (fun _ => sj) 40000 :=
 t7 (m := 11) (ann := some (.ref 6)) (by kernel_rfl) rfl (fun _ => rfl) (fun w => by kernel_rfl) (fun w os => by kernel_rfl)
end Bn
end
section
namespace L2
open PySem PySem.Spec PyProof.Rows
abbrev Key:=Sum Int Str
def lV:Key->Value->Bool
 | .inl k,v=>Value.isInt k v
 | .inr x,v=>Value.isStrOf x v
def keyH (w:World):Key->Int
 | .inl k=>hashInt k
 | .inr x=>hashStr w x
theorem a7:∀ {k:Key} {v:Value},lV k v=true->(∃ i t,k=Sum.inl i/\v=Value.int i t)\/(∃ x t,k=Sum.inr x/\v=Value.str x t)
 | .inl i,v,h=>by
  obtain ⟨t,e⟩:=Value.isInt_shape (k:=i) (v:=v) h
  exact .inl ⟨i,t,rfl,e⟩
 | .inr x,v,h=>by
  obtain ⟨t,e⟩:=Value.isStrOf_shape (x:=x) (v:=v) h
  exact .inr ⟨x,t,rfl,e⟩
theorem ub (i:Int) (t:Tok):lV (.inl i) (.int i t)=true:=by simp [lV,Value.isInt]
theorem ua (x:Str) (t:Tok):lV (.inr x) (.str x t)=true:=by simp [lV,Value.isStrOf]
theorem CN (a b:Int):decide ((Sum.inl a:Key)=Sum.inl b)=(a == b):=by
 by_cases e:a=b
 ·subst e;simp
 ·have h:¬ (Sum.inl a:Key)=Sum.inl b:=fun q=>e (Sum.inl.inj q)
  rw [DN h]
  exact (beq_eq_false_iff_ne.mpr e).symm
theorem CK (a b:Str):decide ((Sum.inr a:Key)=Sum.inr b)=decide (a=b):=by
 by_cases e:a=b
 ·subst e;simp
 ·have h:¬ (Sum.inr a:Key)=Sum.inr b:=fun q=>e (Sum.inr.inj q)
  rw [DN h,DN e]
theorem CM (a:Int) (b:Str):decide ((Sum.inl a:Key)=Sum.inr b)=false:=DN (fun q=>nomatch q)
theorem CL (a:Str) (b:Int):decide ((Sum.inr a:Key)=Sum.inl b)=false:=DN (fun q=>nomatch q)
def aY (prog:Program) (w:World):PySem.KeyKind prog w Key where
 is:=lV
 hash:=keyH w
 inj:=fun v a b f d=>by
  rcases a7 f with ⟨i,t,rfl,rfl⟩ | ⟨x,t,rfl,rfl⟩
  ·rcases a7 d with ⟨j,u,rfl,e⟩ | ⟨y,u,rfl,e⟩
   ·injection e with e1 _;rw [e1]
   ·exact nomatch e
  ·rcases a7 d with ⟨j,u,rfl,e⟩ | ⟨y,u,rfl,e⟩
   ·exact nomatch e
   ·injection e with e1 _;rw [e1]
 byValue:=fun k v h=>by
  rcases a7 h with ⟨i,t,rfl,rfl⟩ | ⟨x,t,rfl,rfl⟩ <;> rfl
 pyHash:=fun c h=>by
  rcases a7 c with ⟨i,t,rfl,rfl⟩ | ⟨x,t,rfl,rfl⟩
  ·exact wpAny_pyHash_int h
  ·exact wpAny_pyHash_str h
 eqBool:=fun hu c h=>by
  rcases a7 hu with ⟨i,t,rfl,rfl⟩ | ⟨x,t,rfl,rfl⟩
  ·rcases a7 c with ⟨j,u,rfl,rfl⟩ | ⟨y,u,rfl,rfl⟩
   ·rw [CN] at h;exact wpAny_eqBool_int h
   ·rw [CM] at h;exact SeqAt.EqAt.int_str i t y u _ _ _ _ h
  ·rcases a7 c with ⟨j,u,rfl,rfl⟩ | ⟨y,u,rfl,rfl⟩
   ·rw [CL] at h;exact SeqAt.EqAt.str_int x t j u _ _ _ _ h
   ·rw [CK] at h;exact wpAny_eqBool_str h
 «strs»:=fun k x t v h=>by
  rcases a7 h with ⟨i,u,rfl,e⟩ | ⟨y,u,rfl,e⟩
  ·exact nomatch e
  ·injection e with e1 _
   subst e1
   cases v <;> rfl
theorem oG (prog:Program) (w:World) (i:Int) (t:Tok):(aY prog w).is (.inl i) (.int i t)=true:=ub i t
theorem oF (prog:Program) (w:World) (x:Str) (t:Tok):(aY prog w).is (.inr x) (.str x t)=true:=ua x t
end L2
namespace L2
open PySem PySem.Spec PyProof.Rows
inductive V where
 | non | bl (b:Bool) | int (i:Int) | str (x:Str) | byt (b:Array UInt8) | flt (b:UInt64) | ref (a:Addr) | ty (n:String)
 deriving DecidableEq
def RelV:V->Value->Prop
 | .non,u=>u=Value.none
 | .bl b,u=>u=Value.bool b
 | .int i,u=>∃ t,u=Value.int i t
 | .str x,u=>∃ t,u=Value.str x t
 | .byt b,u=>∃ t,u=Value.bytes b t
 | .flt b,u=>∃ t,u=Value.float b t
 | .ref a,u=>u=Value.ref a
 | .ty n,u=>u=Value.type n
abbrev Vals:List V->List Value->Prop:=Paired RelV
theorem Vals.length (r:Vals xs us):xs.length=us.length:=Paired.length r
theorem Vals.get:∀ {xs:List V} {us:List Value} {i:Nat} {x:V},Vals xs us->xs[i]?=some x->∃ u,us[i]?=some u/\RelV x u
 | _,_,_,_,.nil,e=>by simp at e
 | _,_,0,_,.cons r _,e=>by simp at e;subst e;exact ⟨_,rfl,r⟩
 | _,_,i+1,x,.cons _ t,e=>by
  obtain ⟨u,h1,h2⟩:=Vals.get (i:=i) (x:=x) t (by simpa using e)
  exact ⟨u,by simpa using h1,h2⟩
theorem Vals.set (r:RelV x u):∀ {xs:List V} {us:List Value} (i:Nat),Vals xs us->Vals (xs.set i x) (us.set i u)
 | _,_,_,.nil=>.nil
 | _,_,0,.cons _ t=>.cons r t
 | _,_,i+1,.cons q t=>.cons q (Vals.set r i t)
theorem Vals.append:∀ {xs ys:List V} {us ws:List Value},Vals xs us->Vals ys ws->Vals (xs ++ ys) (us ++ ws)
 | _,_,_,_,.nil,s=>s
 | _,_,_,_,.cons r t,s=>.cons r (Vals.append t s)
theorem Vals.take:∀ {xs:List V} {us:List Value} (n:Nat),Vals xs us->Vals (xs.take n) (us.take n)
 | _,_,0,_=>.nil
 | _,_,_+1,.nil=>.nil
 | _,_,n+1,.cons r t=>.cons r (Vals.take n t)
theorem Vals.drop:∀ {xs:List V} {us:List Value} (n:Nat),Vals xs us->Vals (xs.drop n) (us.drop n)
 | _,_,0,r=>r
 | _,_,_+1,.nil=>.nil
 | _,_,n+1,.cons _ t=>Vals.drop n t
def RelO:Option V->Option Value->Prop
 | some v,some u=>RelV v u
 | none,none=>True
 | _,_=>False
def KV {κ:Type}:List (κ × V)->List (κ × Value)->Prop:=Paired fun (p:κ × V) (q:κ × Value)=>p.1=q.1/\RelV p.2 q.2
def kV:Key->V
 | .inl i=>.int i
 | .inr x=>.str x
inductive HO where
 | lst (xs:List V)
 | tup (xs:List V)
 | dK (kvs:List (Key × V)) | dT (kvs:List (List Key × V))
 | set (S:Int->Bool) (n:Nat)
 | ins (C dx:Addr) (fs:List (Str × V))
 | own (x:Addr)
 | xd (fs:List (Str × V))
 | met (f x:Addr)
 | rng (lo hi:Int)
 | frz (o:Obj) (u:HO)
 | tbl (ps:Array Value)
 | ext (φ:Heap->Prop)
abbrev Hp:=Addr->Option HO
def upd (H:Hp) (a:Addr) (o:HO):Hp:=fun b=>if b=a then some o else H b
theorem aQ:upd H a o a=some o:=by unfold upd;rw [if_pos rfl]
theorem av (h:b ≠ a):upd H a o b=H b:=by unfold upd;rw [if_neg h]
theorem ne_of {H:Hp} (h:H a=some o) (h':H b=some u) (d:o ≠ u):a ≠ b:=by
 intro e;subst e;rw [h] at h';exact d (Ei h')
theorem aK {H:Hp} (h:H a=some o) (h':H b=none):a ≠ b:=by
 intro e;subst e;rw [h] at h';cases h'
def DictOfE {prog:Program} {w:World} {κ:Type} [DecidableEq κ] (knd:KeyKind prog w κ) (h:Heap) (a:Addr) (kvs:List (κ × Value)):Prop :=
 ∃ o es b,h.get? a=some o/\o.ExactDict/\o.data=.dict es b/\KeysOf knd es/\Pairs knd es.toList kvs/\(kvs.map (·.1)).Nodup/\b=es.size
theorem DictOfE.of [DecidableEq κ] {knd:KeyKind prog w κ} {kvs:List (κ × Value)} (x:DictOfE knd h a kvs):h.DictOf knd a kvs:=let ⟨o,es,b,h1,h2,h3,e,c,d,_⟩:=x;⟨o,es,b,h1,h2,h3,e,c,d⟩
def IsTupD (h:Heap) (a:Addr) (items:Array Value):Prop:=∃ o,h.get? a=some o/\o.cls=.type "tuple"/\∃ n,(o.data,o.dict)=(Data.seq items n,none)
theorem IsTupD.tup {h:Heap} {a:Addr} {items:Array Value} (x:IsTupD h a items):IsTup h a items:=let ⟨o,e,c,n,d⟩:=x;⟨o,e,c,n,congrArg Prod.fst d⟩
theorem IsTupD.lt (x:IsTupD h a items):a < h.objs.size:=x.tup.lt
theorem IsTupD.new (h:Heap) (items:Array Value):IsTupD (h.push { cls:=.type "tuple",data:=.seq items }) h.objs.size items:=⟨_,DA h rfl,rfl,_,rfl⟩
section
variable (P:Program) (w:World)
def ObjOk (H:Hp) (h:Heap) (a:Addr):HO->Prop
 | .lst xs=>xs.length<=sizeLine/\∃ (its:List Value) (n:Nat),Vals xs its/\h.get? a=some { cls:=.type "list",data:=.seq its.toArray n }
 | .tup xs=>xs.length<=sizeLine/\∃ its:List Value,Vals xs its/\IsTupD h a its.toArray
 | .dK kvs=>kvs.length<=sizeLine/\(a == sysModules)=false/\∃ d,KV kvs d/\DictOfE (aY P w) h a d
 | .dT kvs=>kvs.length<=sizeLine/\(a == sysModules)=false/\∃ xs:List (List Key × Addr × Value),
   Paired (fun (p:List Key × V) (q:List Key × Addr × Value)=>p.1=q.1/\H q.2.1=some (.tup (p.1.map kV))/\RelV p.2 q.2.2) kvs xs /\
   ∃ o es c,h.get? a=some o/\o.ExactDict/\o.data=.dict es c/\es.toList=xs.map (entryOfKey (tupleKind (aY P w)))/\(xs.map (·.1)).Nodup/\c=es.size
 | .set S n=>h.SetOf (intKind P w) a S n
 | .ins C dx fs=>H dx=some (.own a)/\fs.length<=1000/\dx ≠ a/\h.get? a=some (PySem.W.instObj C dx) /\
   ∃ b,h.Ns1 dx b/\(∀ f,RelO (fs.lookup f) (b f))/\PySem.Within b (fs.map (·.1))
 | .own _=>∃ o,h.get? a=some o
 | .xd fs=>∃ b,h.Ns1 a b/\∀ f,RelO (fs.lookup f) (b f)
 | .rng lo hi=>∃ t u v,h.get? a=some { cls:=.type "range",data:=.fields #[.int lo t,.int hi u,.int 1 v] }
 | .frz o u=>h.get? a=some o/\ObjOk H h a u
 | .tbl ps=>h.get? a=some { cls:=.none,data:=.fields ps }
 | .met f x=>h.get? a=some (PySem.W.methodObj (.ref f) (.ref x))
 | .ext φ=>φ h/\(∃ o,h.get? a=some o)/\∀ h1 h2:Heap,φ h1->(∀ o,h1.get? a=some o->h2.get? a=some o)->φ h2
def HOk (H:Hp) (h:Heap):Prop:=∀ a o,H a=some o->ObjOk P w H h a o
end
section
variable {P:Program} {w:World} {H H':Hp} {h h':Heap} {a:Addr} {o:HO}
theorem ObjOk.lt (x:ObjOk P w H h a o):a < h.objs.size:=by
 cases o with
 | lst xs=>obtain ⟨_,_,_,_,e⟩:=x;exact Dy e
 | tup xs=>obtain ⟨_,_,_,p⟩:=x;exact p.lt
 | dK kvs=>obtain ⟨_,_,_,_,o,_,_,e,_⟩:=x;exact Dy e
 | dT kvs=>obtain ⟨_,_,_,_,o,_,_,e,_⟩:=x;exact Dy e
 | set S n=>obtain ⟨o,_,_,_,e,_⟩:=x;exact Dy e
 | ins C dx fs=>obtain ⟨_,_,_,e,_⟩:=x;exact Dy e
 | own y=>obtain ⟨_,e⟩:=x;exact Dy e
 | xd fs=>obtain ⟨_,⟨_,_,_,e,_⟩,_⟩:=x;exact Dy e
 | rng lo hi=>obtain ⟨_,_,_,e⟩:=x;exact Dy e
 | frz ob u=>obtain ⟨e,_⟩:=x;exact Dy e
 | tbl ps=>exact Dy (show h.get? a=some _ from x)
 | met f y=>exact Dy (show h.get? a=some _ from x)
 | ext φ=>obtain ⟨_,⟨_,e⟩,_⟩:=x;exact Dy e
theorem Paired.mapP:∀ {c:List α} {d:List β},Paired F c d->(∀ a b,F a b->G a b)->Paired G c d
 | _,_,.nil,_=>.nil
 | _,_,.cons r t,f=>.cons (f _ _ r) (Paired.mapP t f)
theorem ObjOk.stay (x:ObjOk P w H h a o) (k:∀ b u,(b=a\/H b=some (.own a))->h.get? b=some u->h'.get? b=some u)
  (s:∀ b,H b=some (.own a)->H' b=some (.own a)) (m:∀ b xs,H b=some (.tup xs)->H' b=some (.tup xs)):ObjOk P w H' h' a o:=by
 induction o with
 | lst xs=>obtain ⟨z,its,n,r,e⟩:=x;exact ⟨z,its,n,r,k _ _ (.inl rfl) e⟩
 | tup xs=>obtain ⟨z,its,r,ob,e,c⟩:=x;exact ⟨z,its,r,ob,k _ _ (.inl rfl) e,c⟩
 | dK kvs=>obtain ⟨z,y,A,r,ob,es,g,e,c⟩:=x;exact ⟨z,y,A,r,ob,es,g,k _ _ (.inl rfl) e,c⟩
 | dT kvs =>
  obtain ⟨z,y,xs,r,ob,es,g,e,c⟩:=x
  exact ⟨z,y,xs,Paired.mapP r fun p q z=>⟨z.1,m _ _ z.2.1,z.2.2⟩,ob,es,g,k _ _ (.inl rfl) e,c⟩
 | set S n=>obtain ⟨ob,es,g,t,e,c⟩:=x;exact ⟨ob,es,g,t,k _ _ (.inl rfl) e,c⟩
 | ins C dx fs =>
  obtain ⟨d,z,ne,e,i,⟨j,es,g,l,c⟩,r⟩:=x
  exact ⟨s _ d,z,ne,k _ _ (.inl rfl) e,i,⟨j,es,g,k _ _ (.inr d) l,c⟩,r⟩
 | own y=>obtain ⟨ob,e⟩:=x;exact ⟨ob,k _ _ (.inl rfl) e⟩
 | xd fs=>obtain ⟨i,⟨j,es,g,e,c⟩,r⟩:=x;exact ⟨i,⟨j,es,g,k _ _ (.inl rfl) e,c⟩,r⟩
 | rng lo hi=>obtain ⟨t,u,v,e⟩:=x;exact ⟨t,u,v,k _ _ (.inl rfl) e⟩
 | frz ob u ih=>obtain ⟨e,q⟩:=x;exact ⟨k _ _ (.inl rfl) e,ih q⟩
 | tbl ps =>
  have e:h.get? a=some { cls:=.none,data:=.fields ps }:=x
  show h'.get? a=some { cls:=.none,data:=.fields ps }
  exact k a _ (.inl rfl) e
 | met f y =>
  have e:h.get? a=some (PySem.W.methodObj (.ref f) (.ref y)):=x
  show h'.get? a=some (PySem.W.methodObj (.ref f) (.ref y))
  exact k a _ (.inl rfl) e
 | ext φ=>obtain ⟨p,⟨o,e⟩,st⟩:=x;exact ⟨st _ _ p fun o q=>k _ _ (.inl rfl) q,⟨o,k _ _ (.inl rfl) e⟩,st⟩
theorem HOk.lt (x:HOk P w H h) (e:H a=some o):a < h.objs.size:=(x a o e).lt
theorem HOk.fresh (x:HOk P w H h) (e:h.objs.size<=a):H a=none:=by
 cases q:H a with
 | none=>rfl
 | some u=>exact absurd (DO (x.lt q) e) (Nat.lt_irrefl _)
theorem HOk.kept (x:HOk P w H h) (k:∀ b u,h.get? b=some u->h'.get? b=some u):HOk P w H h':=fun a o e =>
 (x a o e).stay (fun b u _ q=>k b u q) (fun _ q=>q) fun _ _ q=>q
theorem HOk.laid (x:HOk P w H h) (k:∀ b u,h.get? b=some u->h'.get? b=some u) (g:h.objs.size<=a) (new:ObjOk P w (upd H a o) h' a o):HOk P w (upd H a o) h':=fun b u e=>by
 have f:=x.fresh g
 by_cases d:b=a
 ·subst d;rw [aQ] at e;cases e;exact new
 ·rw [av d] at e
  exact (x b u e).stay (fun c v _ q=>k c v q) (fun c q=>by rw [av (aK q f)];exact q) fun c xs q=>by rw [av (aK q f)];exact q
end
def Rd (H:Hp) (a:Addr) (u:HO):Prop:=H a=some u\/∃ o,H a=some (.frz o u)
theorem Rd.ok (r:Rd H a u) (x:HOk P w H h):ObjOk P w H h a u:=by
 rcases r with r | ⟨o,r⟩
 ·exact x a u r
 ·obtain ⟨_,q⟩:=x a _ r
  exact q
def Mut:Option HO->Prop
 | some (.lst _)=>True
 | some (.dK _)=>True
 | some (.dT _)=>True
 | some (.set _ _)=>True
 | some (.ins _ _ _)=>True
 | some (.ext _)=>True
 | _=>False
section
variable {P:Program} {w:World} {H:Hp} {h h':Heap} {x e:Addr} {o':HO}
theorem HOk.write (ok:HOk P w H h) (g:Mut (H x)) (he:e=x\/H e=some (.own x)) (k:∀ b u,b ≠ e->h.get? b=some u->h'.get? b=some u) (l:∃ u,h'.get? e=some u)
  (new:ObjOk P w (upd H x o') h' x o'):HOk P w (upd H x o') h':=fun b u q=>by
 have d:∀ c y,H c=some (.own y)->c ≠ x:=fun c y r z=>by subst z;rw [r] at g;exact g
 have f:∀ c xs,H c=some (.tup xs)->c ≠ x:=fun c xs r z=>by subst z;rw [r] at g;exact g
 by_cases j:b=x
 ·subst j;rw [aQ] at q;cases q;exact new
 ·rw [av j] at q
  by_cases a:b=e
  ·have m:H b=some (.own x):=by
    rcases he with z | z
    ·exact absurd (a.trans z) j
    ·rw [a];exact z
   rw [q] at m;cases m
   obtain ⟨v,n⟩:=l
   exact ⟨v,by rw [a];exact n⟩
  ·refine (ok b u q).stay (fun c v i r=>k c v ?_ r) (fun c r=>by rw [av (d c b r)];exact r) fun c xs r=>by rw [av (f c xs r)];exact r
   rcases i with rfl | i
   ·exact a
   ·rintro rfl
    rcases he with z | z
    ·exact d c b i z
    ·rw [i] at z;cases z;exact j rfl
end
structure Un (fs ex:List Addr) (H H':Hp) (h h':Heap):Prop where
 keep:∀ b o,h.get? b=some o->H b=none->b ∉ fs->b ∉ ex->h'.get? b=some o
 slot:∀ b o,h.get? b=some o->H b=none->b ∈ fs->b ∉ ex->∃ sl,h'.get? b=some { o with slots:=sl }
 free:∀ b o,h.get? b=some o->H b=none->b ∉ ex->H' b=none
 there:∀ b o,h.get? b=some o->b ∉ ex->∃ o',h'.get? b=some o'
 tups:∀ b xs,H b=some (.tup xs)->H' b=some (.tup xs)
 frzs:∀ b o u,H b=some (.frz o u)->H' b=some (.frz o u)
 tbls:∀ b ps,H b=some (.tbl ps)->∃ more,H' b=some (.tbl (ps ++ more))
section
variable {fs fs' ex ex':List Addr} {H H1 H2:Hp} {h h1 h2 h':Heap} {a x e:Addr} {o:HO}
theorem Un.any (u:Un fs ex H H1 h h1) (q:h.get? b=some ob) (n:H b=none) (c:b ∉ ex):∃ sl,h1.get? b=some { ob with slots:=sl }:=by
 by_cases a:b ∈ fs
 ·exact u.slot b ob q n a c
 ·exact ⟨ob.slots,u.keep b ob q n a c⟩
theorem Un.trans (a:Un fs ex H H1 h h1) (b:Un fs ex H1 H2 h1 h2):Un fs ex H H2 h h2 where
 keep:=fun c ob q n e d=>b.keep c ob (a.keep c ob q n e d) (a.free c ob q n d) e d
 slot:=fun c ob q n e d=>by
  obtain ⟨sl,e1⟩:=a.slot c ob q n e d
  obtain ⟨g,f⟩:=b.slot c _ e1 (a.free c ob q n d) e d
  exact ⟨g,f⟩
 free:=fun c ob q n d=>by
  obtain ⟨o',e1⟩:=a.there c ob q d
  exact b.free c o' e1 (a.free c ob q n d) d
 there:=fun c ob q d=>by
  obtain ⟨o',e1⟩:=a.there c ob q d
  exact b.there c o' e1 d
 tups:=fun c xs q=>b.tups c xs (a.tups c xs q)
 frzs:=fun c ob xs q=>b.frzs c ob xs (a.frzs c ob xs q)
 tbls:=fun c ps q=>by
  obtain ⟨i,e1⟩:=a.tbls c ps q
  obtain ⟨j,f⟩:=b.tbls c _ e1
  exact ⟨i ++ j,by rw [f,Array.append_assoc]⟩
theorem Un.kept (k:∀ b u,h.get? b=some u->h'.get? b=some u):Un fs ex H H h h' :=
 ⟨fun b ob q _ _ _=>k b ob q,fun b ob q _ _ _=>⟨ob.slots,k b ob q⟩,fun _ _ _ n _=>n,fun b ob q _=>⟨ob,k b ob q⟩,fun _ _ q=>q,fun _ _ _ q=>q,fun _ ps q=>⟨#[],by rw [q];simp⟩⟩
theorem Un.refl:Un fs ex H H h h:=Un.kept fun _ _ q=>q
theorem Un.laid (k:∀ b u,h.get? b=some u->h'.get? b=some u) (d:h.objs.size<=a) (c:H a=none):Un fs ex H (upd H a o) h h' where
 keep:=fun b u q _ _ _=>k b u q
 slot:=fun b u q _ _ _=>⟨u.slots,k b u q⟩
 free:=fun b u q n _=>by rw [av (DJ (DO (Dy q) d))];exact n
 there:=fun b u q _=>⟨u,k b u q⟩
 tups:=fun b xs q=>by rw [av (aK q c)];exact q
 frzs:=fun b u xs q=>by rw [av (aK q c)];exact q
 tbls:=fun b ps q=>⟨#[],by rw [av (aK q c),q];simp⟩
theorem Un.write (c:Mut (H x)) (he:e=x\/H e=some (.own x)) (k:∀ b u,b ≠ e->h.get? b=some u->h'.get? b=some u) (d:∃ u,h'.get? e=some u):Un fs ex H (upd H x o) h h':=by
 have g:∀ b,H b=none->b ≠ x:=fun b n z=>by subst z;rw [n] at c;exact c
 have f:∀ b,H b=none->b ≠ e:=fun b n z=>by
  subst z
  rcases he with r | r
  ·exact g b n r
  ·rw [n] at r;cases r
 have hm:∀ b u,H b=some u->¬ Mut (some u)->b ≠ x:=fun b u q nm z=>by subst z;rw [q] at c;exact nm c
 refine ⟨fun b u q n _ _=>k b u (f b n) q,fun b u q n _ _=>⟨u.slots,k b u (f b n) q⟩,fun b u q n _=>by rw [av (g b n)];exact n,fun b u q _=>?_,
  fun b xs q=>by rw [av (hm b _ q fun z=>z)];exact q,fun b u xs q=>by rw [av (hm b _ q fun z=>z)];exact q,fun b ps q=>⟨#[],by rw [av (hm b _ q fun z=>z),q];simp⟩⟩
 by_cases a:b=e
 ·subst a;exact d
 ·exact ⟨u,k b u a q⟩
end
def trk (h:Heap) (H:Hp):List Addr:=(List.range h.objs.size).filter fun a=>(H a).isSome
def m5 (h:Heap) (H:Hp):Heap:=PySem.W.hideAll h (trk h H)
theorem ue (h:Heap) (H:Hp):(m5 h H).objs.size=h.objs.size:=PySem.W.hideAll_size _ _
theorem xk (e:h.get? b=some o) (n:H b=none):(m5 h H).get? b=some o :=
 PySem.W.hideAll_get _ e fun hm=>by
  have q:(H b).isSome=true:=(DZ.mp hm).2
  rw [n] at q;simp at q
theorem zG (e:(m5 h H).get? b=some o):h.get? b=some o/\H b=none:=by
 have a:h.get? b=some o:=PySem.W.of_hideAll (trk h H) e
 refine ⟨a,?_⟩
 cases q:H b with
 | none=>rfl
 | some x =>
  have hm:b ∈ trk h H:=DZ.mpr ⟨List.mem_range.mpr (Dy a),by simp [q]⟩
  have z:(m5 h H).get? b=none:=PySem.W.hideAll_none (trk h H) hm
  rw [z] at e;cases e
def Aw (g h:Heap) (L:Addr):List (Addr × Obj):=(List.range h.objs.size).filterMap fun a=>if a=L\/(g.get? a).isSome=true then none else (h.get? a).map fun o=>(a,o)
def dI (g h:Heap) (L d:Addr):List (Addr × Obj):=(Aw g h L).filter fun p=>decide (p.1 ≠ d)
end L2
namespace L2
open PySem PySem.Spec PyProof.Rows
structure Mod (K:FG) (mg:Str->Option Value) (base:Heap):Prop where
 kin:K.In base
 glob:base.Ns mainGlobals mg
 blt:∃ mb,base.Ns builtinsNs mb/\∀ x:Str,x ≠ "__name__"->mb x=bootBuiltins x
 nolimit:base.NoLimit
structure Cx where
 prog:Program
 w:World
 K:FG
 mg:Str->Option Value
 base:Heap
 A:Around
 N:List Str
 s₀:Shared
 H₀:Hp
 env:Env
 outer:List Env
 stack:List Env
 ex:List Addr
 fn:Str->Bool
 calm:Bool
 pn:List (Addr × Obj)
 xe:Value->Shared->Prop
def frs (l:List Env):List Addr:=l.filterMap (·.frame)
abbrev Cx.fs (X:Cx):List Addr:=frs X.outer
def Vis (sc:Scope) (x:Str):Prop:=sc.names.lookup x=some .local\/sc.names.lookup x=some .cell\/sc.names.lookup x=some .free
def Loc (sc:Scope) (x:Str):Prop:=sc.names.lookup x=some .local\/sc.names.lookup x=some .cell
def Look (env:Env) (h:Heap) (m:Str->Option Value) (x:Str) (u:Value):Prop :=
 (env.kindOf x=some .local/\m x=some u)\/((env.kindOf x=some .cell\/env.kindOf x=some .free)/\∃ c,env.cells.lookup x=some c/\h.IsCell c (some u))
structure Cx.Ok (X:Cx):Prop where
 mod:Mod X.K X.mg X.base
 kind:X.env.scope.kind=.function
 glob:X.env.globals=mainGlobals
 blt:X.env.builtins=builtinsNs
 above:X.s₀.heap.objs.size<=X.env.locals
 inj:∀ x y c,X.env.cells.lookup x=some c->X.env.cells.lookup y=some c->x=y
 has:∀ x,(X.env.kindOf x=some .cell\/X.env.kindOf x=some .free)->∃ c,X.env.cells.lookup x=some c
 cab:∀ x c,X.fn x=true->X.env.cells.lookup x=some c->X.s₀.heap.objs.size<=c
 hd:X.calm=true->X.A.handled=none
 frames:X.A.frames=some X.stack
 stk:X.stack=X.outer\/(X.stack=X.env :: X.outer/\X.env.frame=some X.env.locals)
 exf:∀ b ∈ X.ex,b ≠ X.env.locals/\∀ x c,X.env.cells.lookup x=some c->c ≠ b
 bs:∀ b o,X.base.get? b=some o->X.s₀.heap.get? b=some o/\X.H₀ b=none
 bsz:X.base.objs.size<=X.s₀.heap.objs.size
 noex:∀ b o,X.base.get? b=some o->b ∉ X.ex
 exfs:∀ b ∈ X.ex,b ∉ X.fs
 funs:X.s₀.heap.FunFrames X.base X.outer
 frf:∀ b ∈ X.fs,X.H₀ b=none
structure Inv (X:Cx) (pins:List (Addr × Obj)) (σ:List (Option V)) (H:Hp) (s:Shared):Prop where
 ok:X.Ok
 os:s.os=X.s₀.os
 bare:AllBare s.gens
 base:Un X.fs X.ex X.H₀ H X.s₀.heap s.heap
 loc:∃ m,s.heap.Ns X.env.locals m/\∀ (i:Nat) (x:Str) (v:V),X.N[i]?=some x->σ[i]?=some (some v)->Vis X.env.scope x->∃ u,RelV v u/\Look X.env s.heap m x u
 cell:∀ x c,X.env.cells.lookup x=some c->∃ v,s.heap.IsCell c v
 free:H X.env.locals=none
 freeC:∀ x c,X.env.cells.lookup x=some c->H c=none
 pin:∀ p ∈ X.pn ++ pins,s.heap.get? p.1=some p.2/\H p.1=none/\p.1 ≠ X.env.locals/\p.1 ∉ X.fs/\∀ v,p.2.data ≠ .cell v
 hok:HOk X.prog X.w H s.heap
 len:σ.length=X.N.length
section
variable {X:Cx} {pins:List (Addr × Obj)} {σ:List (Option V)} {H H':Hp} {s:Shared} {h':Heap}
theorem Cx.Ok.nofr (ok:X.Ok) (e:X.base.get? b=some o):b ∉ X.fs:=fun a=>by
 have:=(ok.funs.mem a).1
 rw [e] at this;cases this
theorem Inv.bs (I:Inv X pins σ H s):∀ b o,X.base.get? b=some o->s.heap.get? b=some o/\H b=none:=fun b o e =>
 ⟨I.base.keep b o (I.ok.bs b o e).1 (I.ok.bs b o e).2 (I.ok.nofr e) (I.ok.noex b o e),I.base.free b o (I.ok.bs b o e).1 (I.ok.bs b o e).2 (I.ok.noex b o e)⟩
theorem Inv.bk (I:Inv X pins σ H s):∀ b o,X.base.get? b=some o->s.heap.get? b=some o:=fun b o e=>(I.bs b o e).1
theorem Inv.mod (I:Inv X pins σ H s):Mod X.K X.mg X.base:=I.ok.mod
theorem Inv.kIn (I:Inv X pins σ H s):X.K.In s.heap:=I.ok.mod.kin.keeps I.bk
theorem Inv.lt (I:Inv X pins σ H s):X.env.locals < s.heap.objs.size:=let ⟨_,a,_⟩:=I.loc;a.lt
theorem Inv.sz (I:Inv X pins σ H s):X.s₀.heap.objs.size<=s.heap.objs.size:=Ed I.ok.above (Nat.le_of_lt I.lt)
theorem Inv.nofs (I:Inv X pins σ H s) (h:s.heap.objs.size<=a):a ∉ X.fs:=fun b=>by
 obtain ⟨_,o,c,_⟩:=I.ok.funs.mem b
 exact absurd (DO (Dy c) (Ed I.sz h)) (Nat.lt_irrefl _)
theorem Inv.cne (I:Inv X pins σ H s):∀ x c,X.env.cells.lookup x=some c->c ≠ X.env.locals:=fun x c e z=>by
 obtain ⟨v,o,d,hd⟩:=I.cell x c e
 obtain ⟨m,⟨o',es,f,a,b,_⟩,_⟩:=I.loc
 rw [z,a] at d;cases d;rw [b] at hd;cases hd
theorem Inv.funs (I:Inv X pins σ H s):s.heap.FunFrames X.base X.outer:=by
 have all:∀ (l:List Env),(∀ b ∈ frs l,b ∈ X.fs)->X.s₀.heap.FunFrames X.base l->s.heap.FunFrames X.base l:=by
  intro l
  induction l with
  | nil=>intro _ _;trivial
  | cons env r ih =>
   intro d h
   obtain ⟨f,⟨L,o,hf,j,g,hd⟩,i⟩:=h
   have a:L ∈ X.fs:=d L (by unfold frs;rw [List.filterMap_cons,hf];exact Dq)
   obtain ⟨sl,e⟩:=I.base.slot L o g (I.ok.frf L a) a fun z=>I.ok.exfs L z a
   exact ⟨f,⟨L,_,hf,j,e,hd⟩,ih (fun b c=>d b (by unfold frs;rw [List.filterMap_cons,hf];exact Dr _ c)) i⟩
 exact all X.outer (fun _ c=>c) I.ok.funs
theorem Inv.stack (I:Inv X pins σ H s):s.heap.FunFrames X.base X.stack:=by
 rcases I.ok.stk with e | ⟨e,hf⟩
 ·rw [e];exact I.funs
 ·rw [e]
  obtain ⟨m,a,_⟩:=I.loc
  refine .cons (by rw [I.ok.kind];decide) hf a ?_ I.funs
  exact Heap.get?_none_of_le (Ed I.ok.bsz I.ok.above)
theorem Inv.stkSub (I:Inv X pins σ H s):∀ b ∈ frs X.stack,b ∈ X.env.locals :: X.fs:=fun b a=>by
 rcases I.ok.stk with e | ⟨e,hf⟩
 ·rw [e] at a;exact Dr _ a
 ·rw [e] at a
  unfold frs at a
  rw [List.filterMap_cons,hf] at a
  exact a
theorem Inv.stkFree (I:Inv X pins σ H s):∀ b ∈ frs X.stack,H b=none:=fun b a=>by
 rcases Dw.mp (I.stkSub b a) with e | a
 ·rw [e];exact I.free
 ·obtain ⟨_,o,c,_⟩:=I.ok.funs.mem a
  exact I.base.free b o c (I.ok.frf b a) fun z=>I.ok.exfs b z a
theorem Inv.step {t':Nat} {ch:List Addr} (I:Inv X pins σ H s) (g:∀ b ∈ ch,(b ∈ X.ex\/X.s₀.heap.objs.size<=b)/\b ≠ X.env.locals/\(∀ x c,X.env.cells.lookup x=some c->c ≠ b)/\∀ p ∈ X.pn ++ pins,p.1 ≠ b) (keep:∀ b o,b ≠ X.env.locals->b ∉ X.fs->b ∉ ch->s.heap.get? b=some o->H b=none->h'.get? b=some o) (slot:∀ b o,b ≠ X.env.locals->b ∈ X.fs->b ∉ ch->s.heap.get? b=some o->H b=none->∃ sl,h'.get? b=some { o with slots:=sl }) (free:∀ b o,b ∉ ch->s.heap.get? b=some o->H b=none->H' b=none) (there:∀ b o,b ∉ ch->s.heap.get? b=some o->∃ o',h'.get? b=some o') (tups:∀ b xs,H b=some (.tup xs)->H' b=some (.tup xs)) (frzs:∀ b o u,H b=some (.frz o u)->H' b=some (.frz o u)) (tbls:∀ b ps,H b=some (.tbl ps)->∃ more,H' b=some (.tbl (ps ++ more))) (ns:∀ m,s.heap.Ns X.env.locals m->h'.Ns X.env.locals m) (hok:HOk X.prog X.w H' h') (K:AllBare g') :
  Inv X pins σ H' { s with heap:=h',gens:=g',drawn:=d',toks:=t' }:=by
 have A:∀ b o,X.s₀.heap.get? b=some o->b ≠ X.env.locals:=fun b o e=>DJ (DO (Dy e) I.ok.above)
 have h:∀ b o,X.s₀.heap.get? b=some o->b ∉ X.ex->b ∉ ch:=fun b o e a j=>by
  rcases (g b j).1 with z | z
  ·exact a z
  ·exact absurd (DO (Dy e) z) (Nat.lt_irrefl _)
 have cellK:∀ x c,X.env.cells.lookup x=some c->∀ v,s.heap.IsCell c v->h'.IsCell c v:=fun x c e v ⟨o,t,hd⟩=>by
  have f:c ∉ ch:=fun z=>(g c z).2.2.1 x c e rfl
  by_cases D:c ∈ X.fs
  ·obtain ⟨sl,q⟩:=slot c o (I.cne x c e) D f t (I.freeC x c e)
   exact ⟨_,q,hd⟩
  ·exact ⟨o,keep c o (I.cne x c e) D f t (I.freeC x c e),hd⟩
 refine ⟨I.ok,I.os,K,⟨fun b o e n j a=>?_,fun b o e n j a=>?_,fun b o e n a=>?_,fun b o e a=>?_,fun b xs e=>tups b xs (I.base.tups b xs e),fun b o xs e=>frzs b o xs (I.base.frzs b o xs e),fun b ps e=>?_⟩,?_,fun x c e=>?_,?_,fun x c e=>?_,fun p E=>?_,hok,I.len⟩
 ·exact keep b o (A b o e) j (h b o e a) (I.base.keep b o e n j a) (I.base.free b o e n a)
 ·obtain ⟨sl,e1⟩:=I.base.slot b o e n j a
  obtain ⟨B,y⟩:=slot b _ (A b o e) j (h b o e a) e1 (I.base.free b o e n a)
  exact ⟨B,y⟩
 ·obtain ⟨o',e1⟩:=I.base.there b o e a
  exact free b o' (h b o e a) e1 (I.base.free b o e n a)
 ·obtain ⟨o',e1⟩:=I.base.there b o e a
  exact there b o' (h b o e a) e1
 ·obtain ⟨F,e1⟩:=I.base.tbls b ps e
  obtain ⟨J,y⟩:=tbls b _ e1
  exact ⟨F ++ J,by rw [y,Array.append_assoc]⟩
 ·obtain ⟨m,M,G⟩:=I.loc
  refine ⟨m,ns m M,fun i x v e1 y L=>?_⟩
  obtain ⟨u,r,l⟩:=G i x v e1 y L
  refine ⟨u,r,?_⟩
  rcases l with l | ⟨k,c,e,z⟩
  ·exact .inl l
  ·exact .inr ⟨k,c,e,cellK x c e _ z⟩
 ·obtain ⟨v,z⟩:=I.cell x c e
  exact ⟨v,cellK x c e v z⟩
 ·obtain ⟨m,⟨o,_,_,t,_⟩,_⟩:=I.loc
  exact free _ o (fun z=>(g _ z).2.1 rfl) t I.free
 ·obtain ⟨v,o,t,hd⟩:=I.cell x c e
  exact free c o (fun z=>(g c z).2.2.1 x c e rfl) t (I.freeC x c e)
 ·obtain ⟨e,n,ne,C,d⟩:=I.pin p E
  have f:p.1 ∉ ch:=fun z=>(g p.1 z).2.2.2 p E rfl
  exact ⟨keep p.1 p.2 ne C f e n,free p.1 p.2 f e n,ne,C,d⟩
theorem Inv.un {t':Nat} (I:Inv X pins σ H s) (u:Un X.fs [] H H' s.heap h') (hok:HOk X.prog X.w H' h'):Inv X pins σ H' { s with heap:=h',toks:=t' }:=by
 obtain ⟨m,⟨o,es,j,g,r⟩,_⟩:=id I.loc
 obtain ⟨sl,h⟩:=u.any g I.free (by simp)
 exact I.step (g':=s.gens) (d':=s.drawn) (ch:=[]) (fun _ z=>nomatch z) (fun b o _ d _ e n=>u.keep b o e n d (by simp)) (fun b o _ d _ e n=>u.slot b o e n d (by simp)) (fun b o _ e n=>u.free b o e n (by simp)) (fun b o _ e=>u.there b o e (by simp)) u.tups u.frzs u.tbls (fun k hm=>by
  obtain ⟨o',f,c,a,i⟩:=hm
  rw [g] at a;cases a
  exact ⟨_,f,c,h,i⟩) hok I.bare
theorem Inv.call {t':Nat} (I:Inv X pins σ H s) (u:Un (frs X.stack) ch H H' s.heap h') (hok:HOk X.prog X.w H' h') (l:AllBare g') (f:∀ b ∈ ch,(b ∈ X.ex\/X.s₀.heap.objs.size<=b)/\b ≠ X.env.locals/\(∀ x c,X.env.cells.lookup x=some c->c ≠ b)/\∀ p ∈ X.pn ++ pins,p.1 ≠ b) :
  Inv X pins σ H' { s with heap:=h',gens:=g',drawn:=d',toks:=t' }:=by
 obtain ⟨m,⟨o,es,t,j,r⟩,_⟩:=id I.loc
 obtain ⟨sl,h⟩:=u.any j I.free fun z=>(f _ z).2.1 rfl
 exact I.step (ch:=ch) f (fun b o h k a e n=>u.keep b o e n (fun z=>(Dw.mp (I.stkSub b z)).elim h k) a) (fun b o _ _ a e n=>u.any e n a) (fun b o a e n=>u.free b o e n a) (fun b o a e=>u.there b o e a) u.tups u.frzs u.tbls (fun v hm=>by
  obtain ⟨o',i,g,d,q⟩:=hm
  rw [j] at d;cases d
  exact ⟨_,i,g,h,q⟩) hok l
theorem Inv.turned {t':Nat} (I:Inv X pins σ H s) (k:∀ b o,b ≠ it->s.heap.get? b=some o->h'.get? b=some o) (j:H it=none) (f:it ≠ X.env.locals) (h1:it ∈ X.ex\/X.s₀.heap.objs.size<=it) (h2:∀ x c,X.env.cells.lookup x=some c->c ≠ it) (h3:∀ p ∈ X.pn ++ pins,p.1 ≠ it):Inv X pins σ H { s with heap:=h',toks:=t' }:=by
 have d:∀ b u,H b=some u->b ≠ it:=fun b u e z=>by rw [z,j] at e;cases e
 refine I.step (g':=s.gens) (d':=s.drawn) (ch:=[it]) (fun b i=>?_) (fun b o _ _ a e _=>k b o (fun z=>a (by simp [z])) e) (fun b o _ _ a e _=>⟨o.slots,k b o (fun z=>a (by simp [z])) e⟩) (fun _ _ _ _ n=>n)
  (fun b o a e=>⟨o,k b o (fun z=>a (by simp [z])) e⟩) (fun _ _ e=>e) (fun _ _ _ e=>e) (fun b ps e=>⟨#[],by rw [e];simp⟩) (fun m hm=>?_) (fun b u e=>?_) I.bare
 ·have e:b=it:=by simpa using i
  subst e
  exact ⟨h1,f,h2,h3⟩
 ·obtain ⟨o,es,g,h,r⟩:=hm
  exact ⟨o,es,g,k _ o (Ne.symm f) h,r⟩
 ·refine (I.hok b u e).stay (fun c v a q=>k c v ?_ q) (fun _ q=>q) fun _ _ q=>q
  rcases a with z | z
  ·rw [z];exact d b u e
  ·exact d c _ z
theorem Inv.tok (I:Inv X pins σ H s) (t:Nat):Inv X pins σ H { s with toks:=t }:=I.un (h':=s.heap) (t':=t) Un.refl I.hok
theorem Inv.kept {t':Nat} (I:Inv X pins σ H s) (k:∀ b u,s.heap.get? b=some u->h'.get? b=some u):Inv X pins σ H { s with heap:=h',toks:=t' }:=I.un (Un.kept k) (I.hok.kept k)
theorem Inv.laid {t':Nat} (I:Inv X pins σ H s) (k:∀ b u,s.heap.get? b=some u->h'.get? b=some u) (c:s.heap.objs.size<=a) (new:ObjOk X.prog X.w (upd H a o) h' a o) :
  Inv X pins σ (upd H a o) { s with heap:=h',toks:=t' }:=I.un (Un.laid k c (I.hok.fresh c)) (I.hok.laid k c new)
theorem Inv.write {t':Nat} (I:Inv X pins σ H s) (c:Mut (H x)) (he:e=x\/H e=some (.own x)) (k:∀ b u,b ≠ e->s.heap.get? b=some u->h'.get? b=some u) (a:∃ u,h'.get? e=some u) (new:ObjOk X.prog X.w (upd H x o) h' x o):Inv X pins σ (upd H x o) { s with heap:=h',toks:=t' }:=I.un (Un.write c he k a) (I.hok.write c he k a new)
theorem Inv.pins_of (I:Inv X pins σ H s) (h:∀ p ∈ pins',s.heap.get? p.1=some p.2/\H p.1=none/\p.1 ≠ X.env.locals/\p.1 ∉ X.fs/\∀ v,p.2.data ≠ .cell v):Inv X pins' σ H s :=
 ⟨I.ok,I.os,I.bare,I.base,I.loc,I.cell,I.free,I.freeC,fun p a=>(Dz.mp a).elim (fun z=>I.pin p (Du _ z)) (h p),I.hok,I.len⟩
theorem oE {N:List Str} (d:N.Nodup) {i j:Nat} (a:N[i]?=some x) (b:N[j]?=some x):i=j:=by
 obtain ⟨h1,e1⟩:=DC.mp a
 obtain ⟨h2,c⟩:=DC.mp b
 exact (List.getElem_inj d).mp (e1.trans c.symm)
theorem lB {i:Nat} (I:Inv X pins σ H s) (hN:X.N.Nodup) (hi:X.N[i]?=some x) (t:Loc X.env.scope x) (r:RelV v u) (h:∀ s',Inv X pins (σ.set i (some v)) H s'->(∃ a,Heap.SameBut a s.heap s'.heap/\(a=X.env.locals\/X.env.cells.lookup x=some a))->Q () s') (hf:X.fn x=true\/X.env.scope.names.lookup x=some .local:=by first | exact .inl rfl | exact .inr rfl | assumption):wpAny M A (storeName X.env x u) Q E s:=by
 obtain ⟨m,hn,hl⟩:=id I.loc
 have L:(X.env.scope.kind == .class || (X.env.scope.kind == .module && X.env.locals != X.env.globals))=false:=by rw [I.ok.kind];rfl
 have hiσ:i < σ.length:=by rw [I.len];exact (DC.mp hi).1
 have cne:=I.cne
 have g:∀ {a:Addr} {h':Heap},(∃ o,s.heap.get? a=some o/\H a=none)->Heap.SameBut a s.heap h'->HOk X.prog X.w H h':=fun {a h'} ha f b ob e=>by
  obtain ⟨_,_,B⟩:=ha
  refine (I.hok b ob e).stay (fun c T l q=>(f.2 c ?_).trans q) (fun _ q=>q) fun _ _ q=>q
  rintro rfl
  rcases l with rfl | l
  ·rw [B] at e;cases e
  ·rw [B] at l;cases l
 rcases t with D | D
 ·refine wpAny_storeName_local D hn (fun h' Z f=>?_) L
  obtain ⟨oL,_,_,V,_⟩:=id hn
  refine h _ ⟨I.ok,I.os,I.bare,⟨fun b o e n J t=>?_,fun b o e n J t=>?_,I.base.free,fun b o e t=>?_,I.base.tups,I.base.frzs,I.base.tbls⟩,⟨_,Z,fun j y v' e1 C e3=>?_⟩,fun y c e=>?_,I.free,I.freeC,fun p W=>?_,g ⟨oL,V,I.free⟩ f,by simpa using I.len⟩ ⟨_,f,.inl rfl⟩
  ·exact (f.2 b (DJ (DO (Dy e) I.ok.above))).trans (I.base.keep b o e n J t)
  ·obtain ⟨sl,e1⟩:=I.base.slot b o e n J t
   exact ⟨sl,(f.2 b (DJ (DO (Dy e) I.ok.above))).trans e1⟩
  ·obtain ⟨o',e1⟩:=I.base.there b o e t
   exact ⟨o',(f.2 b (DJ (DO (Dy e) I.ok.above))).trans e1⟩
  ·by_cases G:j=i
   ·subst G
    rw [hi] at e1;cases e1
    rw [List.getElem?_set_self hiσ] at C
    cases C
    exact ⟨u,r,.inl ⟨D,by simp⟩⟩
   ·rw [List.getElem?_set_ne (Ne.symm G)] at C
    obtain ⟨u',Y,q⟩:=hl j y v' e1 C e3
    refine ⟨u',Y,?_⟩
    rcases q with ⟨k,e⟩ | ⟨k,c,e,z⟩
    ·refine .inl ⟨k,?_⟩
     have:y ≠ x:=fun e=>G (oE hN e1 (e ▸ hi))
     simp [this,e]
    ·exact .inr ⟨k,c,e,z.sameBut f (cne y c e)⟩
  ·obtain ⟨T,z⟩:=I.cell y c e
   exact ⟨T,z.sameBut f (cne y c e)⟩
  ·obtain ⟨e,n,ne,U,d⟩:=I.pin p W
   exact ⟨(f.2 p.1 ne).trans e,n,ne,U,d⟩
 ·have F:X.fn x=true:=by
   rcases hf with z | z
   ·exact z
   ·rw [z] at D;cases D
  obtain ⟨c,l⟩:=I.ok.has x (.inl D)
  obtain ⟨T,z⟩:=I.cell x c l
  refine wpAny_storeName_cell I.ok.kind D l z (fun h' K f=>?_)
  obtain ⟨oc,O,P⟩:=id z
  refine h { s with heap:=h' } ⟨I.ok,I.os,I.bare,⟨fun b o e n J t=>?_,fun b o e n J t=>?_,I.base.free,fun b o e t=>?_,I.base.tups,I.base.frzs,I.base.tbls⟩,⟨m,hn.sameBut f (Ne.symm (cne x c l)),fun j y v' e1 C e3=>?_⟩,fun y S e=>?_,I.free,I.freeC,fun p W=>?_,g ⟨oc,O,I.freeC x c l⟩ f,by simpa using I.len⟩ ⟨c,f,.inr l⟩
  ·exact (f.2 b (DJ (DO (Dy e) (I.ok.cab x c F l)))).trans (I.base.keep b o e n J t)
  ·obtain ⟨sl,e1⟩:=I.base.slot b o e n J t
   exact ⟨sl,(f.2 b (DJ (DO (Dy e) (I.ok.cab x c F l)))).trans e1⟩
  ·obtain ⟨o',e1⟩:=I.base.there b o e t
   exact ⟨o',(f.2 b (DJ (DO (Dy e) (I.ok.cab x c F l)))).trans e1⟩
  ·by_cases G:j=i
   ·subst G
    rw [hi] at e1;cases e1
    rw [List.getElem?_set_self hiσ] at C
    cases C
    exact ⟨u,r,.inr ⟨.inl D,c,l,K⟩⟩
   ·rw [List.getElem?_set_ne (Ne.symm G)] at C
    obtain ⟨u',Y,q⟩:=hl j y v' e1 C e3
    refine ⟨u',Y,?_⟩
    rcases q with q | ⟨k,S,e,z'⟩
    ·exact .inl q
    ·refine .inr ⟨k,S,e,z'.sameBut f ?_⟩
     rintro rfl
     exact G (oE hN e1 (I.ok.inj _ _ _ e l ▸ hi))
  ·by_cases R:S=c
   ·subst R;exact ⟨_,K⟩
   ·obtain ⟨w2,z2⟩:=I.cell y S e
    exact ⟨w2,z2.sameBut f R⟩
  ·obtain ⟨e,n,ne,U,d⟩:=I.pin p W
   refine ⟨(f.2 p.1 ?_).trans e,n,ne,U,d⟩
   intro q
   rw [q,O] at e
   have q':oc=p.2:=Ei e
   exact d T (by rw [<- q'];exact P)
theorem nO {i:Nat} (I:Inv X pins σ H s) (c:X.N.Nodup) (hi:X.N[i]?=some x) (a:Loc X.env.scope x) (r:RelV v u) (h:∀ s',Inv X pins (σ.set i (some v)) H s'->Q () s') (hf:X.fn x=true\/X.env.scope.names.lookup x=some .local:=by first | exact .inl rfl | exact .inr rfl | assumption):wpAny M A (storeName X.env x u) Q E s :=
 lB I c hi a r (fun s' b _=>h s' b) hf
theorem Inv.call' (I:Inv X pins σ H s) (d:s'.os=s.os) (u:Un (frs X.stack) ch H H' s.heap s'.heap) (hok:HOk X.prog X.w H' s'.heap) (f:AllBare s'.gens) (a:∀ b ∈ ch,(b ∈ X.ex\/X.s₀.heap.objs.size<=b)/\b ≠ X.env.locals/\(∀ x c,X.env.cells.lookup x=some c->c ≠ b)/\∀ p ∈ X.pn ++ pins,p.1 ≠ b):Inv X pins σ H' s':=by
 obtain ⟨h',g',d',t',o'⟩:=s'
 have e:o'=s.os:=d
 subst e
 exact I.call (g':=g') (t':=t') (d':=d') u hok f a
end
abbrev XK:=Value->Option Addr->Hp->Prop
abbrev St:=List (Option V)
abbrev VK:=V->Hp->Prop
abbrev TE:=St->Hp->VK->Prop
abbrev TT:=St->Hp->(Bool->Hp->Prop)->Prop
abbrev TA:=St->Hp->(List V->Hp->Prop)->Prop
structure Ends where
 nx:St->Hp->Prop
 rt:VK
 bk:St->Hp->Prop:=fun _ _=>False
 ct:St->Hp->Prop:=fun _ _=>False
abbrev TS:=Ends->St->Hp->Prop
def EP (X:Cx) (pins:List (Addr × Obj)) (σ:St) (Q:VK) (u:Value) (s':Shared):Prop:=∃ v H',Inv X pins σ H' s'/\RelV v u/\Q v H'
def TP (X:Cx) (pins:List (Addr × Obj)) (σ:St) (Q:Bool->Hp->Prop) (b:Bool) (s':Shared):Prop:=∃ H',Inv X pins σ H' s'/\Q b H'
def AP (X:Cx) (pins:List (Addr × Obj)) (σ:St) (Q:List V->Hp->Prop) (us:List Value) (s':Shared):Prop:=∃ a H',Inv X pins σ H' s'/\Vals a us/\Q a H'
def SP (X:Cx) (pins:List (Addr × Obj)) (D:Ends) (f:Flow) (s':Shared):Prop :=
 match f with
 | .next=>∃ σ' H',Inv X pins σ' H' s'/\D.nx σ' H'
 | .brk=>∃ σ' H',Inv X pins σ' H' s'/\D.bk σ' H'
 | .cont=>∃ σ' H',Inv X pins σ' H' s'/\D.ct σ' H'
 | .ret u=>∃ v σ' H',Inv X pins σ' H' s'/\RelV v u/\D.rt v H'
def PE (X:Cx) (e:Expr) (t:TE):Prop :=
 ∀ (pins:List (Addr × Obj)) (s:Shared) (σ:St) (H:Hp) (Q:VK),Inv X pins σ H s->t σ H Q->wpAny (model X.prog X.w) X.A (eval e X.env) (EP X pins σ Q) X.xe s
def PT (X:Cx) (e:Expr) (t:TT):Prop :=
 ∀ (pins:List (Addr × Obj)) (s:Shared) (σ:St) (H:Hp) (Q:Bool->Hp->Prop),Inv X pins σ H s->t σ H Q->wpAny (model X.prog X.w) X.A (isTrue e X.env (eval e X.env)) (TP X pins σ Q) X.xe s
def PW (X:Cx) (e:Expr) (t:TT):Prop :=
 ∀ (whole:Sem Value) (pins:List (Addr × Obj)) (s:Shared) (σ:St) (H:Hp) (Q:Bool->Hp->Prop),Inv X pins σ H s->t σ H Q->wpAny (model X.prog X.w) X.A (isTrue e X.env whole) (TP X pins σ Q) X.xe s
theorem PW.pt (h:PW X e t):PT X e t:=h _
def PA (X:Cx) (es:List Expr) (t:TA):Prop :=
 ∀ (pos:Pos) (pins:List (Addr × Obj)) (s:Shared) (σ:St) (H:Hp) (Q:List V->Hp->Prop),Inv X pins σ H s->t σ H Q->wpAny (model X.prog X.w) X.A (spliced (backTo pos (starEach es X.env))) (AP X pins σ Q) X.xe s
def PS (X:Cx) (st:Stmt) (t:TS):Prop :=
 ∀ (pins:List (Addr × Obj)) (s:Shared) (σ:St) (H:Hp) (D:Ends),Inv X pins σ H s->t D σ H->wpAny (model X.prog X.w) X.A (exec st X.env) (SP X pins D) X.xe s
def PSs (X:Cx) (st:List Stmt) (t:TS):Prop :=
 ∀ (pins:List (Addr × Obj)) (s:Shared) (σ:St) (H:Hp) (D:Ends),Inv X pins σ H s->t D σ H->wpAny (model X.prog X.w) X.A (execs st X.env) (SP X pins D) X.xe s
theorem thn (h:wpAny M A t Q E s) (b:∀ a s,Q a s->Q' a s):wpAny M A t Q' E s:=wpAny_mono h b fun _ _ x=>x
end L2
namespace L2
open PySem PySem.Spec PyProof.Rows
section
variable {X:Cx}
theorem bin (d:PE X a ta) (g:PE X b tb) {R:V->V->Hp->Prop} (I:Inv X pins σ H s) (h:ta σ H fun x H1=>tb σ H1 fun y H2=>R x y H2) {Q:α->Shared->Prop} {f:Value->Value->Sem α} (hf:∀ v u s2 x y H2,Inv X pins σ H2 s2->RelV x v->RelV y u->R x y H2->wpAny (model X.prog X.w) X.A (f v u) Q X.xe s2) :
  wpAny (model X.prog X.w) X.A (eval a X.env) (fun v i=>wpAny (model X.prog X.w) X.A (eval b X.env) (fun u n=>wpAny (model X.prog X.w) X.A (f v u) Q X.xe n) X.xe i) X.xe s:=by
 refine thn (d pins s σ H _ I h) fun v s1 ⟨x,H1,l,c,e⟩=>?_
 refine thn (g pins s1 σ H1 _ l e) fun u s2 ⟨y,H2,m,k,j⟩=>?_
 exact hf v u s2 x y H2 m c k j
def pW (i:Nat):TE:=fun σ H Q=>∃ v,σ[i]?=some (some v)/\Q v H
def tC (v:V):TE:=fun _ H Q=>Q v H
theorem iZ {i:Nat} (n:X.N[i]?=some x) (j:Vis X.env.scope x) (hd:(x == ("__debug__":Str))=false:=by decide) (d:(x == ("__classdict__":Str))=false:=by decide):PE X (.Name x pos) (pW i):=by
 intro pins s σ H Q I h
 obtain ⟨v,e,h⟩:=h
 obtain ⟨m,k,g⟩:=I.loc
 obtain ⟨u,r,l⟩:=g i x v n e j
 have fin:EP X pins σ Q u s:=⟨v,H,I,r,h⟩
 rcases l with ⟨b,hm⟩ | ⟨b,c,f,a⟩
 ·exact wpAny_Name (wpAny_loadName_local I.ok.kind b k hm fin) hd
 ·rcases b with b | b
  ·exact wpAny_Name (wpAny_loadName_cell I.ok.kind b f a fin) hd
  ·exact wpAny_Name (wpAny_loadName_free I.ok.kind b f a fin d) hd
theorem Ch:PE X (.Constant (.int i) j pos) (tC (.int i)):=fun _ _ _ H _ I h=>wpAny_Constant_int ⟨.int i,H,I.tok _,⟨_,rfl⟩,h⟩
theorem pe_bl:PE X (.Constant (.bool b) j pos) (tC (.bl b)):=fun _ _ _ H _ I h=>Constant_bool ⟨.bl b,H,I,rfl,h⟩
theorem Cf:PE X (.Constant .none j pos) (tC .non):=fun _ _ _ H _ I h=>Constant_none ⟨.non,H,I,rfl,h⟩
def Gl (X:Cx) (x:Str):Prop:=X.env.kindOf x=some .globalImplicit
theorem se (I:Inv X pins σ H s) (a:Gl X x) (hm:X.mg x=some u) (h:Q u s) (hd:(x == ("__debug__":Str))=false:=by decide):wpAny (model X.prog X.w) X.A (eval (.Name x pos) X.env) Q E s :=
 Calls.Name_function_global I.ok.kind a (Calls.loadGlobal_global (by rw [I.ok.glob];exact I.mod.glob.keeps I.bk) hm h) hd
theorem fK (I:Inv X pins σ H s) (a:Gl X x) (hm:X.mg x=none) (b:bootBuiltins x=some u) (h:Q u s) (c:x ≠ "__name__":=by decide) (hd:(x == ("__debug__":Str))=false:=by decide):wpAny (model X.prog X.w) X.A (eval (.Name x pos) X.env) Q E s:=by
 obtain ⟨mb,h1,h2⟩:=I.mod.blt
 exact Calls.Name_function_global I.ok.kind a (Calls.loadGlobal_builtin (by rw [I.ok.glob];exact I.mod.glob.keeps I.bk) hm (by rw [I.ok.blt];exact h1.keeps I.bk) ((h2 x c).trans b) h) hd
theorem zA (a:Gl X x) (hm:X.mg x=some u) (r:RelV v u) (hd:(x == ("__debug__":Str))=false:=by decide):PE X (.Name x pos) (tC v) :=
 fun _ _ _ H _ I h=>se I a hm ⟨v,H,I,r,h⟩ hd
theorem jU (a:Gl X x) (hm:X.mg x=none) (b:bootBuiltins x=some u) (r:RelV v u) (c:x ≠ "__name__":=by decide) (hd:(x == ("__debug__":Str))=false:=by decide):PE X (.Name x pos) (tC v) :=
 fun _ _ _ H _ I h=>fK I a hm b ⟨v,H,I,r,h⟩ c hd
variable {a b:Expr} {ta tb:TE} {pos:Pos}
def PC (X:Cx) (op:CmpOp) (a b:Expr) (t:TE):Prop :=
 ∀ (pins:List (Addr × Obj)) (s:Shared) (σ:St) (H:Hp) (Q:VK),Inv X pins σ H s->t σ H Q ->
  wpAny (model X.prog X.w) X.A (eval a X.env) (fun v c=>wpAny (model X.prog X.w) X.A (eval b X.env) (fun u d=>wpAny (model X.prog X.w) X.A (compareOp op v u) (EP X pins σ Q) X.xe d) X.xe c) X.xe s
def tB (t:TE):TT:=fun σ H Q=>t σ H fun x H1=>∃ c,x=.bl c/\Q c H1
theorem B3 (h:PE X e t) (he:∀ whole,isTrue e X.env whole=(do let v <- whole;standAt e.pos;holding [v] (truthy v)):=by intro _;rfl):PT X e (tB t):=by
 intro pins s σ H Q I hw
 refine isTrue_plain (thn (h pins s σ H _ I hw) fun v s1 ⟨x,H1,c,a,b⟩=>?_) (he _)
 obtain ⟨d,rfl,q⟩:=b
 cases a
 exact Ec ⟨H1,c,q⟩
variable {tA tB':TT} {dI:List Expr}
def tOr (t u:TT):TT:=fun σ H Q=>t σ H fun c H1=>if c=true then Q true H1 else u σ H1 Q
def tNot (t:TT):TT:=fun σ H Q=>t σ H fun c H1=>Q (!c) H1
theorem BZ (b:PT X a tA):PW X (.BoolOp .Or [a] pos) tA:=by
 intro d pins s σ H Q I h
 refine isTrue_or (thn (b pins s σ H Q I h) fun c s1 e=>?_)
 cases c with
 | false=>exact isTrue_or_nil e
 | true=>exact e
theorem pw_or (i:PT X a tA) (f:PW X (.BoolOp .Or (b :: dI) pos) tB'):PW X (.BoolOp .Or (a :: b :: dI) pos) (tOr tA tB'):=by
 intro g pins s σ H Q I h
 refine isTrue_or (thn (i pins s σ H _ I h) fun c s1 ⟨H1,d,e⟩=>?_)
 cases c with
 | true=>exact ⟨H1,d,e⟩
 | false=>exact f g pins s1 σ H1 Q d e
theorem B4 (b:PT X a tA):PT X (.UnaryOp .Not a pos) (tNot tA):=by
 intro pins s σ H Q I h
 exact isTrue_not (b pins s σ H (fun c H1=>Q (!c) H1) I h)
def AF (ta tb:TE):TE:=fun σ H Q=>ta σ H fun x H1=>∃ c,x=.bl c/\if c=true then tb σ H1 Q else Q (.bl false) H1
def Az (ta:TE):TE:=fun σ H Q=>ta σ H fun x H1=>∃ c,x=.bl c/\Q (.bl (!c)) H1
theorem Cd (h:PE X a t):PE X (.BoolOp op [a] pos) t:=fun pins s σ H Q I hw=>BoolOp_one (h pins s σ H Q I hw)
theorem Ci (g:PE X a ta) (i:PE X (.BoolOp .And (b :: dI) pos) tb):PE X (.BoolOp .And (a :: b :: dI) pos) (AF ta tb):=by
 intro pins s σ H Q I h
 refine BoolOp_and (thn (g pins s σ H _ I h) fun v s1 ⟨x,H1,e,f,d⟩=>?_)
 obtain ⟨c,rfl,d⟩:=d
 cases f
 refine Ec ?_
 cases c with
 | true=>exact i pins s1 σ H1 Q e d
 | false=>exact ⟨.bl false,H1,e,rfl,d⟩
theorem Ce (f:PE X a ta):PE X (.UnaryOp .Not a pos) (Az ta):=by
 intro pins s σ H Q I h
 refine UnaryOp_ (thn (f pins s σ H _ I h) fun v s1 ⟨x,H1,e,d,b⟩=>?_)
 obtain ⟨c,rfl,b⟩:=b
 cases d
 exact not_of (Ec ⟨.bl (!c),H1,e,rfl,b⟩)
def tIf (t:TT) (ta tb:TE):TE:=fun σ H Q=>t σ H fun c H1=>if c=true then ta σ H1 Q else tb σ H1 Q
theorem wk (i:PT X c tA) (j:PE X a ta) (g:PE X b tb):PE X (.IfExp c a b pos) (tIf tA ta tb):=by
 intro pins s σ H Q I h
 refine wpAny_IfExp (thn (i pins s σ H _ I h) fun d s1 ⟨H1,e,f⟩=>?_)
 cases d with
 | true=>exact j pins s1 σ H1 Q e f
 | false=>exact g pins s1 σ H1 Q e f
end
end L2
namespace L2
open PySem PySem.Spec PyProof.Rows
def SqL (K:FG) (H:Hp) (a:Addr) (xs:List V):Prop :=
 Rd H a (.lst xs) \/
  ∃ (o:Obj) (its:Array Value) (n:Nat),K.lookup a=some o/\o.cls=.type "list"/\o.dict=none/\o.data=.seq its n/\its.size<=sizeLine/\Vals xs its.toList
def SqT (K:FG) (H:Hp) (a:Addr) (xs:List V):Prop :=
 Rd H a (.tup xs) \/
  ∃ (o:Obj) (its:Array Value) (n:Nat),K.lookup a=some o/\o.cls=.type "tuple"/\o.data=.seq its n/\its.size<=sizeLine/\Vals xs its.toList
def absV:Value->Option V
 | .none=>some .non
 | .bool b=>some (.bl b)
 | .int i _=>some (.int i)
 | .str x _=>some (.str x)
 | .bytes b _=>some (.byt b)
 | .float b _=>some (.flt b)
 | .ref a=>some (.ref a)
 | .type n=>some (.ty n)
 | _=>none
theorem RelV.abs (r:RelV x u):absV u=some x:=by
 cases x with
 | non=>cases r;rfl
 | bl _=>cases r;rfl
 | int _=>obtain ⟨t,rfl⟩:=r;rfl
 | str _=>obtain ⟨t,rfl⟩:=r;rfl
 | byt _=>obtain ⟨t,rfl⟩:=r;rfl
 | flt _=>obtain ⟨t,rfl⟩:=r;rfl
 | ref _=>cases r;rfl
 | ty _=>cases r;rfl
theorem RelV.inj (r:RelV x u) (q:RelV y u):x=y:=Ei (r.abs.symm.trans q.abs)
theorem Vals.inj:∀ {xs ys:List V} {us:List Value},Vals xs us->Vals ys us->xs=ys
 | _,_,_,.nil,.nil=>rfl
 | _,_,_,.cons r t,.cons r' t'=>by rw [r.inj r',Vals.inj t t']
section
variable {X:Cx} {pins:List (Addr × Obj)} {σ:St} {H:Hp} {s:Shared} {a:Addr} {xs ys:List V}
theorem SqL.of {K:FG} (h:H a=some (.lst xs)):SqL K H a xs:=.inl (.inl h)
theorem SqT.of {K:FG} (h:H a=some (.tup xs)):SqT K H a xs:=.inl (.inl h)
theorem Inv.list (I:Inv X pins σ H s) (h:SqL X.K H a xs):∃ its:List Value,Vals xs its/\PlainL s.heap a its.toArray/\xs.length<=sizeLine:=by
 rcases h with h | ⟨o,its,n,b,d,hd,c,hz,r⟩
 ·obtain ⟨z,its,n,r,e⟩:=h.ok I.hok
  exact ⟨its,r,⟨_,n,e,rfl,rfl,rfl⟩,z⟩
 ·refine ⟨its.toList,r,⟨o,n,I.kIn a o b,d,hd,by simpa using c⟩,?_⟩
  have e:=r.length
  simp only [Array.length_toList] at e
  lia
theorem Inv.tuple (I:Inv X pins σ H s) (h:SqT X.K H a xs):∃ its:List Value,Vals xs its/\IsTup s.heap a its.toArray/\xs.length<=sizeLine:=by
 rcases h with h | ⟨o,its,n,b,d,c,hz,r⟩
 ·obtain ⟨z,its,r,p⟩:=h.ok I.hok
  exact ⟨its,r,p.tup,z⟩
 ·refine ⟨its.toList,r,⟨o,I.kIn a o b,d,n,by simpa using c⟩,?_⟩
  have e:=r.length
  simp only [Array.length_toList] at e
  lia
theorem Inv.list_inj (I:Inv X pins σ H s) (h:SqL X.K H a xs) (h':SqL X.K H a ys):xs=ys:=by
 obtain ⟨its,r,⟨o,n,e,_,_,d⟩,_⟩:=I.list h
 obtain ⟨its',c,⟨o',f,b,_,_,d'⟩,_⟩:=I.list h'
 rw [e] at b;cases b
 rw [d] at d'
 injection d' with d1 _
 have:its=its':=by simpa using congrArg Array.toList d1
 subst this
 exact r.inj c
theorem Inv.tuple_inj (I:Inv X pins σ H s) (h:SqT X.K H a xs) (h':SqT X.K H a ys):xs=ys:=by
 obtain ⟨its,r,⟨o,e,_,n,d⟩,_⟩:=I.tuple h
 obtain ⟨its',c,⟨o',b,_,f,d'⟩,_⟩:=I.tuple h'
 rw [e] at b;cases b
 rw [d] at d'
 injection d' with d1 _
 have:its=its':=by simpa using congrArg Array.toList d1
 subst this
 exact r.inj c
end
abbrev Cx.wish (X:Cx) (E:Value->Shared->Prop):Cx:={ X with xe:=E }
abbrev Cx.nox (X:Cx):Cx:=X.wish fun _ _=>False
theorem Cx.Ok.wish {X:Cx} (ok:X.Ok) (E:Value->Shared->Prop):(X.wish E).Ok :=
 ⟨ok.mod,ok.kind,ok.glob,ok.blt,ok.above,ok.inj,ok.has,ok.cab,ok.hd,ok.frames,ok.stk,ok.exf,ok.bs,ok.bsz,ok.noex,ok.exfs,ok.funs,ok.frf⟩
theorem Cx.Ok.unwish {X:Cx} (ok:(X.wish E).Ok):X.Ok :=
 ⟨ok.mod,ok.kind,ok.glob,ok.blt,ok.above,ok.inj,ok.has,ok.cab,ok.hd,ok.frames,ok.stk,ok.exf,ok.bs,ok.bsz,ok.noex,ok.exfs,ok.funs,ok.frf⟩
section
variable {X:Cx} {pins:List (Addr × Obj)} {σ:St} {H:Hp} {s:Shared} {E:Value->Shared->Prop}
theorem Inv.wish (I:Inv X pins σ H s) (E:Value->Shared->Prop):Inv (X.wish E) pins σ H s:=⟨I.ok.wish E,I.os,I.bare,I.base,I.loc,I.cell,I.free,I.freeC,I.pin,I.hok,I.len⟩
theorem Inv.unwish (I:Inv (X.wish E) pins σ H s):Inv X pins σ H s:=⟨I.ok.unwish,I.os,I.bare,I.base,I.loc,I.cell,I.free,I.freeC,I.pin,I.hok,I.len⟩
theorem SP.unwish (h:SP (X.wish E) pins D f s'):SP X pins D f s':=by
 cases f with
 | next=>obtain ⟨σ',H',I,q⟩:=h;exact ⟨σ',H',I.unwish,q⟩
 | brk=>obtain ⟨σ',H',I,q⟩:=h;exact ⟨σ',H',I.unwish,q⟩
 | cont=>obtain ⟨σ',H',I,q⟩:=h;exact ⟨σ',H',I.unwish,q⟩
 | ret u=>obtain ⟨v,σ',H',I,r,q⟩:=h;exact ⟨v,σ',H',I.unwish,r,q⟩
theorem PSs.nox {st:List Stmt} (h:PSs X.nox st t):PSs X st t:=fun pins s σ H D I hw =>
 wpAny_mono (h pins s σ H D (I.wish _) hw) (fun _ _ q=>q.unwish) fun _ _ z=>False.elim z
end
section
variable {X:Cx} {st:Stmt} {dI:List Stmt} {t u:TS} {e:Expr} {te:TE} {pos:Pos}
def AB:TS:=fun D σ H=>D.nx σ H
def tSeq (t u:TS):TS:=fun D σ H=>t { D with nx:=u D } σ H
theorem zp:PSs X [] AB:=fun _ _ σ H _ I h=>wpAny_execs_nil ⟨σ,H,I,h⟩
theorem vW (h1:PS X st t) (h2:PSs X dI u):PSs X (st :: dI) (tSeq t u):=by
 intro pins s σ H D I h
 refine wpAny_execs_cons (thn (h1 pins s σ H { D with nx:=u D } I h) fun f s1 q=>?_)
 cases f with
 | next =>
  obtain ⟨σ',H',a,q⟩:=q
  exact h2 pins s1 σ' H' D a q
 | ret v=>exact q
 | brk=>exact q
 | cont=>exact q
theorem zo (h1:PS X st t):PSs X [st] t:=by
 intro pins s σ H D I h
 refine wpAny_execs_cons (thn (h1 pins s σ H D I h) fun f s1 q=>?_)
 cases f with
 | next=>exact wpAny_execs_nil q
 | ret v=>exact q
 | brk=>exact q
 | cont=>exact q
theorem Inv.quiet (I:Inv X pins σ H s):interactive X.env=false:=by simp [interactive,I.ok.kind]
def AD (te:TE):TS:=fun D σ H=>te σ H fun _ H1=>D.nx σ H1
theorem zq (he:PE X e te) (b:swapsWith e none pos.line X.env=pure false:=by rfl):PS X (.Expr e pos) (AD te):=by
 intro pins s σ H D I h
 exact wpAny_Expr_any (thn (he pins s σ H _ I h) fun v s1 ⟨x,H1,a,d,c⟩=>⟨σ,H1,a,c⟩) I.quiet b
def tRet (te:TE):TS:=fun D σ H=>te σ H D.rt
theorem B6 (he:PE X e te):PS X (.Return (some e) pos) (tRet te):=by
 intro pins s σ H D I h
 exact wpAny_Return_some (thn (he pins s σ H _ I h) fun v s1 ⟨x,H1,b,a,c⟩=>⟨x,σ,H1,b,a,c⟩)
def tIfS (c:TT) (t u:TS):TS:=fun D σ H=>c σ H fun b H1=>if b=true then t D σ H1 else u D σ H1
theorem ps_if (i:PT X c tc) (j:PSs X a t) (g:PSs X b u):PS X (.If c a b pos) (tIfS tc t u):=by
 intro pins s σ H D I h
 refine wpAny_If (thn (i pins s σ H _ I h) fun d s1 ⟨H1,e,f⟩=>?_)
 cases d with
 | true=>exact j pins s1 σ H1 D e f
 | false=>exact g pins s1 σ H1 D e f
def Bg:TS:=fun _ _ _=>False
theorem vY:PS X st Bg:=fun _ _ _ _ _ _ h=>h.elim
end
abbrev TG:=V->St->Hp->(St->Hp->Prop)->Prop
abbrev TGs:=List V->St->Hp->(St->Hp->Prop)->Prop
def PG (X:Cx) (target:Expr) (t:TG):Prop :=
 ∀ (pins:List (Addr × Obj)) (s:Shared) (σ:St) (H:Hp) (v:V) (u:Value) (Q:St->Hp->Prop),Inv X pins σ H s->RelV v u->t v σ H Q ->
  wpAny (model X.prog X.w) X.A (assign target X.env u) (fun _ s'=>∃ σ' H',Inv X pins σ' H' s'/\Q σ' H') X.xe s
def PGs (X:Cx) (b:List Expr) (t:TGs):Prop :=
 ∀ (pins:List (Addr × Obj)) (s:Shared) (σ:St) (H:Hp) (a:List V) (us:List Value) (Q:St->Hp->Prop),Inv X pins σ H s->Vals a us->t a σ H Q ->
  wpAny (model X.prog X.w) X.A (assignInOrder ((assignEach b X.env).map (·.2)) us) (fun _ s'=>∃ σ' H',Inv X pins σ' H' s'/\Q σ' H') X.xe s
abbrev Dk:=V->V->V->Hp->(Hp->Prop)->Prop
def x5 (X:Cx) (t:Dk):Prop :=
 ∀ (pins:List (Addr × Obj)) (s:Shared) (σ:St) (H:Hp) (o i v:V) (a b u:Value) (Q:Hp->Prop),Inv X pins σ H s->RelV o a->RelV i b->RelV v u->t o i v H Q ->
  wpAny (model X.prog X.w) X.A (setItem a b u) (fun _ s'=>∃ H',Inv X pins σ H' s'/\Q H') X.xe s
section
variable {X:Cx} {pos:Pos}
def gp (i:Nat):TG:=fun v σ H Q=>Q (σ.set i (some v)) H
theorem fZ {i:Nat} (c:X.N.Nodup) (hi:X.N[i]?=some x) (b:Loc X.env.scope x) (hf:X.fn x=true\/X.env.scope.names.lookup x=some .local:=by first | exact .inl rfl | exact .inr rfl | assumption):PG X (.Name x pos) (gp i):=by
 intro pins s σ H v u Q I r h
 exact wpAny_assign_Name (nO I c hi b r (fun s' a=>⟨_,H,a,h⟩) hf)
def xq:TGs:=fun a σ H Q=>a=[]/\Q σ H
def jF (t:TG) (u:TGs):TGs:=fun a σ H Q=>∃ v r,a=v :: r/\t v σ H fun σ' H'=>u r σ' H' Q
theorem mL:PGs X [] xq:=by
 intro pins s σ H a us Q I r h
 obtain ⟨e,h⟩:=h
 subst e
 cases r
 exact assignInOrder_nil ⟨σ,H,I,h⟩
theorem fD (h1:PG X e t) (h2:PGs X es u) (a:(assignEach (e :: es) X.env).map (·.2)=assign e X.env :: (assignEach es X.env).map (·.2):=by rfl):PGs X (e :: es) (jF t u):=by
 intro pins s σ H d us Q I r h
 obtain ⟨v,f,e1,h⟩:=h
 subst e1
 cases r with
 | cons r rr =>
  rw [a]
  refine assignInOrder_cons (thn (h1 pins s σ H _ _ _ I r h) fun _ s1 ⟨σ1,H1,c,b⟩=>?_)
  exact h2 pins s1 σ1 H1 _ _ Q c rr b
def xp (K:FG) (n:Nat) (t:TGs):TG:=fun v σ H Q=>∃ a xs,v=.ref a/\SqT K H a xs/\xs.length=n/\t xs σ H Q
theorem qj {k:Nat} {n:Nat} (j:X.calm=true) (h:PGs X es t) (l:(assignEach es X.env).length=n:=by rfl) (c:(assignEach es X.env).findIdx? (·.1)=none:=by rfl):PG X (.Tuple es k pos) (xp X.K n t):=by
 intro pins s σ H v u Q I r hw
 obtain ⟨a,xs,e1,i,g,hw⟩:=hw
 subst e1
 cases r
 obtain ⟨its,d,f,hz⟩:=I.tuple i
 refine assign_Tuple_tuple (I.ok.hd j) f (by simp [l,<- g,d.length]) c fun h' m=>?_
 have p:Inv X pins σ H { s with heap:=h' }:=I.kept (t':=s.toks) fun b o e=>m b o (DJ (Dy e)) e
 exact h pins _ σ H xs _ Q p (by simpa using d) hw
def gSub (to a:TE) (t:Dk):TG:=fun v σ H Q=>to σ H fun o H1=>a σ H1 fun i H2=>t o i v H2 fun b=>Q σ b
theorem Ca (e:PE X o to) (hi:PE X i ti) (g:x5 X t) (f:∀ v,assign (.Subscript o i pos) X.env v=(do
   let a <- holding [v] (eval o X.env)
   let b <- holding [v,a] (eval i X.env)
   standAt pos
   holding [v,a,b] (setItem a b v)
   release [v,a,b] []):=by intro _;rfl):PG X (.Subscript o i pos) (gSub to ti t):=by
 intro pins s σ H v u Q I r h
 rw [f]
 refine Dm (Dp (thn (e pins s σ H _ I h) fun a s1 ⟨x,H1,p,d,j⟩=>?_))
 refine Dm (Dp (thn (hi pins s1 σ H1 _ p j) fun b s2 ⟨y,H2,n,l,k⟩=>?_))
 refine Dm (wpAny_standAt (Dm (Dp (thn (g pins s2 σ H2 x y v a b u _ n d l r k) fun _ s3 ⟨q,c,m⟩=>?_))))
 exact wpAny_release ⟨σ,q,c,m⟩
def uY (te:TE) (g:TG):TS:=fun D σ H=>te σ H fun x H1=>g x σ H1 D.nx
theorem wa (he:PE X e te) (d:PG X tg g) (b:swapsWithSole [tg] e pos.line X.env=pure false:=by rfl) (hw:swappedStores [tg] e X.env=pure none:=by rfl) (h1:(assignEach [tg] X.env).map (·.2)=[assign tg X.env]:=by rfl):PS X (.Assign [tg] e pos) (uY te g):=by
 intro pins s σ H D I h
 refine wpAny_Assign_stores (thn (he pins s σ H _ I h) fun v s1 ⟨x,H1,f,a,c⟩=>?_) b hw
 rw [h1]
 exact thn (d pins s1 σ H1 x v _ f a c) fun _ s2 q=>q
theorem B5 {i:Nat} (j:X.N.Nodup) (hi:X.N[i]?=some x) (d:Loc X.env.scope x) (he:PE X e te) (b:swapsWith e (some (.Name x pos')) pos.line X.env=pure false:=by rfl) (hf:X.fn x=true\/X.env.scope.names.lookup x=some .local:=by first | exact .inl rfl | exact .inr rfl | assumption) :
  PS X (.Assign [.Name x pos'] e pos) (uY te (gp i)):=by
 intro pins s σ H D I h
 refine wpAny_Assign_Name (thn (he pins s σ H _ I h) fun v s1 ⟨y,H1,g,a,c⟩=>?_) b
 exact nO g j hi d a (fun s2 f=>⟨_,H1,f,c⟩) hf
end
section
variable {X:Cx} {pos:Pos}
def uU (c:TT) (tb:TS):TS:=fun D σ H=>∃ W:Nat->St->Hp->Prop,(∃ m,W m σ H)/\∀ m σ H,W m σ H ->
 c σ H fun b H1=>if b=true then ∃ N:St->Hp->Prop,(∀ σ' H',N σ' H'->∃ a,a < m/\W a σ' H')/\tb { D with nx:=N,ct:=N,bk:=D.nx } σ H1 else D.nx σ H1
theorem vX (l:PassesOwn (model X.prog X.w) X.A X.env X.xe) (p:PT X c tc) (t:PSs X body tb):PS X (.While c body [] pos) (uU tc tb):=by
 intro pins s σ H D I h
 obtain ⟨W,⟨m0,u⟩,turn⟩:=h
 refine wpAny_While (codeAny_whileLoop (fun n s'=>∃ σ' H',Inv X pins σ' H' s'/\W n σ' H') ?_ m0 ⟨σ,H,I,u⟩)
 rintro n s1 ⟨σ1,H1,q,r⟩
 refine wpAny_passesOwn l (thn (p pins s1 σ1 H1 _ q (turn n σ1 H1 r)) fun b s2 ⟨H2,o,e⟩=>?_)
 cases b with
 | true =>
  obtain ⟨N,m,e⟩:=e
  rw [if_pos rfl]
  refine wpAny_passesOwn l (thn (t pins s2 σ1 H2 _ o e) fun f s3 d=>?_)
  cases f with
  | next =>
   obtain ⟨σ3,a,i,j⟩:=d
   obtain ⟨k,hm,g⟩:=m σ3 a j
   exact ⟨k,hm,σ3,a,i,g⟩
  | cont =>
   obtain ⟨σ3,a,i,j⟩:=d
   obtain ⟨k,hm,g⟩:=m σ3 a j
   exact ⟨k,hm,σ3,a,i,g⟩
  | brk=>exact d
  | ret v=>exact d
 | false =>
  rw [if_neg DI]
  exact wpAny_execs_nil ⟨σ1,H2,o,e⟩
end
structure It where
 go:Nat->Hp->Prop
 yld:Nat->Hp->V->Hp->Prop
 stop:Nat->Hp->Prop
def FpOk (X:Cx) (pins:List (Addr × Obj)) (H:Hp) (b:Addr):Prop :=
 H b=none/\b ≠ X.env.locals/\b ∉ X.fs/\(b ∈ X.ex\/X.s₀.heap.objs.size<=b)/\(∀ x c,X.env.cells.lookup x=some c->c ≠ b)/\∀ p ∈ X.pn ++ pins,p.1 ≠ b
theorem Inv.fpOk (I:Inv X pins σ H s) (a:s.heap.objs.size<=b) (f:H' b=none):FpOk X pins H' b:=by
 refine ⟨f,Nat.ne_of_gt (DO I.lt a),I.nofs a,.inr (Ed I.sz a),fun x c e z=>?_,fun p d z=>?_⟩
 ·obtain ⟨v,q⟩:=I.cell x c e
  exact absurd (DO q.lt (by rw [z];exact a)) (Nat.lt_irrefl _)
 ·exact absurd (DO (Dy (I.pin p d).1) (by rw [z];exact a)) (Nat.lt_irrefl _)
structure Turn (P:Program) (w:World) (K:FG) (tg:Expr) (J:It) (fp:List Addr) (it:Addr) (tn:Nat->Heap->Prop):Prop where
 mem:it ∈ fp
 obj:∀ i h,tn i h->∀ b ∈ fp,∃ o,h.get? b=some o/\∀ v,o.data ≠ .cell v
 keep:∀ i h h',tn i h->(∀ b ∈ fp,∀ o,h.get? b=some o->h'.get? b=some o)->tn i h'
 item:∀ (X:Cx),X.prog=P->X.w=w->X.K=K->X.calm=true->∀ (i:Nat) (pins:List (Addr × Obj)) (s:Shared) (σ:St) (H:Hp) (E:Value->Shared->Prop),Inv X pins σ H s->(∀ b ∈ fp,FpOk X pins H b)->tn i s.heap->J.go i H ->
  wpAny (model P w) X.A (pyNext (.ref it)) (fun r s1=>∃ u,r=some u /\
   wpAny (model P w) X.A (letOwnedTupleGo tg (.ref it) u) (fun _ s2=>∃ x H',Inv X pins σ H' s2/\RelV x u/\J.yld i H x H'/\tn (i+1) s2.heap/\∀ b ∈ fp,H' b=none) E s1) E s
 done:∀ (X:Cx),X.prog=P->X.w=w->X.K=K->X.calm=true->∀ (i:Nat) (pins:List (Addr × Obj)) (s:Shared) (σ:St) (H:Hp) (E:Value->Shared->Prop),Inv X pins σ H s->(∀ b ∈ fp,FpOk X pins H b)->tn i s.heap->J.stop i H ->
  wpAny (model P w) X.A (pyNext (.ref it)) (fun r s1=>r=none/\Inv X pins σ H s1) E s
 self:∀ (A:Around) (i:Nat) (s:Shared) (Q:Value->Shared->Prop) (E:Value->Shared->Prop),tn i s.heap->Q (.ref it) s->wpAny (model P w) A (pyIter (.ref it)) Q E s
abbrev TI:=St->Hp->(It->Hp->Prop)->Prop
def PIE (X:Cx) (pins:List (Addr × Obj)) (σ:St) (tg:Expr) (R:It->Hp->Prop) (a:Value) (s2:Shared):Prop :=
 ∃ (it:Addr) (fp:List Addr) (c:Nat->Heap->Prop) (J:It) (H':Hp),a=.ref it/\Inv X pins σ H' s2/\Turn X.prog X.w X.K tg J fp it c/\c 0 s2.heap/\(∀ b ∈ fp,FpOk X pins H' b)/\R J H'
def PI (X:Cx) (tg iter:Expr) (a:TI):Prop :=
 ∀ (pins:List (Addr × Obj)) (s:Shared) (σ:St) (H:Hp) (R:It->Hp->Prop),Inv X pins σ H s->a σ H R ->
  wpAny (model X.prog X.w) X.A (eval iter X.env) (fun v s1=>wpAny (model X.prog X.w) X.A (pyIter v) (PIE X pins σ tg R) X.xe s1) X.xe s
theorem sk (c : s.heap.get? it = some o) (b : o.cls = .type n) (hd : o.data = .fields vs) (d : ["enumerate", "zip", "dict_itemiterator", "dict_reverseitemiterator", "odict_iterator", "itertools.zip_longest", "itertools.pairwise"].contains n = false) (a : Q () s) : wpAny M A (letOwnedTupleGo tg (.ref it) u) Q E s := by
  unfold letOwnedTupleGo
  cases tg <;> first
    | exact Dn a
    | (cases u <;> first
        | exact Dn a
        | (refine Dm (wpAny_load c ?_)
           rw [b, hd]
           show wpAny M A (if (["enumerate", "zip", "dict_itemiterator", "dict_reverseitemiterator", "odict_iterator", "itertools.zip_longest", "itertools.pairwise"].contains n && vs[0]? == some (rawInt _)) = true then _ else _) Q E s
           rw [if_neg (by intro h; rw [d, Bool.false_and] at h; cases h)]
           exact Dn a))
def Itl (K:FG) (a:Addr):It :=
 ⟨fun i H=>∃ xs x,SqL K H a xs/\xs[i]?=some x,fun i H x H'=>H'=H/\∀ xs,SqL K H a xs->xs[i]?=some x,fun i H=>∃ xs,SqL K H a xs/\xs.length<=i⟩
def Itt (K:FG) (a:Addr):It :=
 ⟨fun i H=>∃ xs x,SqT K H a xs/\xs[i]?=some x,fun i H x H'=>H'=H/\∀ xs,SqT K H a xs->xs[i]?=some x,fun i H=>∃ xs,SqT K H a xs/\xs.length<=i⟩
def Itr (lo:Int) (n:Nat):It:=⟨fun i _=>i < n,fun i H x H'=>H'=H/\x=.int (lo+i),fun i _=>n<=i⟩
theorem sT {P:Program} {w:World} {K:FG} {tg:Expr} (a it:Addr):Turn P w K tg (Itl K a) [it] it (fun i h=>h.IsListIter it a i) where
 mem:=by simp
 obj:=fun i h st b f=>by
  have e:b=it:=by simpa using f
  subst e
  obtain ⟨o,e,c,d⟩:=st
  exact ⟨o,e,fun v z=>by rw [d] at z;cases z⟩
 keep:=fun i h h' st k=>st.at fun o e=>k it (by simp) o e
 item:=by
  intro X l hw n A i pins s σ H E I hf st m
  subst l hw n
  obtain ⟨xs,x,j,t⟩:=m
  obtain ⟨its,r,p,hz⟩:=I.list j
  obtain ⟨u,hu,B⟩:=r.get t
  obtain ⟨f0,f1,f2,q,f4,y⟩:=hf it (by simp)
  refine wpAny_pyNext_list_item st p.isList (x:=u) (by simpa using hu) fun h' g sb=>?_
  have C:Inv X pins σ H { s with heap:=h' }:=I.turned (t':=s.toks) (fun b o f e=>(sb.2 b f).trans e) f0 f1 q f4 y
  obtain ⟨o,e,c,d⟩:=id g
  exact ⟨u,rfl,sk (s:={ s with heap:=h' }) e c d (by decide) ⟨x,H,C,B,⟨rfl,fun ys D=>by rw [I.list_inj D j];exact t⟩,g,fun b f=>(hf b f).1⟩⟩
 done:=by
  intro X l hw n A i pins s σ H E I hf st m
  subst l hw n
  obtain ⟨xs,j,t⟩:=m
  obtain ⟨its,r,p,hz⟩:=I.list j
  obtain ⟨f0,f1,f2,q,f4,y⟩:=hf it (by simp)
  have G:=r.length
  exact wpAny_pyNext_list_end (I.ok.hd A) st p.isList (by simp;omega) fun h' F=>⟨rfl,I.turned (t':=s.toks) (fun b o f e=>F b o f e) f0 f1 q f4 y⟩
 self:=fun _ _ _ _ _ st h=>wpAny_pyIter_listiter st h
theorem pR {P:Program} {w:World} {K:FG} {tg:Expr} (a it:Addr):Turn P w K tg (Itt K a) [it] it (fun i h=>h.IsTupleIter it a i) where
 mem:=by simp
 obj:=fun i h st b f=>by
  have e:b=it:=by simpa using f
  subst e
  obtain ⟨o,e,c,d⟩:=st
  exact ⟨o,e,fun v z=>by rw [d] at z;cases z⟩
 keep:=fun i h h' st k=>st.at fun o e=>k it (by simp) o e
 item:=by
  intro X l hw n A i pins s σ H E I hf st m
  subst l hw n
  obtain ⟨xs,x,j,t⟩:=m
  obtain ⟨its,r,p,hz⟩:=I.tuple j
  obtain ⟨u,hu,B⟩:=r.get t
  obtain ⟨f0,f1,f2,q,f4,y⟩:=hf it (by simp)
  refine wpAny_pyNext_tuple_item st (show s.heap.IsTuple a its.toArray from p) (x:=u) (by simpa using hu) fun h' g sb=>?_
  have C:Inv X pins σ H { s with heap:=h' }:=I.turned (t':=s.toks) (fun b o f e=>(sb.2 b f).trans e) f0 f1 q f4 y
  obtain ⟨o,e,c,d⟩:=id g
  exact ⟨u,rfl,sk (s:={ s with heap:=h' }) e c d (by decide) ⟨x,H,C,B,⟨rfl,fun ys D=>by rw [I.tuple_inj D j];exact t⟩,g,fun b f=>(hf b f).1⟩⟩
 done:=by
  intro X l hw n A i pins s σ H E I hf st m
  subst l hw n
  obtain ⟨xs,j,t⟩:=m
  obtain ⟨its,r,p,hz⟩:=I.tuple j
  obtain ⟨f0,f1,f2,q,f4,y⟩:=hf it (by simp)
  have G:=r.length
  exact wpAny_pyNext_tuple_end (I.ok.hd A) st (show s.heap.IsTuple a its.toArray from p) (by simp;omega) fun h' F=>⟨rfl,I.turned (t':=s.toks) (fun b o f e=>F b o f e) f0 f1 q f4 y⟩
 self:=fun _ _ _ _ _ st h=>wpAny_pyIter_tupleiter st h
theorem pS {P:Program} {w:World} {K:FG} {tg:Expr} (it:Addr) (lo:Int) (n:Nat):Turn P w K tg (Itr lo n) [it] it (fun i h=>IsRangeIter h it (lo+(i:Nat) * 1) ((n:Int) - (i:Nat)) 1) where
 mem:=by simp
 obj:=fun i h st b a=>by
  have e:b=it:=by simpa using a
  subst e
  exact ⟨_,st,fun v z=>by
   have u:Data.fields _=Data.cell v:=z
   cases u⟩
 keep:=fun i h h' st k=>k it (by simp) _ st
 item:=by
  intro X d hw j f i pins s σ H E I hf st g
  subst d hw j
  obtain ⟨f0,f1,f2,l,f4,m⟩:=hf it (by simp)
  have W:=Walks.range (prog:=X.prog) (w:=X.w) (I.ok.hd f) it lo 1 n
  refine W.item i s _ _ g st fun v h' tk q c p=>?_
  obtain ⟨t,rfl⟩:=q
  have r:Inv X pins σ H { s with heap:=h',toks:=tk }:=I.turned (fun b o a e=>p b o (by simpa using a) e) f0 f1 l f4 m
  refine ⟨_,rfl,sk (s:={ s with heap:=h',toks:=tk }) (n:="range_iterator") c rfl rfl (by decide) ⟨.int (lo+i),H,r,⟨t,?_⟩,⟨rfl,rfl⟩,c,fun b a=>(hf b a).1⟩⟩
  rw [Int.mul_one]
 done:=by
  intro X d hw j f i pins s σ H E I hf st g
  subst d hw j
  obtain ⟨f0,f1,f2,l,f4,m⟩:=hf it (by simp)
  exact wpAny_pyNext_range_end (I.ok.hd f) st (by have:n<=i:=g;lia) fun h' x=>⟨rfl,I.turned (t':=s.toks) (fun b o a e=>x b o a e) f0 f1 l f4 m⟩
 self:=fun _ _ _ _ _ st h=>wpAny_pyIter_rangeiter st h
end L2
namespace L2
open PySem PySem.Spec PyProof.Rows
section
variable {X:Cx} {tg:Expr}
theorem oq {lo hi:Int} {tk:Nat} (I:Inv X pins σ H s) (h1:-(2 ^ 62)<=lo) (h2:lo < 2 ^ 62) (h3:-(2 ^ 62)<=hi) (f:hi < 2 ^ 62) (q:R (Itr lo (hi - lo).toNat) H):wpAny (model X.prog X.w) X.A (pyIter (.ref s.heap.objs.size)) (PIE X pins σ tg R) E { s with heap:=s.heap.push { cls:=.type "range",data:=.fields #[.int lo t,.int hi u,.int 1 v] },toks:=tk }:=by
 refine wpAny_pyIter_range (IsRange.new ..) (small_one h1 h2 h3 f) ?_
 have a:Inv X pins σ H { s with heap:=s.heap.push { cls:=.type "range",data:=.fields #[.int lo t,.int hi u,.int 1 v] },toks:=tk }:=I.kept fun b o e=>Ds _ e
 refine ⟨(s.heap.push { cls:=.type "range",data:=.fields #[.int lo t,.int hi u,.int 1 v] }).objs.size,[(s.heap.push { cls:=.type "range",data:=.fields #[.int lo t,.int hi u,.int 1 v] }).objs.size],_,_,H,rfl,
  a.kept (t':=tk) fun b o e=>Ds _ e,pS _ lo (hi - lo).toNat,?_,fun b d=>?_,q⟩
 ·have e1:lo+((0:Nat):Int) * 1=lo:=by simp
  have c:(((hi - lo).toNat:Nat):Int) - ((0:Nat):Int)=Builtin.Range.rangeSize lo hi 1:=by rw [rangeSize_one];split <;> omega
  show IsRangeIter _ _ (lo+((0:Nat):Int) * 1) ((((hi - lo).toNat:Nat):Int) - ((0:Nat):Int)) 1
  rw [e1,c]
  exact DA _ rfl
 ·have e:b=(s.heap.push { cls:=.type "range",data:=.fields #[.int lo t,.int hi u,.int 1 v] }).objs.size:=by simpa using d
  subst e
  exact a.fpOk (DH _) (a.hok.fresh (DH _))
def AV (ta:TA):TI:=fun σ H R=>ta σ H fun a H1=>∃ j:Int,a=[.int j]/\-(2 ^ 62)<=j/\j < 2 ^ 62/\R (Itr 0 j.toNat) H1
def AU (ta:TA):TI:=fun σ H R=>ta σ H fun a H1=>∃ i j:Int,a=[.int i,.int j]/\(-(2 ^ 62)<=i/\i < 2 ^ 62/\-(2 ^ 62)<=j/\j < 2 ^ 62)/\R (Itr i (j - i).toNat) H1
theorem tL (i:Gl X "range") (hm:X.mg "range"=none) (f:PA X [a] ta) (d:starEach [a] X.env=[(false,eval a X.env)]:=by rfl):PI X tg (.Call (.Name "range" p) [a] [] pos) (AV ta):=by
 intro pins s σ H R I h
 refine Call_ (fK I i hm boot_range (PyProof.Rows.callWith_type1 (thn (f pos pins s σ H _ I h) fun us s1 ⟨l,H1,k,c,b⟩=>?_) d rfl))
 obtain ⟨j,e,b,g,q⟩:=b
 subst e
 cases c with
 | cons r rr =>
  cases rr
  obtain ⟨t,rfl⟩:=r
  exact call_range_1 (oq k (by omega) (by omega) b g (by simpa using q))
theorem tK (n:Gl X "range") (hm:X.mg "range"=none) (l:PA X [a,b] ta) (k:starEach [a,b] X.env=[(false,eval a X.env),(false,eval b X.env)]:=by rfl) (c:starEach [b] X.env=[(false,eval b X.env)]:=by rfl) :
  PI X tg (.Call (.Name "range" p) [a,b] [] pos) (AU ta):=by
 intro pins s σ H R I h
 refine Call_ (fK I n hm boot_range (PyProof.Rows.callWith_type1 (thn (l pos pins s σ H _ I h) fun us s1 ⟨v,H1,u,g,d⟩=>?_) (by rw [k,c]) (by rw [c];rfl)))
 obtain ⟨i,j,e,⟨d,m,o,f⟩,q⟩:=d
 subst e
 cases g with
 | cons r rr =>
  cases rr with
  | cons r' rr =>
   cases rr
   obtain ⟨t,rfl⟩:=r
   obtain ⟨t',rfl⟩:=r'
   exact call_range_2 (oq u d m o f q)
def Bj (b:TI) (g:TG) (tb:TS):TS:=fun D σ H=>b σ H fun J H1=>∃ W:Nat->Nat->St->Hp->Prop,(∃ m,W 0 m σ H1)/\∀ i m σ H,W i m σ H ->
 (J.stop i H/\D.nx σ H)\/(J.go i H/\∃ N:St->Hp->Prop,(∀ σ' H',N σ' H'->∃ a,a < m/\W (i+1) a σ' H')/\∀ x H',J.yld i H x H'->g x σ H' fun σ2 H2=>tb { D with nx:=N,ct:=N,bk:=D.nx } σ2 H2)
def ke (fp:List Addr) (h:Heap):List (Addr × Obj):=fp.filterMap fun b=>(h.get? b).map fun o=>(b,o)
theorem eE (a:b ∈ fp) (e:h.get? b=some o):(b,o) ∈ ke fp h:=List.mem_filterMap.mpr ⟨b,a,by rw [e];rfl⟩
theorem tO (c:p ∈ ke fp h):p.1 ∈ fp/\h.get? p.1=some p.2:=by
 obtain ⟨b,a,e⟩:=List.mem_filterMap.mp c
 cases q:h.get? b with
 | none=>rw [q] at e;cases e
 | some o =>
  rw [q] at e
  have d:(b,o)=p:=Ei e
  subst d
  exact ⟨a,q⟩
theorem Inv.pinned (I:Inv X pins σ H s) (hf:∀ b ∈ fp,FpOk X pins H b) (f:∀ b ∈ fp,∃ o,s.heap.get? b=some o/\∀ v,o.data ≠ .cell v):Inv X (pins ++ ke fp s.heap) σ H s :=
 I.pins_of fun p g=>(Dz.mp g).elim (fun z=>I.pin p (Dv _ z)) fun z=>by
  obtain ⟨a,e⟩:=tO z
  obtain ⟨f0,f1,f2,_⟩:=hf p.1 a
  obtain ⟨o,c,d⟩:=f p.1 a
  rw [e] at c;cases c
  exact ⟨e,f0,f1,f2,d⟩
theorem Inv.unpinned (I:Inv X (pins ++ pl) σ H s):Inv X pins σ H s:=I.pins_of fun p a=>I.pin p (Dv _ (Du _ a))
theorem vZ (t:PassesOwn (model X.prog X.w) X.A X.env X.xe) (O:X.calm=true) (hi:PI X tg iter wi) (V:PG X tg g) (k:PSs X body tb) (hs:∀ x,foldedSetIterable iter X.env x=pure x:=by intro _;rfl):PS X (.For tg iter body [] pos) (Bj wi g tb):=by
 intro pins s σ H D I h
 refine wpAny_For (thn (hi pins s σ H _ I h) fun v s1 h1=>thn h1 fun Z s2 h2=>?_) hs
 obtain ⟨it,fp,L,J,H2,e,I2,T,E,f2,W,⟨m0,w0⟩,turn⟩:=h2
 subst e
 have a:∀ {H':Hp},(∀ b ∈ fp,H' b=none)->∀ b ∈ fp,FpOk X pins H' b:=fun hn b k=>⟨hn b k,(f2 b k).2⟩
 refine codeAny_forLoop_any (fun n s'=>∃ i σ' H',Inv X pins σ' H' s'/\L i s'.heap/\(∀ b ∈ fp,H' b=none)/\W i n σ' H') ?_ m0 ⟨0,σ,H2,I2,E,fun b k=>(f2 b k).1,w0⟩
 rintro n s3 ⟨i,σ3,B,M,q,z,Q⟩
 rcases turn i n σ3 B Q with ⟨stop,U⟩ | ⟨go,N,hN,step⟩
 ·refine wpAny_passesOwn t (thn (T.done X rfl rfl rfl O i pins s3 σ3 B X.xe M (a z) q stop) fun r s4 ⟨F,I4⟩=>?_)
  subst F
  exact wpAny_execs_nil ⟨σ3,B,I4,U⟩
 ·refine wpAny_passesOwn t (thn (T.item X rfl rfl rfl O i pins s3 σ3 B X.xe M (a z) q go) fun r s4 ⟨u,F,h4⟩=>?_)
  subst F
  refine wpAny_passesOwn t (thn h4 fun _ s5 ⟨x,P,I5,r5,Y,p,K⟩=>?_)
  have C:=I5.pinned (a K) (T.obj _ _ p)
  refine wpAny_passesOwn t (thn (V _ s5 σ3 P x u _ C r5 (step x P Y)) fun _ s6 ⟨σ6,R,S,q6⟩=>?_)
  refine wpAny_passesOwn t (thn (k _ s6 σ6 R _ S q6) fun f G l=>?_)
  have again:∀ {σ7:St} {c:Hp},Inv X (pins ++ ke fp s5.heap) σ7 c G->N σ7 c->∃ m,m < n/\∃ i σ' H',Inv X pins σ' H' G/\L i G.heap/\(∀ b ∈ fp,H' b=none)/\W i m σ' H':=fun {σ7 c} j y=>by
   obtain ⟨m',hm,w7⟩:=hN σ7 c y
   refine ⟨m',hm,i+1,σ7,c,j.unpinned,T.keep _ _ _ p fun b k o e=>(j.pin (b,o) (Dv _ (Dv _ (eE k e)))).1,fun b k=>?_,w7⟩
   obtain ⟨o,e,d⟩:=T.obj _ _ p b k
   exact (j.pin (b,o) (Dv _ (Dv _ (eE k e)))).2.1
  cases f with
  | next=>obtain ⟨σ7,c,j,y⟩:=l;exact again j y
  | cont=>obtain ⟨σ7,c,j,y⟩:=l;exact again j y
  | brk=>obtain ⟨σ7,c,j,l⟩:=l;exact ⟨σ7,c,j.unpinned,l⟩
  | ret v=>obtain ⟨x7,σ7,c,j,r7,l⟩:=l;exact ⟨x7,σ7,c,j.unpinned,r7,l⟩
end
end L2
namespace L2
open PySem PySem.Spec PyProof.Rows
abbrev R2:=V->V->Hp->VK->Prop
def OpR (X:Cx) (f:Value->Value->Sem Value) (r:R2):Prop :=
 ∀ (pins:List (Addr × Obj)) (s:Shared) (σ:St) (H:Hp) (x y:V) (v u:Value) (Q:VK),Inv X pins σ H s->RelV x v->RelV y u->r x y H Q ->
  wpAny (model X.prog X.w) X.A (f v u) (EP X pins σ Q) X.xe s
def UnR (X:Cx) (f:Value->Sem Value) (r:V->Hp->VK->Prop):Prop :=
 ∀ (pins:List (Addr × Obj)) (s:Shared) (σ:St) (H:Hp) (x:V) (v:Value) (Q:VK),Inv X pins σ H s->RelV x v->r x H Q ->
  wpAny (model X.prog X.w) X.A (f v) (EP X pins σ Q) X.xe s
def bM (X:Cx) (f:Value) (r:List V->Hp->VK->Prop):Prop :=
 ∀ (pins:List (Addr × Obj)) (s:Shared) (σ:St) (H:Hp) (xs:List V) (us:List Value) (Q:VK),Inv X pins σ H s->Vals xs us->r xs H Q ->
  wpAny (model X.prog X.w) X.A (call f us) (EP X pins σ Q) X.xe s
def tOp (r:R2) (ta tb:TE):TE:=fun σ H Q=>ta σ H fun x H1=>tb σ H1 fun y H2=>r x y H2 Q
def tUn (r:V->Hp->VK->Prop) (ta:TE):TE:=fun σ H Q=>ta σ H fun x H1=>r x H1 Q
def rI (C:Int->Int->Prop) (g:Int->Int->V):R2:=fun x y H Q=>∃ i j,x=.int i/\y=.int j/\C i j/\Q (g i j) H
def rI0 (g:Int->Int->V):R2:=fun x y H Q=>∃ i j,x=.int i/\y=.int j/\Q (g i j) H
def rU (g:Int->V):V->Hp->VK->Prop:=fun x H Q=>∃ i,x=.int i/\Q (g i) H
section
variable {X:Cx} {a b c:Expr} {ta tb tc:TE} {pos:Pos}
theorem Db (d:PE X a ta) (g:PE X b tb) {R:V->V->Hp->Prop} (I:Inv X pins σ H s) (h:ta σ H fun x H1=>tb σ H1 fun y H2=>R x y H2) {f:Value->Value->Sem Value} (hf:∀ v u s2 x y H2,Inv X pins σ H2 s2->RelV x v->RelV y u->R x y H2->wpAny (model X.prog X.w) X.A (f v u) Q X.xe s2) :
  wpAny (model X.prog X.w) X.A (eval a X.env) (fun v i=>wpAny (model X.prog X.w) X.A (eval b X.env) (fun u n=>wpAny (model X.prog X.w) X.A (f v u) Q X.xe n) X.xe i) X.xe s:=by
 refine thn (d pins s σ H _ I h) fun v s1 ⟨x,H1,l,c,e⟩=>?_
 refine thn (g pins s1 σ H1 _ l e) fun u s2 ⟨y,H2,m,k,j⟩=>?_
 exact hf v u s2 x y H2 m c k j
theorem pe_op (c:OpR X (binaryOp op) r) (d:PE X a ta) (e:PE X b tb):PE X (.BinOp a op b pos) (tOp r ta tb):=by
 intro pins s σ H Q I h
 exact wpAny_BinOp (Db d e I h fun v u s2 x y H2 i f g q=>c pins s2 σ H2 x y v u Q i f g q)
theorem pe_un (c:UnR X (unaryOp op) r) (e:PE X a ta):PE X (.UnaryOp op a pos) (tUn r ta):=by
 intro pins s σ H Q I h
 exact UnaryOp_ (thn (e pins s σ H _ I h) fun v s1 ⟨x,H1,d,b,f⟩=>c pins s1 σ H1 x v Q d b f)
theorem opI {g:Int->Int->Int} (rule:∀ (i j:Int) (t u:Tok) (s:Shared) (Q:Value->Shared->Prop) (E:Value->Shared->Prop),C i j->Q (.int (g i j) s.toks) { s with toks:=s.toks+1 }->wpAny (model X.prog X.w) X.A (f (.int i t) (.int j u)) Q E s) :
  OpR X f (rI C fun i j=>.int (g i j)):=by
 intro pins s σ H x y v u Q I a c h
 obtain ⟨i,j,rfl,rfl,b,q⟩:=h
 obtain ⟨t,rfl⟩:=a
 obtain ⟨t',rfl⟩:=c
 exact rule i j t t' s _ _ b ⟨.int (g i j),H,I.tok _,⟨_,rfl⟩,q⟩
theorem opI0 {g:Int->Int->Int} (rule:∀ (i j:Int) (t u:Tok) (s:Shared) (Q:Value->Shared->Prop) (E:Value->Shared->Prop),Q (.int (g i j) s.toks) { s with toks:=s.toks+1 }->wpAny (model X.prog X.w) X.A (f (.int i t) (.int j u)) Q E s) :
  OpR X f (rI0 fun i j=>.int (g i j)):=by
 intro pins s σ H x y v u Q I a b h
 obtain ⟨i,j,rfl,rfl,q⟩:=h
 obtain ⟨t,rfl⟩:=a
 obtain ⟨t',rfl⟩:=b
 exact rule i j t t' s _ _ ⟨.int (g i j),H,I.tok _,⟨_,rfl⟩,q⟩
theorem zF {g:Int->Int->Bool} (rule:∀ (i j:Int) (t u:Tok) (s:Shared) (Q:Value->Shared->Prop) (E:Value->Shared->Prop),Q (.bool (g i j)) s->wpAny (model X.prog X.w) X.A (f (.int i t) (.int j u)) Q E s) :
  OpR X f (rI0 fun i j=>.bl (g i j)):=by
 intro pins s σ H x y v u Q I a b h
 obtain ⟨i,j,rfl,rfl,q⟩:=h
 obtain ⟨t,rfl⟩:=a
 obtain ⟨t',rfl⟩:=b
 exact rule i j t t' s _ _ ⟨.bl (g i j),H,I,rfl,q⟩
def uJ (i j:Int):Prop:=0 < j/\j < 1073741824
def yg (i j:Int):Prop:=0<=j/\j<=1000000/\i.natAbs < 2 ^ 64
def CMul (i j:Int):Prop:=(-(2 ^ 64) < i/\i < 2 ^ 64)\/(-(2 ^ 64) < j/\j < 2 ^ 64)
theorem CMul.ok {i j:Int} (h:CMul i j):IntMulOk i j:=by
 rcases h with ⟨h1,h2⟩ | ⟨h1,h2⟩
 ·exact .of_left (intBits_le_64 h1 h2)
 ·exact .of_right (intBits_le_64 h1 h2)
theorem op_add:OpR X (binaryOp .Add) (rI0 fun i j=>.int (i+j)):=opI0 fun _ _ _ _ _ _ _ q=>add_int q
theorem Cj:OpR X (binaryOp .Sub) (rI0 fun i j=>.int (i - j)):=opI0 fun _ _ _ _ _ _ _ q=>sub_int q
theorem Cn:OpR X (binaryOp .Mult) (rI CMul fun i j=>.int (i * j)):=opI fun _ _ _ _ _ _ _ a q=>mul_int q a.ok
theorem Co:OpR X (binaryOp .Mod) (rI (fun _ j=>0 < j) fun i j=>.int (i % j)):=opI fun i j _ _ _ _ _ a q=>by
 have h1:(0:Int) < j:=a
 exact mod_int' (by omega) (by rw [Int.fmod_eq_emod_of_nonneg i (by omega)];exact q)
theorem Ck:OpR X (binaryOp .Pow) (rI yg fun i j=>.int (i ^ j.toNat)):=opI fun _ _ _ _ _ _ _ a q=>pow_int_small a.1 a.2.1 a.2.2 q
theorem unI {g:Int->Int} (rule:∀ (i:Int) (t:Tok) (s:Shared) (Q:Value->Shared->Prop) (E:Value->Shared->Prop),Q (.int (g i) s.toks) { s with toks:=s.toks+1 }->wpAny (model X.prog X.w) X.A (f (.int i t)) Q E s) :
  UnR X f (rU fun i=>.int (g i)):=by
 intro pins s σ H x v Q I a h
 obtain ⟨i,rfl,q⟩:=h
 obtain ⟨t,rfl⟩:=a
 exact rule i t s _ _ ⟨.int (g i),H,I.tok _,⟨_,rfl⟩,q⟩
theorem A4:UnR X (unaryOp .USub) (rU fun i=>.int (-i)):=unI fun _ _ _ _ _ q=>neg_int q
end
def Bz:V->V->Bool
 | .non,.non=>true | .non,.int _=>true | .int _,.non=>true | .non,.bl _=>true | .bl _,.non=>true | .non,.str _=>true | .str _,.non=>true
 | .int _,.int _=>true | .bl _,.bl _=>true | .str _,.str _=>true | .byt _,.byt _=>true
 | .int _,.str _=>true | .str _,.int _=>true | .bl _,.str _=>true | .str _,.bl _=>true
 | _,_=>false
def rEq:R2:=fun x y H Q=>Bz x y=true/\Q (.bl (decide (x=y))) H
def rNe:R2:=fun x y H Q=>Bz x y=true/\Q (.bl (!decide (x=y))) H
theorem sD {i j:Int}:decide (V.int i=V.int j)=(i == j):=by
 rw [Bool.eq_iff_iff]
 simp
theorem xF:decide (V.bl i=V.bl j)=(i == j):=by
 rw [Bool.eq_iff_iff]
 simp
theorem sC:decide (V.str i=V.str j)=(i == j):=by
 rw [Bool.eq_iff_iff]
 simp
theorem sE:decide (V.byt i=V.byt j)=(i.toList == j.toList):=by
 rw [Bool.eq_iff_iff]
 cases i
 cases j
 simp
section
variable {X:Cx} {a b c:Expr} {ta tb tc:TE} {pos:Pos}
theorem aE (I:Inv X pins σ H s) (q:Q (.bl k) H) (e:k=k'):EP X pins σ Q (.bool k') s:=by
 subst e
 exact ⟨.bl k,H,I,rfl,q⟩
theorem op_eq:OpR X (compareOp .Eq) rEq:=by
 intro pins s σ H x y v u Q I c a h
 obtain ⟨b,q⟩:=h
 cases x with
 | non =>
  cases c
  cases y with
  | non=>cases a;exact PySem.EqNone.eq_none_none (aE I q (by simp))
  | bl j=>cases a;exact PySem.EqNone.eq_none_bool (aE I q (by simp))
  | int j=>obtain ⟨t',rfl⟩:=a;exact PySem.EqNone.eq_none_int (aE I q (by simp))
  | str j=>obtain ⟨t',rfl⟩:=a;exact PySem.EqNone.eq_none_str (aE I q (by simp))
  | _=>exact absurd (show false=true from b) DI
 | bl i =>
  cases c
  cases y with
  | non=>cases a;exact PySem.EqNone.eq_bool_none (aE I q (by simp))
  | bl j=>cases a;exact eq_bool (aE I q xF)
  | str j=>obtain ⟨t',rfl⟩:=a;exact PySem.EqMixed.eq_bool_str (aE I q (by simp))
  | _=>exact absurd (show false=true from b) DI
 | int i =>
  obtain ⟨t,rfl⟩:=c
  cases y with
  | non=>cases a;exact PySem.EqNone.eq_int_none (aE I q (by simp))
  | int j=>obtain ⟨t',rfl⟩:=a;exact eq_int (aE I q sD)
  | str j=>obtain ⟨t',rfl⟩:=a;exact PySem.EqMixed.eq_int_str (aE I q (by simp))
  | _=>exact absurd (show false=true from b) DI
 | str i =>
  obtain ⟨t,rfl⟩:=c
  cases y with
  | non=>cases a;exact PySem.EqNone.eq_str_none (aE I q (by simp))
  | bl j=>cases a;exact PySem.EqMixed.eq_str_bool (aE I q (by simp))
  | int j=>obtain ⟨t',rfl⟩:=a;exact PySem.EqMixed.eq_str_int (aE I q (by simp))
  | str j=>obtain ⟨t',rfl⟩:=a;exact eq_str (aE I q sC)
  | _=>exact absurd (show false=true from b) DI
 | byt i =>
  obtain ⟨t,rfl⟩:=c
  cases y with
  | byt j=>obtain ⟨t',rfl⟩:=a;exact PySem.W.eq_bytes (aE I q sE)
  | _=>exact absurd (show false=true from b) DI
 | _=>cases y <;> exact absurd (show false=true from b) DI
theorem op_ne:OpR X (compareOp .NotEq) rNe:=by
 intro pins s σ H x y v u Q I c a h
 obtain ⟨b,q⟩:=h
 cases x with
 | non =>
  cases c
  cases y with
  | non=>cases a;exact PySem.EqNone.ne_none_none (aE I q (by simp))
  | bl j=>cases a;exact PySem.EqNone.ne_none_bool (aE I q (by simp))
  | int j=>obtain ⟨t',rfl⟩:=a;exact PySem.EqNone.ne_none_int (aE I q (by simp))
  | str j=>obtain ⟨t',rfl⟩:=a;exact PySem.EqNone.ne_none_str (aE I q (by simp))
  | _=>exact absurd (show false=true from b) DI
 | bl i =>
  cases c
  cases y with
  | non=>cases a;exact PySem.EqNone.ne_bool_none (aE I q (by simp))
  | bl j=>cases a;exact ne_bool (aE I q (congrArg not xF))
  | str j=>obtain ⟨t',rfl⟩:=a;exact PySem.EqMixed.ne_bool_str (aE I q (by simp))
  | _=>exact absurd (show false=true from b) DI
 | int i =>
  obtain ⟨t,rfl⟩:=c
  cases y with
  | non=>cases a;exact PySem.EqNone.ne_int_none (aE I q (by simp))
  | int j=>obtain ⟨t',rfl⟩:=a;exact ne_int (aE I q (congrArg not sD))
  | str j=>obtain ⟨t',rfl⟩:=a;exact PySem.EqMixed.ne_int_str (aE I q (by simp))
  | _=>exact absurd (show false=true from b) DI
 | str i =>
  obtain ⟨t,rfl⟩:=c
  cases y with
  | non=>cases a;exact PySem.EqNone.ne_str_none (aE I q (by simp))
  | bl j=>cases a;exact PySem.EqMixed.ne_str_bool (aE I q (by simp))
  | int j=>obtain ⟨t',rfl⟩:=a;exact PySem.EqMixed.ne_str_int (aE I q (by simp))
  | str j=>obtain ⟨t',rfl⟩:=a;exact ne_str (aE I q (congrArg not sC))
  | _=>exact absurd (show false=true from b) DI
 | byt i =>
  obtain ⟨t,rfl⟩:=c
  cases y with
  | byt j=>obtain ⟨t',rfl⟩:=a;exact PySem.W.ne_bytes (aE I q (congrArg not sE))
  | _=>exact absurd (show false=true from b) DI
 | _=>cases y <;> exact absurd (show false=true from b) DI
theorem AM:OpR X (compareOp .Lt) (rI0 fun i j=>.bl (decide (i < j))):=zF fun _ _ _ _ _ _ _ q=>lt_int q
theorem rT:OpR X (compareOp .LtE) (rI0 fun i j=>.bl (decide (i<=j))):=zF fun _ _ _ _ _ _ _ q=>le_int q
theorem AN:OpR X (compareOp .Gt) (rI0 fun i j=>.bl (decide (j < i))):=zF fun _ _ _ _ _ _ _ q=>gt_int q
theorem op_ge:OpR X (compareOp .GtE) (rI0 fun i j=>.bl (decide (j<=i))):=zF fun _ _ _ _ _ _ _ q=>ge_int q
theorem Cp : OpR X (compareOp .Is) (fun x y H Q => y = .non /\ Q (.bl (decide (x = .non))) H) := by
  intro pins s σ H x y v u Q I a b h
  obtain ⟨rfl, q⟩ := h
  cases b
  refine is_none_gen (aE I q ?_)
  cases x <;> first
    | (cases a; rfl)
    | (obtain ⟨t, rfl⟩ := a; rfl)
theorem OpR.or (h:OpR X f r) (h':OpR X f r'):OpR X f (fun x y H Q=>r x y H Q\/r' x y H Q):=by
 intro pins s σ H x y v u Q I a b q
 rcases q with q | q
 ·exact h pins s σ H x y v u Q I a b q
 ·exact h' pins s σ H x y v u Q I a b q
theorem dJ (b : Expr) (h : op ≠ .In := by decide) (h2 : op ≠ .NotIn := by decide) : behindInMarks op b = false := by
  have e1 : (op == CmpOp.In) = false := by cases op <;> first | rfl | exact absurd rfl h
  have a : (op == CmpOp.NotIn) = false := by cases op <;> first | rfl | exact absurd rfl h2
  cases b <;> simp [behindInMarks, e1, a]
theorem zC (c:OpR X (compareOp op) r) (d:PE X a ta) (e:PE X b tb) (hm:behindInMarks op b=false):PE X (.Compare a [op] [b] pos) (tOp r ta tb):=by
 intro pins s σ H Q I h
 exact wpAny_Compare1 (Db d e I h fun v u s2 x y H2 i f g q=>c pins s2 σ H2 x y v u Q i f g q) hm
def tTest (t:TE):TT:=fun σ H Q=>t σ H fun x H'=>∃ k,x=.bl k/\Q k H'
theorem zn (g:OpR X (compareOp op) r) (i:PE X a ta) (l:PE X b tb) (hm:behindInMarks op b=false):PT X (.Compare a [op] [b] pos) (tTest (tOp r ta tb)):=by
 intro pins s σ H Q I h
 refine wpAny_isTrue_Compare1 (thn (i pins s σ H _ I h) fun v s1 ⟨x,H1,t,f,j⟩=>thn (l pins s1 σ H1 _ t j) fun u s2 ⟨y,H2,q,n,m⟩ =>
  thn (g pins s2 σ H2 x y v u _ q f n m) fun c s3 ⟨z,w,d,o,k,e,p⟩=>?_) hm
 subst e
 cases o
 exact Ec ⟨w,d,p⟩
def pY (r d:R2) (ta tb tc:TE):TE:=fun σ H Q=>ta σ H fun x H1=>tb σ H1 fun y H2=>r x y H2 fun z a=>∃ k,z=.bl k /\
 (if k=true then tc σ a fun b c=>d y b c Q else Q (.bl false) a)
theorem wm (o:OpR X (compareOp op) r) (f:OpR X (compareOp op') r') (D:PE X a ta) (F:PE X b tb) (q:PE X c tc) (hm:lastMarks [op,op'] [b,c]=false:=by with_unfolding_all rfl):PE X (.Compare a [op,op'] [b,c] pos) (pY r r' ta tb tc):=by
 intro pins s σ H Q I h
 refine Compare_chain (thn (D pins s σ H _ I h) fun v s1 ⟨x,H1,A,n,E⟩=>chain_link (thn (F pins s1 σ H1 _ A E) fun u s2 ⟨y,H2,K,j,G⟩ =>
  thn (o pins s2 σ H2 x y v u _ K n j G) fun d s3 ⟨z,l,i,J,k,e,g⟩=>?_)) hm
 subst e
 cases J
 refine Ec ?_
 cases k with
 | false=>exact ite_ff ⟨.bl false,l,i,rfl,g⟩
 | true=>exact ite_tt (chain_last (thn (q pins s3 σ l _ i g) fun t s4 ⟨C,B,w,p,m⟩=>f pins s4 σ B y C u t Q w j p m))
theorem mU:(sizeLine:Nat) < 2 ^ 63:=by rw [sizeLine_eq];decide
theorem op_add_str:OpR X (binaryOp .Add) (fun x y H Q=>∃ i j,x=.str i/\y=.str j/\i.length+j.length<=sizeLine/\Q (.str (i ++ j)) H):=by
 intro pins s σ H x y v u Q I a b h
 obtain ⟨i,j,rfl,rfl,hz,q⟩:=h
 obtain ⟨t,rfl⟩:=a
 obtain ⟨t',rfl⟩:=b
 exact add_str (fun t' tk=>⟨.str (i ++ j),H,I.tok _,⟨_,rfl⟩,q⟩) hz
theorem gi (r:Vals [x] us):∃ u,us=[u]/\RelV x u:=by
 cases r with
 | cons r1 r2=>cases r2;exact ⟨_,rfl,r1⟩
theorem il (r:Vals [x,y] us):∃ u a,us=[u,a]/\RelV x u/\RelV y a:=by
 cases r with
 | cons r1 r2 =>
  cases r2 with
  | cons r3 r4=>cases r4;exact ⟨_,_,rfl,r1,r3⟩
theorem xN:bM X (.builtin "abs") (fun xs H Q=>∃ i,xs=[.int i]/\Q (.int (if i < 0 then -i else i)) H):=by
 intro pins s σ H xs us Q I r h
 obtain ⟨i,rfl,q⟩:=h
 obtain ⟨u,rfl,t,rfl⟩:=gi r
 exact call_abs_int fun u tk=>⟨.int (if i < 0 then -i else i),H,I.tok _,⟨_,rfl⟩,q⟩
theorem uB (b:X.calm=true):bM X (.builtin "max") (fun xs H Q=>∃ i j,xs=[.int i,.int j]/\Q (.int (if j > i then j else i)) H):=by
 intro pins s σ H xs us Q I r h
 obtain ⟨i,j,rfl,q⟩:=h
 obtain ⟨u,c,rfl,⟨t,rfl⟩,⟨t',rfl⟩⟩:=il r
 refine max_two_ints (I.ok.hd b) fun h' tk k=>⟨_,H,I.kept k,?_,q⟩
 by_cases a:j > i
 ·rw [if_pos a,if_pos a];exact ⟨_,rfl⟩
 ·rw [if_neg a,if_neg a];exact ⟨_,rfl⟩
theorem uz (b:X.calm=true):bM X (.builtin "min") (fun xs H Q=>∃ i j,xs=[.int i,.int j]/\Q (.int (if j < i then j else i)) H):=by
 intro pins s σ H xs us Q I r h
 obtain ⟨i,j,rfl,q⟩:=h
 obtain ⟨u,c,rfl,⟨t,rfl⟩,⟨t',rfl⟩⟩:=il r
 refine min_two_ints (I.ok.hd b) fun h' tk k=>⟨_,H,I.kept k,?_,q⟩
 by_cases a:j < i
 ·rw [if_pos a,if_pos a];exact ⟨_,rfl⟩
 ·rw [if_neg a,if_neg a];exact ⟨_,rfl⟩
theorem pD:bM X (.builtin "divmod") (fun xs H Q=>∃ i j,xs=[.int i,.int j]/\uJ i j/\∀ p,H p=none->Q (.ref p) (upd H p (.tup [.int (i / j),.int (i % j)]))):=by
 intro pins s σ H xs us Q I r h
 obtain ⟨i,j,rfl,⟨h1,h2⟩,q⟩:=h
 obtain ⟨u,c,rfl,⟨t,rfl⟩,⟨t',rfl⟩⟩:=il r
 refine divmod_int (by omega) ?_ (.inl (PyProof.noPylong_small (by omega)))
 rw [Int.fdiv_eq_ediv_of_nonneg i (by omega),Int.fmod_eq_emod_of_nonneg i (by omega)]
 have a:H s.heap.objs.size=none:=I.hok.fresh (DH _)
 refine ⟨.ref s.heap.objs.size,_,?_,rfl,q _ a⟩
 refine I.laid (fun b o e=>Ds _ e) (DH _) ⟨by simp only [DS,List.length_nil];rw [sizeLine_eq];decide,[.int (i / j) s.toks,.int (i % j) (s.toks+1)],.cons ⟨_,rfl⟩ (.cons ⟨_,rfl⟩ .nil),?_⟩
 exact ⟨_,DA s.heap rfl,rfl,0,rfl⟩
end
end L2
namespace L2
open PySem PySem.Spec PyProof.Rows
theorem RelO.some_of (r:RelO (some v) o):∃ u,o=some u/\RelV v u:=by
 cases o with
 | none=>exact (show False from r).elim
 | some u=>exact ⟨u,rfl,r⟩
end L2
namespace L2
open PySem PySem.Spec PyProof.Rows
structure Room (k:Nat) (A:Around):Prop where
 hd:A.handled=none
 dp:A.depth+3 * k+5 < recursionLimit
 un:A.units+16 * k+200 < cLine
 gd:A.guards=some []
theorem Room.mono {j k:Nat} (r:Room k A) (h:j<=k):Room j A:=⟨r.hd,by have:=r.dp;omega,by have:=r.un;omega,r.gd⟩
theorem Room.deeper {k:Nat} (r:Room (k+1) A) (env:Env):Room k (A.deeper env) :=
 ⟨r.hd,by have:=r.dp;show A.depth+1+3 * k+5 < _;omega,by have:=r.un;show A.units+3+16 * k+200 < _;omega,r.gd⟩
theorem Room.depth {k:Nat} (r:Room k A):A.depth < recursionLimit:=by have:=r.dp;omega
theorem Room.units {k:Nat} (r:Room k A):A.units+64 < cLine:=by have:=r.un;omega
def yy:TA:=fun _ H Q=>Q [] H
def nN (ta:TE) (a:TA):TA:=fun σ H Q=>ta σ H fun x H1=>a σ H1 fun xs H2=>Q (x :: xs) H2
section
variable {X:Cx} {e:Expr} {es:List Expr} {te:TE} {t:TA} {pos:Pos}
theorem mN:PA X [] yy:=fun _ _ _ _ H Q I h=>Calls.spliced_nil ⟨[],H,I,.nil,h⟩
theorem f9 (c:PE X e te) (i:PA X es t) (b:starEach (e :: es) X.env=(false,eval e X.env) :: starEach es X.env:=by rfl):PA X (e :: es) (nN te t):=by
 intro pos pins s σ H Q I h
 rw [b]
 show wpAny _ _ (spliced ((false,eval e X.env) :: backTo pos (starEach es X.env))) _ _ s
 refine Calls.spliced_cons (thn (c pins s σ H _ I h) fun u s1 ⟨x,H1,k,a,d⟩=>?_)
 exact thn (i pos pins s1 σ H1 _ k d) fun us s2 ⟨xs,H2,j,g,f⟩=>⟨x :: xs,H2,j,.cons a g,f⟩
def tTup (t:TA):TE:=fun σ H Q=>t σ H fun xs H1=>xs.length<=sizeLine/\∀ p,H1 p=none->Q (.ref p) (upd H1 p (.tup xs))
def Bh (t:TA):TE:=fun σ H Q=>t σ H fun xs H1=>xs.length<=sizeLine/\∀ p,H1 p=none->Q (.ref p) (upd H1 p (.lst xs))
theorem Cc (h:PA X es t):PE X (.Tuple es x1 pos) (tTup t):=by
 intro pins s σ H Q I c
 refine wpAny_Tuple_spliced (thn (h pos pins s σ H _ I c) fun us s1 ⟨xs,H1,a,r,z,q⟩=>⟨by rw [<- r.length];exact z,?_⟩)
 have hf:H1 s1.heap.objs.size=none:=a.hok.fresh (DH _)
 refine ⟨.ref s1.heap.objs.size,upd H1 s1.heap.objs.size (.tup xs),a.laid (t':=s1.toks) (fun b u e=>Ds _ e) (DH _) ?_,rfl,q _ hf⟩
 exact ⟨z,us,r,⟨_,DA _ rfl,rfl,_,rfl⟩⟩
theorem wj (h:PA X es t):PE X (.List es pos) (Bh t):=by
 intro pins s σ H Q I c
 refine wpAny_List_spliced (thn (h pos pins s σ H _ I c) fun us s1 ⟨xs,H1,a,r,z,q⟩=>⟨by rw [<- r.length];exact z,?_⟩)
 have hf:H1 s1.heap.objs.size=none:=a.hok.fresh (DH _)
 refine ⟨.ref s1.heap.objs.size,upd H1 s1.heap.objs.size (.lst xs),a.laid (t':=s1.toks) (fun b u e=>Ds _ e) (DH _) ?_,rfl,q _ hf⟩
 exact ⟨z,us,0,r,DA _ rfl⟩
end
abbrev Sp:=List V->Hp->VK->XK->Prop
abbrev CXT:=List Env->Hp->Shared->XK->Value->Shared->Prop
structure Env0 (P:Program) (w:World) (K:FG) (mg:Str->Option Value) (base:Heap) (A:Around) (outer:List Env) (s:Shared) (H:Hp):Prop where
 frames:A.frames=some outer
 mod:Mod K mg base
 bs:∀ b o,base.get? b=some o->s.heap.get? b=some o/\H b=none
 bsz:base.objs.size<=s.heap.objs.size
 funs:s.heap.FunFrames base outer
 frf:∀ b ∈ frs outer,H b=none
 hok:HOk P w H s.heap
 bare:AllBare s.gens
def CE (outer:List Env) (P:Program) (w:World) (H:Hp) (s:Shared) (Q:VK) (u:Value) (s':Shared):Prop :=
 ∃ v H',s'.os=s.os/\AllBare s'.gens/\Un (frs outer) [] H H' s.heap s'.heap/\HOk P w H' s'.heap/\RelV v u/\Q v H'
def CR (CX:CXT) (outer:List Env) (P:Program) (w:World) (H:Hp) (s:Shared) (Q:VK) (E:XK) (r:Result) (s':Shared):Prop :=
 match r with
 | .ok (.ret u)=>CE outer P w H s Q u s'
 | .ok _=>False
 | .error e=>CX outer H s E e s'
structure FnOk (P:Program) (w:World) (K:FG) (mg:Str->Option Value) (base:Heap) (CX:CXT) (k:Nat) (f:Addr) (fd:FuncData) (ps:List Str) (sp:Sp):Prop where
 len:∀ vs H Q E,sp vs H Q E->vs.length=ps.length
 run:∀ (A:Around) (outer:List Env) (s:Shared) (H:Hp) (args:Args) (us:List Value) (vs:List V) (Q:VK) (E:XK),Room k A->Env0 P w K mg base A outer s H->BindsTo s fd args (ps.zip us)->Vals vs us->sp vs H Q E ->
  codeAny (model P w) A (.call (.ref f) args) (CR CX outer P w H s Q E) s
theorem FnOk.imp {K:FG} {k:Nat} (F:FnOk P w K mg base CX k f fd ps sp) (h:∀ a H Q E,sp' a H Q E->sp a H Q E):FnOk P w K mg base CX k f fd ps sp' :=
 ⟨fun a H Q E q=>F.len a H Q E (h _ _ _ _ q),fun A outer s H args us a Q E e he c d b=>F.run A outer s H args us a Q E e he c d (h _ _ _ _ b)⟩
section
variable {X:Cx} {pins:List (Addr × Obj)} {σ:St} {H:Hp} {s s':Shared}
theorem Inv.env0 (I:Inv X pins σ H s):Env0 X.prog X.w X.K X.mg X.base X.A X.stack s H :=
 ⟨I.ok.frames,I.ok.mod,I.bs,Ed I.ok.bsz I.sz,I.stack,I.stkFree,I.hok,I.bare⟩
theorem Inv.after (I:Inv X pins σ H s) (h:CE X.stack X.prog X.w H s Q u s'):EP X pins σ Q u s':=by
 obtain ⟨v,H',os,bare,un,hok,r,q⟩:=h
 obtain ⟨c,g,d,t,a⟩:=s'
 obtain rfl:a=s.os:=os
 exact ⟨v,H',I.call (h':=c) (g':=g) (d':=d) (t':=t) (ch:=[]) un hok bare (fun b z=>absurd z (by simp)),r,q⟩
end
def tCall (sp:Sp) (dvs:List V) (E:XK) (t:TA):TE:=fun σ H Q=>t σ H fun a H1=>sp (a ++ dvs) H1 Q E
def Binds (K:FG) (fd:FuncData) (ps:List Str) (ds:List Value):Prop :=
 ∀ (s:Shared) (us:List Value),K.In s.heap->(us ++ ds).length=ps.length->BindsTo s fd ⟨us,[]⟩ (ps.zip (us ++ ds))
theorem Binds.all {K:FG} (h:∀ us:List Value,us.length=ps.length->bindArgs fd ⟨us,[]⟩=pure (ps.zip us)):Binds K fd ps []:=fun s us _ a=>by
 rw [List.append_nil] at a ⊢
 exact .of_eq (h us a)
def re (CX:CXT) (X:Cx) (E:XK):Prop:=∀ (pins:List (Addr × Obj)) (σ:St) (H:Hp) (s:Shared) (e:Value) (s':Shared),Inv X pins σ H s->CX X.stack H s E e s'->X.xe e s'
section
variable {X:Cx} {CX:CXT} {k:Nat} {f C:Addr} {fd:FuncData} {ps:List Str} {sp:Sp} {dvs:List V} {ds:List Value} {E:XK} {x m:Str} {p pos apos:Pos} {e o:Expr} {es:List Expr} {ta:TE} {t:TA}
theorem BF (F:FnOk X.prog X.w X.K X.mg X.base CX k f fd ps sp) (g:Room k X.A) (c:Binds X.K fd ps ds) (hd:Vals dvs ds) (d:re CX X E) (I:Inv X pins σ H s) (r:Vals vs us) (h:sp (vs ++ dvs) H Q E):wpAny (model X.prog X.w) X.A (call (.ref f) us) (EP X pins σ Q) X.xe s:=by
 have b:Vals (vs ++ dvs) (us ++ ds):=r.append hd
 have i:(us ++ ds).length=ps.length:=by rw [<- b.length];exact F.len _ _ _ _ h
 refine wpAny_call (codeAny_mono (F.run X.A X.stack s H ⟨us,[]⟩ (us ++ ds) (vs ++ dvs) Q E g I.env0 (c s us I.kIn i) b h) fun r s' a=>?_)
 cases r with
 | error e=>exact d pins σ H s e s' I a
 | ok fl =>
  cases fl with
  | ret u=>exact I.after a
  | next=>exact False.elim a
  | brk=>exact False.elim a
  | cont=>exact False.elim a
theorem zD (F:FnOk X.prog X.w X.K X.mg X.base CX k f fd ps sp) (m:Room k X.A) (j:Gl X x) (hm:X.mg x=some (.ref f)) (d:PySem.W.keepIn X.K (.ref f)=true) (i:Binds X.K fd ps ds) (hd:Vals dvs ds) (l:re CX X E)
  (g:PA X (e :: es) t) (a:(x == ("__debug__":Str))=false:=by decide) (he:starEach (e :: es) X.env=(false,eval e X.env) :: starEach es X.env:=by rfl) (b:(backTo pos (starEach es X.env)).any (·.1)=false:=by rfl) :
  PE X (.Call (.Name x p) (e :: es) [] pos) (tCall sp dvs E t):=by
 intro pins s σ H Q I h
 refine wpAny_Call_Name_kw (se I j hm ?_ a)
 refine PySem.W.callWith_K (h₀:=X.base) I.ok.mod.kin d (thn (g pos pins s σ H _ I h) fun us s1 ⟨n,H1,c,r,q⟩=>⟨c.kIn,?_⟩) he b
 exact BF F m i hd l c r q
end
def PK (X:Cx) (kws:List Keyword) (t:TA):Prop :=
 ∀ (pos:Pos) (pins:List (Addr × Obj)) (s:Shared) (σ:St) (H:Hp) (Q:List V->Hp->Prop),Inv X pins σ H s->t σ H Q->wpAny (model X.prog X.w) X.A (evalAll ((backToKw pos (keywordEach kws X.env)).map (·.2))) (AP X pins σ Q) X.xe s
section
variable {X:Cx} {CX:CXT} {k:Nat} {f C:Addr} {fd:FuncData} {ps ks:List Str} {sp:Sp} {E:XK} {x m:Str} {p pos apos kpos:Pos} {e o:Expr} {es:List Expr} {kws:List Keyword} {te ta:TE} {t tk:TA} {nm:Option Str}
theorem B7:PK X [] yy:=fun _ _ _ _ H Q I h=>wpAny_evalAll_nil ⟨[],H,I,.nil,h⟩
theorem zv (b:PE X e te) (g:PK X kws t):PK X (⟨nm,e,kpos⟩ :: kws) (nN te t):=by
 intro pos pins s σ H Q I h
 show wpAny _ _ (evalAll ((do let v <- eval e X.env;standAt pos;pure v) :: (backToKw pos (keywordEach kws X.env)).map (·.2))) _ _ s
 refine wpAny_evalAll_cons (Dm (thn (b pins s σ H _ I h) fun u s1 ⟨x,H1,j,a,c⟩=>Dm (wpAny_standAt (Dn ?_))))
 exact thn (g pos pins s1 σ H1 _ j c) fun us s2 ⟨xs,H2,i,f,d⟩=>⟨x :: xs,H2,i,.cons a f,d⟩
variable {g:List Value->List Value->List Value} {gV:List V->List V->List V}
end
structure FnScope (N P:List Str) (sc:Scope):Prop where
 kind:sc.kind=.function
 co:sc.isCoroutine=false
 gen:sc.isGenerator=false
 nd:N.Nodup
 pre:N.take P.length=P
 par:∀ x ∈ P,sc.names.lookup x=some .local\/sc.names.lookup x=some .cell
 nofree:∀ y ∈ sc.names,y.2 ≠ .free
theorem me {kindOf:Str->Option NameKind}:∀ {binds:List (Str × Value)} {m:Str->Option Value},(∀ v,(x,v) ∉ binds)->bindL kindOf binds m x=m x
 | [],_,_=>rfl
 | (n,v) :: r,m,h=>by
  unfold bindL
  rw [me fun w hw=>h w (Dr _ hw)]
  split
  ·have:x ≠ n:=by rintro rfl;exact h v Dq
   simp [this]
  ·rfl
theorem mh {kindOf:Str->Option NameKind}:∀ {binds:List (Str × Value)} {m:Str->Option Value},(∀ v,(x,v) ∉ binds)->bindC kindOf binds m x=m x
 | [],_,_=>rfl
 | (n,v) :: r,m,h=>by
  unfold bindC
  rw [mh fun w hw=>h w (Dr _ hw)]
  split
  ·rfl
  ·have:x ≠ n:=by rintro rfl;exact h v Dq
   simp [this]
theorem mf {kindOf:Str->Option NameKind}:∀ {P:List Str} {a:List Value} {i:Nat} {m:Str->Option Value},P.Nodup->P[i]?=some x->a[i]?=some v->kindOf x=some .local ->
  bindL kindOf (P.zip a) m x=some v
 | [],_,_,_,_,h,_,_=>by simp at h
 | _ :: _,[],_,_,_,_,h,_=>by simp at h
 | p :: P,w :: a,0,m,nd,h1,h2,hk=>by
  simp at h1 h2;subst h1;subst h2
  show bindL kindOf ((p,w) :: P.zip a) m p=_
  unfold bindL
  rw [me fun v b=>(List.nodup_cons.mp nd).1 (List.of_mem_zip b).1,if_pos hk]
  simp
 | p :: P,w :: a,i+1,m,nd,h1,h2,hk=>by
  show bindL kindOf ((p,w) :: P.zip a) m x=_
  unfold bindL
  exact mf (i:=i) (List.nodup_cons.mp nd).2 (by simpa using h1) (by simpa using h2) hk
theorem mi {kindOf:Str->Option NameKind}:∀ {P:List Str} {a:List Value} {i:Nat} {m:Str->Option Value},P.Nodup->P[i]?=some x->a[i]?=some v->kindOf x ≠ some .local ->
  bindC kindOf (P.zip a) m x=some v
 | [],_,_,_,_,h,_,_=>by simp at h
 | _ :: _,[],_,_,_,_,h,_=>by simp at h
 | p :: P,w :: a,0,m,nd,h1,h2,hk=>by
  simp at h1 h2;subst h1;subst h2
  show bindC kindOf ((p,w) :: P.zip a) m p=_
  unfold bindC
  rw [mh fun v b=>(List.nodup_cons.mp nd).1 (List.of_mem_zip b).1,if_neg hk]
  simp
 | p :: P,w :: a,i+1,m,nd,h1,h2,hk=>by
  show bindC kindOf ((p,w) :: P.zip a) m x=_
  unfold bindC
  exact mi (i:=i) (List.nodup_cons.mp nd).2 (by simpa using h1) (by simpa using h2) hk
def jo (N:List Str) (a:List V):St:=a.map some ++ List.replicate (N.length - a.length) none
def pi (CX:CXT) (P:Program) (w:World) (K:FG) (mg:Str->Option Value) (base:Heap) (N:List Str) (qual:Str) (scope:Scope) (f:Addr) (cd:Value) (A:Around) (outer:List Env) (s:Shared) (H:Hp) (E:XK):Cx where
 prog:=P
 w:=w
 K:=K
 mg:=mg
 base:=base
 A:=A.deeper (envOfC qual scope s.heap.objs.size f cd)
 N:=N
 s₀:=s
 H₀:=H
 env:=envOfC qual scope s.heap.objs.size f cd
 outer:=outer
 stack:=envOfC qual scope s.heap.objs.size f cd :: outer
 ex:=[]
 calm:=true
 fn:=fun _=>true
 pn:=[]
 xe:=fun e s'=>wpAny (model P w) (A.deeper (envOfC qual scope s.heap.objs.size f cd)) (leaving (envOfC qual scope s.heap.objs.size f cd) e) (fun _ a=>CX outer H s E e a) (fun b a=>CX outer H s E b a) s'
theorem pC {sc:Scope} {n:Nat} (h:sc.names.lookup x=some .cell):∃ c,(cellsFrom n sc.names []).lookup x=some c:=by
 have q:=PySem.W.cellsFrom_some sc.names n [] (.inl h)
 exact Option.isSome_iff_exists.mp q
theorem uc {K:FG} (S:FnScope N ps scope) (hd:A.handled=none) (d:Env0 P w K mg base A outer s H) (D:vs.length=ps.length) (r:Vals vs us) (x:InCallC s s.heap.objs.size (bindL (envOfC qual scope s.heap.objs.size f cd).kindOf (ps.zip us) fun _=>none) (cellsFrom (s.heap.objs.size+1) scope.names []) (bindC (envOfC qual scope s.heap.objs.size f cd).kindOf (ps.zip us) fun _=>none) s1) :
  Inv (pi CX P w K mg base N qual scope f cd A outer s H E) [] (jo N vs) H s1:=by
 have C:ps.length<=N.length:=by have:=congrArg List.length S.pre;rw [DT] at this;omega
 obtain ⟨h1,tk,rfl,o⟩:=x.done
 have j:∀ b:Addr,b ∉ (pi CX P w K mg base N qual scope f cd A outer s H E).ex:=fun b z=>absurd (show b ∈ ([]:List Addr) from z) (by simp)
 refine ⟨⟨d.mod,S.kind,rfl,rfl,DH _,fun y z c h1 h2=>?_,fun y g=>?_,fun y c _ h=>?_,fun _=>hd,Around.frames_deeper d.frames,.inr ⟨rfl,rfl⟩,fun b z=>absurd z (j b),d.bs,d.bsz,fun b _ _=>j b,fun b z=>absurd z (j b),d.funs,d.frf⟩,
  rfl,d.bare,Un.kept o,⟨_,x.toInCall.ns,fun i y v h1 h2 h3=>?_⟩,fun y c h=>⟨_,x.cell y c h⟩,d.hok.fresh (DH _),fun y c h=>?_,fun p l=>absurd (show p ∈ ([]:List (Addr × Obj)) from l) (by simp),d.hok.kept o,?_⟩
 ·exact name_of_addr x.apart (PySem.mem_of_lookup h1) (PySem.mem_of_lookup h2)
 ·have g:scope.names.lookup y=some .cell\/scope.names.lookup y=some .free:=g
  rcases g with g | g
  ·exact pC g
  ·exact absurd rfl (S.nofree _ (PySem.mem_of_lookup g))
 ·exact Nat.le_of_lt (x.above y c (PySem.mem_of_lookup h))
 ·have hi:i < vs.length:=by
   unfold jo at h2
   by_cases hi:i < vs.length
   ·exact hi
   ·rw [List.getElem?_append_right (by simpa using hi)] at h2
    rw [List.getElem?_replicate] at h2
    split at h2 <;> cases h2
  have t:vs[i]?=some v:=by
   unfold jo at h2
   rw [List.getElem?_append_left (by simpa using hi),DG] at h2
   cases e:vs[i]? with
   | none=>rw [e] at h2;cases h2
   | some a=>rw [e] at h2;cases h2;rfl
  obtain ⟨u,hu,B⟩:=r.get t
  have l:ps[i]?=some y:=by
   rw [<- S.pre,List.getElem?_take_of_lt (by omega)];exact h1
  have m:ps.Nodup:=by rw [<- S.pre];exact S.nd.sublist (List.take_sublist _ _)
  refine ⟨u,B,?_⟩
  rcases S.par y (DD l) with k | k
  ·exact .inl ⟨k,mf m l hu k⟩
  ·obtain ⟨c,e⟩:=pC (n:=s.heap.objs.size+1) k
   refine .inr ⟨.inl k,c,e,?_⟩
   have q:=x.cell y c e
   rw [mi m l hu (by show scope.names.lookup y ≠ _;rw [k];decide)] at q
   exact q
 ·exact d.hok.fresh (Nat.le_of_lt (x.above y c (PySem.mem_of_lookup h)))
 ·unfold jo
  show _=N.length
  rw [DR,DB,List.length_replicate]
  lia
theorem fn_of {K:FG} {k:Nat} {z kV doc pm a ct O:Value} (G:K.lookup f=some ⟨O,od,.func (PySem.W.fnOf name qual params body scope z kV doc pm an a ct),osl⟩) (p:PySem.W.codeIn K a qual=true) (S:FnScope N ps scope) (len:∀ c H Q E,sp c H Q E->c.length=ps.length) (g:∀ (A:Around) (outer:List Env) (s:Shared) (H:Hp) (c:List V) (Q:VK) (E:XK),Room k (A.deeper (envOfC qual scope s.heap.objs.size f a))->sp c H Q E ->
   ∃ t,PSs (pi CX P w K mg base N qual scope f a A outer s H E) body t/\t { nx:=fun _ H'=>Q .non H',rt:=Q } (jo N c) H) :
  FnOk P w K mg base CX (k+1) f (PySem.W.fnOf name qual params body scope z kV doc pm an a ct) ps sp:=by
 refine ⟨len,fun A outer s H args us c Q E l i M r j=>?_⟩
 have C:=len _ _ _ _ j
 have B:K.In s.heap:=i.mod.kin.keeps fun b o e=>(i.bs b o e).1
 have lim:s.heap.NoLimit:=i.mod.nolimit.keeps fun b o e=>(i.bs b o e).1
 have d:∀ y ∈ ps.zip us,scope.names.lookup y.1=some .local\/(scope.names.lookup y.1=some .cell/\((cellsFrom (s.heap.objs.size+1) scope.names []).lookup y.1).isSome=true):=fun ⟨n,v⟩ L=>by
  rcases S.par n (List.of_mem_zip L).1 with q | q
  ·exact .inl q
  ·exact .inr ⟨q,PySem.W.cellsFrom_some _ _ _ (.inl q)⟩
 refine codeAny_call_function l.depth (B _ _ G) rfl S.co S.gen rfl (PySem.W.codeRec_of B p) (M _ _ _ _ ?_)
 refine wpAny_newFunctionEnv_cells S.kind d fun env he s1 x=>?_
 subst he
 refine ⟨lim.keeps x.toInCall.keep,codeAny_func ?_⟩
 obtain ⟨t,F,D⟩:=g A outer s H c Q E (l.deeper _) j
 have I:Inv (pi CX P w K mg base N qual scope f a A outer s H E) [] (jo N c) H s1:=uc S l.hd i C r x
 refine wpAny_mono (F [] s1 (jo N c) H _ I D) (fun fl s' h=>?_) fun e s' h=>h
 have fin:∀ {σ':St} {H':Hp} {v:V} {u:Value},Inv (pi CX P w K mg base N qual scope f a A outer s H E) [] σ' H' s'->RelV v u->Q v H'->CE outer P w H s Q u s' :=
  fun {σ' H' v u} J m q=>⟨v,H',J.os,J.bare,J.base,J.hok,m,q⟩
 cases fl with
 | ret u =>
  obtain ⟨v,σ',H',J,m,q⟩:=h
  exact fin J m q
 | next =>
  obtain ⟨σ',H',J,q⟩:=h
  exact fin (v:=V.non) (u:=Value.none) J rfl q
 | brk =>
  obtain ⟨_,_,_,q⟩:=h
  exact False.elim q
 | cont =>
  obtain ⟨_,_,_,q⟩:=h
  exact False.elim q
end L2
namespace L2
open PySem PySem.Spec PyProof.Rows
section
variable {X:Cx} {x:Str} {p pos:Pos} {e:Expr} {es:List Expr} {t:TA} {id T:String} {r:List V->Hp->VK->Prop}
def tCB (r:List V->Hp->VK->Prop) (t:TA):TE:=fun σ H Q=>t σ H fun a H1=>r a H1 Q
theorem kg (g:bM X (.builtin id) r) (i:Gl X x) (hm:X.mg x=none) (j:bootBuiltins x=some (.builtin id)) (d:PA X (e :: es) t) (m:x ≠ "__name__":=by decide) (a:(x == ("__debug__":Str))=false:=by decide)
  (he:starEach (e :: es) X.env=(false,eval e X.env) :: starEach es X.env:=by rfl) (b:(backTo pos (starEach es X.env)).any (·.1)=false:=by rfl):PE X (.Call (.Name x p) (e :: es) [] pos) (tCB r t):=by
 intro pins s σ H Q I h
 refine wpAny_Call_Name_kw (fK I i hm j ?_ m a)
 exact PyProof.Rows.callWith_builtin1 (thn (d pos pins s σ H _ I h) fun us s1 ⟨l,H1,k,c,f⟩=>g pins s1 σ H1 l us Q k c f) he b
theorem lM (g:bM X (.type T) r) (i:Gl X x) (hm:X.mg x=none) (j:bootBuiltins x=some (.type T)) (d:PA X (e :: es) t) (m:x ≠ "__name__":=by decide) (a:(x == ("__debug__":Str))=false:=by decide)
  (he:starEach (e :: es) X.env=(false,eval e X.env) :: starEach es X.env:=by rfl) (b:(backTo pos (starEach es X.env)).any (·.1)=false:=by rfl):PE X (.Call (.Name x p) (e :: es) [] pos) (tCB r t):=by
 intro pins s σ H Q I h
 refine wpAny_Call_Name_kw (fK I i hm j ?_ m a)
 exact PyProof.Rows.callWith_type1 (thn (d pos pins s σ H _ I h) fun us s1 ⟨l,H1,k,c,f⟩=>g pins s1 σ H1 l us Q k c f) he b
end
end L2
namespace HT
open PySem PyProof.Rows
def lexLt:List Int->List Int->Bool
 | [],[]=>false
 | [],_ :: _=>true
 | _ :: _,[]=>false
 | x :: xs,y :: ys=>if x=y then lexLt xs ys else decide (x < y)
theorem lexLt_cons (x y:Int) (xs ys:List Int):lexLt (x :: xs) (y :: ys)=if x=y then lexLt xs ys else decide (x < y):=rfl
theorem lexLt_nil_nil:lexLt [] []=false:=rfl
theorem lexLt_nil_cons (y:Int) (ys:List Int):lexLt [] (y :: ys)=true:=rfl
theorem lexLt_cons_nil (x:Int) (xs:List Int):lexLt (x :: xs) []=false:=rfl
theorem xA (A:Around) (s:Shared) (a:Int) (t:Tok) (c:Int) (u:Tok):∃ e,SeqAt.EqAt A s (.int a t) (.int c u) e/\(e=true ↔ a=c) :=
 ⟨(a == c),SeqAt.EqAt.int_int a t c u,by simp⟩
theorem rcLt_int (A:Around) (s:Shared) (a:Int) (t:Tok) (c:Int) (u:Tok) (prog:Program) (w:World) (E:Value->Shared->Prop) (Q:Value->Shared->Prop) (h:Q (.bool (decide (a < c))) s) :
  wpAny (model prog w) A (richCompare .Lt (.int a t) (.int c u)) Q E s :=
 (PyProof.Rows.lt_int h:wpAny (model prog w) A (compareOp .Lt (.int a t) (.int c u)) Q E s)
section
open PySem.SeqAt
open PySem.AutoSeq1 (wpAny_loadPart')
open PySem.MeetsSeq PySem.MeetsSeq2 PySem.MeetsSeq3
theorem tuple_lt_ints (l b:Addr) (items f:Array Value) (n H:Nat) (J B:Option Addr) (sl C:Array (Option Value)) (ns ms:List Int) (hi:IntsAre items.toList ns) (F:IntsAre f.toList ms) :
  Meets (Builtin.«tuple.__lt__» ⟨[.ref l,.ref b],[]⟩)
   (fun _ R s=>s.heap.get? l=some { cls:=.type "tuple",dict:=J,data:=.seq items n,slots:=sl }/\s.heap.get? b=some { cls:=.type "tuple",dict:=B,data:=.seq f H,slots:=C } /\
    R (.ok (.ret (.bool (lexLt ns ms)))) s) :=
 .of_wp fun prog w A R s h=>by
  obtain ⟨v,g,d,tk,os⟩:=s;obtain ⟨G,I,h⟩:=h
  have f2:=AutoSeq1.sub_tuple_tuple
  have L:items.size=ns.length:=by rw [<- hi.length];simp
  have K:f.size=ms.length:=by rw [<- F.length];simp
  wp_walk using wpAny_loadPart' G,wpAny_loadPart' I,wpAny_forIn_list _ (fun dI b s'=>b.1=none/\s'=⟨v,g,d,tk,os⟩/\∃ (z ws:List Value) (i j:List Int),dI=z.zip ws /\
   IntsAre z i/\IntsAre ws j/\i.length+f.size=j.length+items.size/\R (.ok (.ret (.bool (lexLt i j)))) ⟨v,g,d,tk,os⟩) _
  case turn =>
   rintro ⟨y,x⟩ dI b s' ⟨r,rfl,z,ws,i,j,hz,p,k,hlen,m⟩
   cases p with
   | nil=>rw [List.zip_nil_left] at hz;cases hz
   | cons a t hvi' =>
    cases k with
    | nil=>rw [List.zip_nil_right] at hz;cases hz
    | cons c u hwi' =>
     rw [List.zip_cons_cons] at hz
     injection hz with hyx hrest
     injection hyx with hy hx
     subst hy hx
     rw [lexLt_cons] at m
     simp only [DS] at hlen
     obtain ⟨e,he,o⟩:=xA A.in1 ⟨v,g,d,tk,os⟩ a t c u
     refine Dm (he prog w _ _ ?_)
     cases e with
     | true =>
      rw [if_pos (o.mp rfl)] at m
      wp_walk
      exact ⟨rfl,rfl,_,_,_,_,hrest,hvi',hwi',by omega,m⟩
     | false =>
      rw [if_neg (fun q=>absurd (o.mpr q) DI)] at m
      have D:=rcLt_int A.in1 ⟨v,g,d,tk,os⟩ a t c u prog w
      wp_walk using D
      exact ⟨_,rfl,by simpa using m⟩
  case fin =>
   rintro ⟨b1,b2⟩ s' ⟨r,rfl,z,ws,i,j,hz,p,k,hlen,m⟩
   simp only at r
   subst r
   have E:lexLt i j=decide (items.size < f.size):=by
    cases p with
    | nil =>
     cases k with
     | nil =>
      simp only [List.length_nil] at hlen
      rw [lexLt_nil_nil]
      exact (DN (by omega)).symm
     | cons c u hw =>
      simp only [List.length_nil,DS] at hlen
      rw [lexLt_nil_cons]
      exact (DM (by omega)).symm
    | cons a t E =>
     cases k with
     | nil =>
      simp only [List.length_nil,DS] at hlen
      rw [lexLt_cons_nil]
      exact (DN (by omega)).symm
     | cons c u hw =>
      rw [List.zip_cons_cons] at hz
      cases hz
   rw [E] at m
   wp_walk
   exact ⟨_,rfl,by simpa [Builtin.Tuple.tupleCompareSizes] using m⟩
  case h =>
   exact ⟨rfl,rfl,items.toList,f.toList,ns,ms,rfl,hi,F,by omega,h⟩
end
section
variable {prog:Program} {w:World} {A:Around} {E:Value->Shared->Prop} {s:Shared}
theorem cat_tup (m:IsTup s.heap t vs.toArray) (o:IsTup s.heap b ws.toArray) (l:vs ≠ []) (h1:ws=[]->Q (.ref t) s) (h2:ws ≠ []->Q (.ref s.heap.objs.size) { s with heap:=s.heap.push { cls:=.type "tuple",data:=.seq (vs ++ ws).toArray } }) (hsz:vs.length+ws.length<=sizeLine):wpAny (model prog w) A (binaryOp .Add (.ref t) (.ref b)) Q E s:=by
 obtain ⟨⟨cls,i,data,sl⟩,g,k,n,hd⟩:=id m
 obtain ⟨⟨h,c,data2,f⟩,a,d,j,hd2⟩:=id o
 simp only at k hd d hd2
 subst k hd d hd2
 have e:vs.toArray ++ ws.toArray=(vs ++ ws).toArray:=by simp
 by_cases hw:ws=[]
 ·exact concat_meets ⟨_,g,rfl⟩ ⟨_,a,rfl⟩ noFill_tuple_add seq_tuple_add PySem.F.slot_tuple_add PySem.F.entry_tuple_add (PySem.F.args_tuple_add_2 _ _)
   (tuple_addW1 t b vs.toArray ws.toArray n j i c sl f (by simpa using l) (by simp [hw])) ⟨g,a,h1 hw⟩
 ·refine concat_meets ⟨_,g,rfl⟩ ⟨_,a,rfl⟩ noFill_tuple_add seq_tuple_add PySem.F.slot_tuple_add PySem.F.entry_tuple_add (PySem.F.args_tuple_add_2 _ _)
   (tuple_addW2 t b vs.toArray ws.toArray n j i c sl f (by simpa using l) (by simpa using hw) (by rw [DK,DK];exact hsz)) ⟨g,a,?_⟩
  rw [e]
  exact h2 hw
def sIx (n d:Nat):Option Int->Nat
 | none=>d
 | some v=>if v < 0 then (v+(n:Int)).toNat else min v.toNat n
theorem BA (n d:Nat) (hd:d<=n) (o:Option Int):sIx n d o<=n:=by
 cases o with
 | none=>exact hd
 | some v =>
  show (if v < 0 then (v+(n:Int)).toNat else min v.toNat n)<=n
  by_cases a:v < 0
  ·rw [if_pos a];omega
  ·rw [if_neg a];exact Nat.min_le_right _ _
theorem sH (v:Int) (n d:Nat):(if v < 0 then max (v+(n:Int)) 0 else min v (n:Int))=((sIx n d (some v):Nat):Int):=by
 show (if v < 0 then max (v+(n:Int)) 0 else min v (n:Int))=(((if v < 0 then (v+(n:Int)).toNat else min v.toNat n):Nat):Int)
 by_cases a:v < 0
 ·simp only [if_pos a];omega
 ·simp only [if_neg a];omega
theorem q9 (lo hi:Option Int) (n:Nat):Builtin.Slice.sliceAdjust lo hi 1 (n:Int)=(((sIx n 0 lo:Nat):Int),((sIx n n hi:Nat):Int)):=by
 have h1:¬ ((1:Int) < 0):=by omega
 unfold Builtin.Slice.sliceAdjust
 simp only [h1,if_false]
 refine Prod.ext ?_ ?_
 ·cases lo with
  | none=>rfl
  | some v=>exact sH v n 0
 ·cases hi with
  | none=>rfl
  | some v=>exact sH v n n
theorem qi (i j:Nat):Builtin.Slice.slicePlaces (i:Int) (j:Int) 1=j - i:=by
 unfold Builtin.Slice.slicePlaces
 have h1:(1:Int) > 0:=by omega
 simp only [h1,if_true,Int.ediv_one]
 split <;> lia
theorem j5 (p:IsPart v o) (h:Q o s):wpAny (model prog w) A (Builtin.Slice.slicePartIndex v) Q E s:=by
 cases p with
 | none=>exact slicePart_none h
 | int i t=>exact slicePart_int h
theorem dP {sl:Addr} {d c:Value} {lo hi:Option Int} {n:Nat} (f:s.heap.IsSliceOf sl d c .none) (pl:IsPart d lo) (pu:IsPart c hi) (h:Q (((sIx n 0 lo:Nat):Int),1,sIx n n hi - sIx n 0 lo) s):wpAny (model prog w) A (Builtin.Slice.sliceApplied (.ref sl) (pure (n:Int))) Q E s:=by
 obtain ⟨os,b,e,a⟩:=id f
 unfold Builtin.Slice.sliceApplied Builtin.Slice.sliceFields
 refine Dm (Dm (wpAny_field b a (x:=d) rfl (Dm (wpAny_field b a (x:=c) rfl (Dm (wpAny_field b a (x:=.none) rfl (Dn ?_)))))))
 refine Dm (slicePart_none ?_)
 show wpAny _ _ (if ((1:Int) == 0)=true then _ else _) _ _ s
 rw [if_neg (by decide)]
 refine Dm (j5 pl (Dm (j5 pu (Dm (Dn ?_)))))
 show wpAny _ _ (match Builtin.Slice.sliceAdjust lo hi 1 (n:Int) with | (lo,hi)=>pure (lo,(1:Int),Builtin.Slice.slicePlaces lo hi 1)) _ _ s
 rw [q9 lo hi n]
 show wpAny _ _ (pure (((sIx n 0 lo:Nat):Int),(1:Int),Builtin.Slice.slicePlaces ((sIx n 0 lo:Nat):Int) ((sIx n n hi:Nat):Int) 1)) _ _ s
 rw [qi]
 exact Dn h
theorem we (xs:Array Value) (i k:Nat):((List.range k).filterMap fun (m:Nat)=>xs[((i:Int)+(m:Int) * 1).toNat]?).toArray=((xs.toList.drop i).take k).toArray:=by
 have e:(fun (m:Nat)=>xs[((i:Int)+(m:Int) * 1).toNat]?)=fun m=>xs[i+m]?:=by
  funext m
  have:((i:Int)+(m:Int) * 1).toNat=i+m:=by omega
  rw [this]
 rw [e]
 have:=pick_run xs i k
 rw [List.filterMap_map] at this
 have a:((fun x=>xs[x]?) ∘ fun x=>i+x)=fun m=>xs[i+m]?:=rfl
 rw [a] at this
 rw [this]
theorem getItem_tuple_cut {lo hi:Option Int} (b:IsTup s.heap t items) (g:s.heap.IsSliceOf sl vl vu .none) (pl:IsPart vl lo) (pu:IsPart vu hi) (hw:¬ (sIx items.size 0 lo=0/\sIx items.size items.size hi=items.size)) (h:Q (.ref s.heap.objs.size) { s with heap:=s.heap.push { cls:=.type "tuple",data:=.seq ((items.toList.drop (sIx items.size 0 lo)).take (sIx items.size items.size hi - sIx items.size 0 lo)).toArray } }) (hsz:items.size<=sizeLine):wpAny (model prog w) A (getItem (.ref t) (.ref sl)) Q E s:=by
 have a:sizeOk (.seq ((items.toList.drop (sIx items.size 0 lo)).take (sIx items.size items.size hi - sIx items.size 0 lo)).toArray):=by
  show ((items.toList.drop (sIx items.size 0 lo)).take (sIx items.size items.size hi - sIx items.size 0 lo)).toArray.size<=sizeLine
  rw [DK,DT,List.length_drop,Array.length_toList]
  lia
 have l:sIx items.size items.size hi<=items.size:=BA _ _ (DH _) hi
 obtain ⟨os,f,d,i⟩:=id g
 have e:s.TypeIs (.ref sl) "slice":=⟨os,f,d⟩
 unfold getItem
 try with_reducible refine Dp ?_
 first | refine Dm (Dn ?_) | skip
 refine Dm (wpAny_sequenceKey b.typeIs (by decide) ?_)
 refine Dm (wpAny_callSpecial?_slot (name:=Str.ofString "__getitem__") b.typeIs PyProof.Rows.slot_tuple_getitem
  (wpAny_call_entry PyProof.Rows.slot_tuple_getitem b.typeIs entry_tuple_getitem ?_ (args_tuple_getitem _ _)))
 show wpAny _ _ (Builtin.Tuple.tupleItemsOf (.ref t) >>= _) _ _ s
 refine Dm (tupleItemsOf_ b ?_)
 refine Dm (wpAny_typeOf e ?_)
 rw [if_pos (by decide)]
 refine Dm (dP g pl pu ?_)
 have c:¬ ((((sIx items.size 0 lo:Nat):Int) == 0 && (1:Int) == 1 && (sIx items.size items.size hi - sIx items.size 0 lo) == items.size)=true):=by
  intro q
  rw [Bool.and_eq_true,Bool.and_eq_true] at q
  have j:((sIx items.size 0 lo:Nat):Int)=0:=eq_of_beq q.1.1
  have k:sIx items.size items.size hi - sIx items.size 0 lo=items.size:=eq_of_beq q.2
  exact hw ⟨by omega,by omega⟩
 show wpAny _ _ (if (((sIx items.size 0 lo:Nat):Int) == 0 && (1:Int) == 1 && (sIx items.size items.size hi - sIx items.size 0 lo) == items.size)=true then _ else _) _ _ s
 rw [if_neg c,we]
 first
  | exact Dm (m:=Builtin.Tuple.tupleExact _) (wpAny_newObj_type (Dn ⟨_,rfl,Dn h⟩) a)
  | exact Dm (m:=Builtin.Tuple.tupleExact _) (wpAny_newObj_type (Dm (Dn (Dn ⟨_,rfl,Dn h⟩))) a)
  | exact Dm (Dm (m:=Builtin.Tuple.tupleExact _) (wpAny_newObj_type (Dn (Dn ⟨_,rfl,Dn h⟩)) a))
  | exact Dm (Dm (m:=Builtin.Tuple.tupleExact _) (wpAny_newObj_type (Dn ⟨_,rfl,Dn h⟩) a))
end
end HT
namespace L2
open PySem PySem.Spec PyProof.Rows
abbrev TO:=St->Hp->(Option Int->Hp->Prop)->Prop
def PO (X:Cx) (e:Option Expr) (t:TO):Prop :=
 ∀ (pins:List (Addr × Obj)) (s:Shared) (σ:St) (H:Hp) (Q:Option Int->Hp->Prop),Inv X pins σ H s->t σ H Q ->
  wpAny (model X.prog X.w) X.A (evalPart e X.env) (fun u s'=>∃ o H',Inv X pins σ H' s'/\IsPart u o/\Q o H') X.xe s
def yx:TO:=fun _ H Q=>Q none H
def tPart (t:TE):TO:=fun σ H Q=>t σ H fun x H1=>∃ i,x=.int i/\Q (some i) H1
theorem kB:∀ {us:List Value},Vals (ns.map V.int) us->IntsAre us ns:=by
 induction ns with
 | nil=>intro us r;rw [List.map_nil] at r;cases r;exact .nil
 | cons n ns ih =>
  intro us r
  rw [DL] at r
  cases r with
  | cons r1 r2 =>
   obtain ⟨t,e⟩:=r1
   subst e
   exact .cons n t (ih r2)
section
variable {X:Cx} {e:Expr} {te:TE} {lo hi:Option Expr} {tl th:TO} {pos p2:Pos}
theorem zu:PO X none yx:=by
 intro pins s σ H Q I h
 rw [evalPart_none]
 exact Dn ⟨none,H,I,.none,h⟩
theorem zt (h:PE X e te):PO X (some e) (tPart te):=by
 intro pins s σ H Q I hw
 rw [evalPart_some]
 refine thn (h pins s σ H _ I hw) fun u s1 ⟨x,H1,c,a,b⟩=>?_
 obtain ⟨i,rfl,q⟩:=b
 obtain ⟨t,rfl⟩:=a
 exact ⟨some i,H1,c,.int i t,q⟩
def SlR (X:Cx) (r:V->Option Int->Option Int->Hp->VK->Prop):Prop :=
 ∀ (pins:List (Addr × Obj)) (s:Shared) (σ:St) (H:Hp) (x:V) (v b a:Value) (lo hi:Option Int) (sl:Addr) (Q:VK),Inv X pins σ H s->RelV x v->s.heap.IsSliceOf sl b a .none->IsPart b lo->IsPart a hi->r x lo hi H Q ->
  ∃ T id,typeLookup (.type T) "__getitem__"=pure (some (.builtin id))/\s.TypeIs v T/\wpAny (model X.prog X.w) X.A (getItem v (.ref sl)) (EP X pins σ Q) X.xe s
theorem SlR.or (h:SlR X r) (h':SlR X r'):SlR X (fun x lo hi H Q=>r x lo hi H Q\/r' x lo hi H Q):=by
 intro pins s σ H x v b a lo hi sl Q I d c pl pu q
 rcases q with q | q
 ·exact h pins s σ H x v b a lo hi sl Q I d c pl pu q
 ·exact h' pins s σ H x v b a lo hi sl Q I d c pl pu q
def tSl (r:V->Option Int->Option Int->Hp->VK->Prop) (te:TE) (tl th:TO):TE:=fun σ H Q=>te σ H fun x H1=>tl σ H1 fun l H2=>th σ H2 fun u a=>r x l u a Q
theorem wg (m:SlR X r) (he:PE X e te) (g:PO X lo tl) (hu:PO X hi th):PE X (.Subscript e (.Slice lo hi none p2) pos) (tSl r te tl th):=by
 intro pins s σ H Q I h
 refine Subscript_ (thn (he pins s σ H _ I h) fun v s1 ⟨x,H1,n,f,y⟩=>?_)
 refine wpAny_Slice (thn (g pins s1 σ H1 _ n y) fun c s2 ⟨l,H2,B,pl,z⟩=>thn (hu pins s2 σ H2 _ B z) fun a s3 ⟨u,d,p,pu,j⟩=>?_)
 rw [evalPart_none]
 refine Dn ?_
 have k:Inv X pins σ d { s3 with heap:=s3.heap.push { cls:=.type "slice",data:=.fields #[c,a,.none] } }:=p.kept (t':=s3.toks) fun b ob q=>Ds _ q
 obtain ⟨T,id,o,t,i⟩:=m pins { s3 with heap:=s3.heap.push { cls:=.type "slice",data:=.fields #[c,a,.none] } } σ d x v c a l u s3.heap.objs.size Q k f (Heap.IsSliceOf.new ..) pl pu j
 show wpAny (model X.prog X.w) X.A (subscriptTail e (.Slice lo hi none p2) v (.ref s3.heap.objs.size)) (EP X pins σ Q) X.xe { s3 with heap:=s3.heap.push { cls:=.type "slice",data:=.fields #[c,a,.none] } }
 exact tail_any (ops:=[.ref s3.heap.objs.size,v]) t o i (by with_unfolding_all rfl)
def pj (xs:List V) (lo hi:Option Int):List V:=(xs.drop (HT.sIx xs.length 0 lo)).take (HT.sIx xs.length xs.length hi - HT.sIx xs.length 0 lo)
theorem jG (xs:List V) (lo hi:Option Int):(pj xs lo hi).length<=xs.length:=by
 unfold pj
 rw [DT,List.length_drop]
 lia
def BW (K:FG):V->Option Int->Option Int->Hp->VK->Prop:=fun x lo hi H Q=>∃ a xs,x=.ref a/\SqT K H a xs /\
 ¬ (HT.sIx xs.length 0 lo=0/\HT.sIx xs.length xs.length hi=xs.length)/\∀ p,H p=none->Q (.ref p) (upd H p (.tup (pj xs lo hi)))
theorem sl_tup:SlR X (BW X.K):=by
 intro pins s σ H x v i g lo hi sl Q I e d pl pu h
 obtain ⟨a,xs,rfl,f,hw,q⟩:=h
 cases e
 obtain ⟨its,r,c,hz⟩:=I.tuple f
 have hlen:its.toArray.size=xs.length:=by rw [DK];exact r.length.symm
 refine ⟨"tuple",_,PyProof.Rows.slot_tuple_getitem.lookup,c.typeIs,?_⟩
 refine HT.getItem_tuple_cut c d pl pu (by rw [hlen];exact hw) ?_ (by rw [hlen];exact hz)
 rw [hlen]
 refine ⟨.ref s.heap.objs.size,_,I.laid (t':=s.toks) (o:=.tup (pj xs lo hi)) (fun b ob q=>Ds _ q) (DH _) ?_,rfl,q _ (I.hok.fresh (DH _))⟩
 exact ⟨Ed (jG xs lo hi) hz,_,(r.drop (HT.sIx xs.length 0 lo)).take (HT.sIx xs.length xs.length hi - HT.sIx xs.length 0 lo),IsTupD.new _ _⟩
def rQ (K:FG):R2:=fun x y H Q=>∃ a b xs ys,x=.ref a/\y=.ref b/\SqT K H a xs/\SqT K H b ys/\xs ≠ []/\xs.length+ys.length<=sizeLine /\
 (ys=[]->Q (.ref a) H)/\(ys ≠ []->∀ p,H p=none->Q (.ref p) (upd H p (.tup (xs ++ ys))))
theorem Vals.nil_iff (r:Vals xs us):us=[] ↔ xs=[]:=by
 cases r with
 | nil=>simp
 | cons _ _=>simp
theorem op_catT:OpR X (binaryOp .Add) (rQ X.K):=by
 intro pins s σ H x y v u Q I k m h
 obtain ⟨a,b,xs,ys,rfl,rfl,g,j,n,hz,i,l⟩:=h
 cases k
 cases m
 obtain ⟨its,d,f,_⟩:=I.tuple g
 obtain ⟨e,c,p2,_⟩:=I.tuple j
 refine HT.cat_tup f p2 (fun z=>n (d.nil_iff.mp z)) (fun z=>⟨.ref a,H,I,rfl,i (c.nil_iff.mp z)⟩) (fun z=>?_) (by rw [<- d.length,<- c.length];exact hz)
 refine ⟨.ref s.heap.objs.size,_,I.laid (t':=s.toks) (o:=.tup (xs ++ ys)) (fun b ob q=>Ds _ q) (DH _) ?_,rfl,l (fun w=>z (c.nil_iff.mpr w)) _ (I.hok.fresh (DH _))⟩
 exact ⟨by rw [DR];exact hz,_,d.append c,IsTupD.new _ _⟩
end
end L2
namespace L2
open PySem PySem.Spec PyProof.Rows
def ixN (n:Nat) (i:Int):Option Nat:=if 0<=i then (if i < n then some i.toNat else none) else if -(n:Int)<=i then some (i+n).toNat else none
def atI {α:Type} (xs:List α) (i:Int):Option α:=(ixN xs.length i).bind fun j=>xs[j]?
theorem sh {n:Nat} {i:Int} {j:Nat} (h:ixN n i=some j):seqIndex? i n=some j/\j < n/\-(n:Int)<=i/\i < n:=by
 unfold ixN at h
 by_cases h0:0<=i
 ·rw [if_pos h0] at h
  by_cases h1:i < n
  ·rw [if_pos h1] at h
   have e:i.toNat=j:=Ei h
   exact ⟨by rw [seqIndex_of h0 h1,e],by omega,by omega,h1⟩
  ·rw [if_neg h1] at h;cases h
 ·rw [if_neg h0] at h
  by_cases h1:-(n:Int)<=i
  ·rw [if_pos h1] at h
   have e:(i+n).toNat=j:=Ei h
   exact ⟨by rw [seqIndex_neg (by omega) h1,e],by omega,h1,by omega⟩
  ·rw [if_neg h1] at h;cases h
theorem sM {i:Int} (h:atI xs i=some v):∃ j,seqIndex? i xs.length=some j/\xs[j]?=some v/\j < xs.length/\-(xs.length:Int)<=i/\i < xs.length:=by
 unfold atI at h
 cases e:ixN xs.length i with
 | none=>rw [e] at h;cases h
 | some j =>
  rw [e] at h
  obtain ⟨h1,h2,h3,a⟩:=sh e
  exact ⟨j,h1,h,h2,h3,a⟩
def sP (b:Expr):Prop:=∀ o i,subscripted b false o i=operate [o,i] (getItem o i)
def IxR (X:Cx) (r:R2):Prop :=
 ∀ (value slice:Expr) (pins:List (Addr × Obj)) (s:Shared) (σ:St) (H:Hp) (x y:V) (v u:Value) (Q:VK),Inv X pins σ H s->RelV x v->RelV y u->r x y H Q ->
  subscripted slice false v u=operate [v,u] (getItem v u)->wpAny (model X.prog X.w) X.A (subscriptTail value slice v u) (EP X pins σ Q) X.xe s
def MtR (X:Cx) (id:String) (r:V->List V->Hp->VK->Prop):Prop :=
 ∀ (pins:List (Addr × Obj)) (s:Shared) (σ:St) (H:Hp) (x:V) (xs:List V) (v:Value) (us:List Value) (Q:VK),Inv X pins σ H s->RelV x v->Vals xs us->r x xs H Q ->
  wpAny (model X.prog X.w) X.A (call (.builtin id) (v :: us)) (EP X pins σ Q) X.xe s
section
variable {X:Cx} {a b:Expr} {ta tb:TE} {pos:Pos}
theorem IxR.or (h:IxR X r) (h':IxR X r'):IxR X (fun x y H Q=>r x y H Q\/r' x y H Q):=by
 intro value slice pins s σ H x y v u Q I b c q a
 rcases q with q | q
 ·exact h value slice pins s σ H x y v u Q I b c q a
 ·exact h' value slice pins s σ H x y v u Q I b c q a
theorem pe_ix (i:IxR X r) (d:PE X a ta) (e:PE X b tb) (c:sP b):PE X (.Subscript a b pos) (tOp r ta tb):=by
 intro pins s σ H Q I h
 exact Subscript_ (Db d e I h fun v u s2 x y H2 j f g q=>i a b pins s2 σ H2 x y v u Q j f g q (c _ _))
def vU (K:FG):R2:=fun x y H Q=>∃ p xs i v,x=.ref p/\y=.int i/\SqL K H p xs/\atI xs i=some v/\Q v H
def vT (K:FG):R2:=fun x y H Q=>∃ p xs i v,x=.ref p/\y=.int i/\SqT K H p xs/\atI xs i=some v/\Q v H
theorem ix_list:IxR X (vU X.K):=by
 intro value slice pins s σ H x y v u Q I g m h c
 obtain ⟨p,xs,i,z,rfl,rfl,f,he,q⟩:=h
 cases g
 obtain ⟨t,rfl⟩:=m
 obtain ⟨its,r,pl,hz⟩:=I.list f
 obtain ⟨j,h1,h2,h3,k,l⟩:=sM he
 obtain ⟨w,d,b⟩:=r.get h2
 have e:=r.length
 have n:=mU
 have fin:EP X pins σ Q w s:=⟨z,H,I,b,q⟩
 by_cases h0:0<=i
 ·have a:i.toNat=j:=by
   rw [seqIndex_of h0 l] at h1
   exact Ei h1
  exact item_listR pl.isList h0 (by omega) (by rw [a];simpa using d) fin c
 ·have a:(i+(its.toArray.size:Int)).toNat=j:=by
   rw [seqIndex_neg (by omega) k] at h1
   rw [DK,<- e]
   exact Ei h1
  exact subscriptTail_builtinR (x:=w) pl.isList.typeIs slot_list_getitem.lookup
   (wpAny_getItem_list_neg (Q:=fun r s'=>r=w/\EP X pins σ Q r s') pl.isList (by omega) (by rw [DK] <;> omega) (by omega) (by rw [a];simpa using d) ⟨rfl,fin⟩) c
theorem CP:IxR X (vT X.K):=by
 intro value slice pins s σ H x y v u Q I e f h b
 obtain ⟨p,xs,i,z,rfl,rfl,d,he,q⟩:=h
 cases e
 obtain ⟨t,rfl⟩:=f
 obtain ⟨its,r,pl,hz⟩:=I.tuple d
 obtain ⟨j,h1,h2,h3,k,l⟩:=sM he
 obtain ⟨w,g,a⟩:=r.get h2
 have c:=r.length
 have m:=mU
 have fin:EP X pins σ Q w s:=⟨z,H,I,a,q⟩
 exact subscriptTail_builtinR (x:=w) pl.typeIs slot_tuple_getitem.lookup
  (getItem_tuple (j:=j) (Q:=fun r s'=>r=w/\EP X pins σ Q r s') pl (by omega) (by omega) (by rw [DK,<- c];exact h1) (by simpa using g) ⟨rfl,fin⟩) b
theorem qw (its:List Value) (n j:Nat) (u:Value):Obj.mapSeq (·.setIfInBounds j u) { cls:=.type "list",data:=.seq its.toArray n } = { cls:=.type "list",data:=.seq (its.set j u).toArray n }:=by
 simp [Obj.mapSeq]
theorem Inv.lst {pins:List (Addr × Obj)} {σ:St} {H:Hp} {s:Shared} {p:Addr} {xs:List V} (I:Inv X pins σ H s) (h:H p=some (.lst xs)) :
  ∃ (its:List Value) (n:Nat),Vals xs its/\s.heap.get? p=some { cls:=.type "list",data:=.seq its.toArray n }/\xs.length<=sizeLine:=by
 obtain ⟨z,its,n,r,e⟩:=I.hok p _ h
 exact ⟨its,n,r,e,z⟩
theorem Inv.lstUpd {its its':List Value} {n a:Nat} (I:Inv X pins σ H s) (h:H p=some (.lst xs)) (c:s.heap.get? p=some { cls:=.type "list",data:=.seq its.toArray n }) (hf:f { cls:=.type "list",data:=.seq its.toArray n } = { cls:=.type "list",data:=.seq its'.toArray a }) (r:Vals ys its') (hz:ys.length<=sizeLine) (t:Nat) :
  Inv X pins σ (upd H p (.lst ys)) { s with heap:=s.heap.update p f,toks:=t }:=by
 have e:(s.heap.update p f).get? p=some { cls:=.type "list",data:=.seq its'.toArray a }:=by
  rw [DQ f c (by rw [hf] <;> rfl),hf]
 refine I.write (x:=p) (e:=p) (by rw [h];trivial) (.inl rfl) (fun b u d q=>(Ea _ _ (Ne.symm d)).trans q) ⟨_,e⟩ ?_
 exact ⟨hz,its',a,r,e⟩
def rK:V->V->V->Hp->(Hp->Prop)->Prop:=fun o i v H Q=>∃ p xs k j,o=.ref p/\i=.int k/\H p=some (.lst xs)/\ixN xs.length k=some j/\Q (upd H p (.lst (xs.set j v)))
theorem vg:x5 X rK:=by
 intro pins s σ H o i v x z u Q I g m w h
 obtain ⟨p,xs,k,j,rfl,rfl,d,l,q⟩:=h
 cases g
 obtain ⟨t,rfl⟩:=m
 obtain ⟨its,n,r,a,hz⟩:=I.lst d
 obtain ⟨h1,h2,h3,e⟩:=sh l
 have b:=r.length
 have y:=mU
 have f:Inv X pins σ (upd H p (.lst (xs.set j v))) { s with heap:=s.heap.update p (Obj.mapSeq (·.setIfInBounds j u)) } :=
  I.lstUpd d a (qw its n j u) (r.set w j) (by rw [List.length_set];exact hz) s.toks
 by_cases h0:0<=k
 ·have c:k.toNat=j:=by
   rw [seqIndex_of h0 e] at h1
   exact Ei h1
  exact PySem.W.ki_setAt a h0 (by omega) (by rw [DK,<- b];exact e) (by rw [c];exact ⟨_,f,q⟩)
 ·have c:(k+(its.toArray.size:Int)).toNat=j:=by
   rw [seqIndex_neg (by omega) h3] at h1
   rw [DK,<- b]
   exact Ei h1
  exact PySem.W.ki_setBack a (by omega) (by rw [DK,<- b];exact h3) (by omega) (by rw [c];exact ⟨_,f,q⟩)
theorem mx (lo hi:Option Int) (n:Nat):(sliceBounds lo hi none n).1=((HT.sIx n 0 lo:Nat):Int)/\(sliceBounds lo hi none n).2.1=((HT.sIx n n hi:Nat):Int)/\(sliceBounds lo hi none n).2.2=1:=by
 refine ⟨?_,?_,rfl⟩
 ·cases lo with
  | none=>simp [sliceBounds,HT.sIx]
  | some i =>
   simp only [sliceBounds,HT.sIx,Option.getD_none,show (1:Int) > 0 by decide,if_true]
   by_cases h:i < 0
   ·simp only [h,if_true] <;> omega
   ·simp only [h,if_false] <;> omega
 ·cases hi with
  | none=>simp [sliceBounds,HT.sIx]
  | some i =>
   simp only [sliceBounds,HT.sIx,Option.getD_none,show (1:Int) > 0 by decide,if_true]
   by_cases h:i < 0
   ·simp only [h,if_true] <;> omega
   ·simp only [h,if_false] <;> omega
theorem kT (its:List Value) (lo hi:Option Int):slicePick its.toArray lo hi none=((its.drop (HT.sIx its.length 0 lo)).take (HT.sIx its.length its.length hi - HT.sIx its.length 0 lo)).toArray:=by
 obtain ⟨h1,h2,h3⟩:=mx lo hi its.toArray.size
 unfold slicePick
 rw [h1,h2,h3]
 simp only [sliceRange_one,pick_run,DK] <;> rfl
def BY (K:FG):V->Option Int->Option Int->Hp->VK->Prop:=fun x lo hi H Q=>∃ a xs,x=.ref a/\SqL K H a xs/\∀ p,H p=none->Q (.ref p) (upd H p (.lst (pj xs lo hi)))
theorem sl_list:SlR X (BY X.K):=by
 intro pins s σ H x v i g lo hi sl Q I e d pl pu h
 obtain ⟨a,xs,rfl,f,q⟩:=h
 cases e
 obtain ⟨its,r,c,hz⟩:=I.list f
 have hlen:=r.length
 refine ⟨"list",_,slot_list_getitem.lookup,c.isList.typeIs,?_⟩
 refine wpAny_getItem_list_slice c.isList d pl pu .none (by simp) ?_ (by rw [DK] <;> omega)
 rw [kT,<- hlen]
 refine ⟨.ref s.heap.objs.size,_,I.laid (t':=s.toks) (o:=.lst (pj xs lo hi)) (fun b ob q=>Ds _ q) (DH _) ?_,rfl,q _ (I.hok.fresh (DH _))⟩
 exact ⟨Ed (jG xs lo hi) hz,_,0,(r.drop (HT.sIx xs.length 0 lo)).take (HT.sIx xs.length xs.length hi - HT.sIx xs.length 0 lo),DA _ rfl⟩
theorem nh:bM X (.builtin "len") (fun xs H Q=>∃ p ys,xs=[.ref p]/\(SqL X.K H p ys\/SqT X.K H p ys)/\Q (.int ys.length) H):=by
 intro pins s σ H xs us Q I r h
 obtain ⟨p,ys,rfl,a,q⟩:=h
 obtain ⟨u,rfl,c⟩:=gi r
 cases c
 have d:=mU
 rcases a with a | a
 ·obtain ⟨its,b,pl,hz⟩:=I.list a
  have hlen:=b.length
  exact Calls.call_len_list pl.isList (by simp only [DK] <;> omega) ⟨.int ys.length,H,I.tok _,⟨s.toks+1,by rw [DK,hlen]⟩,q⟩
 ·obtain ⟨its,b,pl,hz⟩:=I.tuple a
  have hlen:=b.length
  exact len_tuple pl (by simp only [DK] <;> omega) ⟨.int ys.length,H,I.tok _,⟨s.toks+1,by rw [DK,hlen]⟩,q⟩
theorem ng:bM X (.type "list") (fun xs H Q=>∃ p ys,xs=[.ref p]/\(SqL X.K H p ys\/SqT X.K H p ys)/\∀ l,H l=none->Q (.ref l) (upd H l (.lst ys))):=by
 intro pins s σ H xs us Q I r h
 obtain ⟨p,ys,rfl,d,q⟩:=h
 obtain ⟨u,rfl,i⟩:=gi r
 cases i
 have fin:∀ (its:List Value),Vals ys its->ys.length<=sizeLine->∀ (h':Heap) (a:Nat),(∀ b o',s.heap.get? b=some o'->h'.get? b=some o') ->
   h'.get? s.heap.objs.size=some { cls:=.type "list",dict:=none,data:=.seq its.toArray a,slots:=#[] }->EP X pins σ Q (.ref s.heap.objs.size) { s with heap:=h' }:=fun its c hz h' a kp e =>
  ⟨.ref s.heap.objs.size,_,I.laid (t':=s.toks) kp (DH _) (show ObjOk X.prog X.w _ h' _ (.lst ys) from ⟨hz,its,a,c,e⟩),rfl,q _ (I.hok.fresh (DH _))⟩
 rcases d with d | d
 ·obtain ⟨its,c,pl,hz⟩:=I.list d
  have hlen:=c.length
  obtain ⟨o,f,g,n,hd⟩:=pl.isList
  exact call_list_seq p (.inl rfl) f g hd (fun h' a kp e=>fin its c hz h' a kp e) (by simp only [DK] <;> omega)
 ·obtain ⟨its,c,pl,hz⟩:=I.tuple d
  have hlen:=c.length
  obtain ⟨o,f,g,n,hd⟩:=pl
  exact call_list_seq p (.inr rfl) f g hd (fun h' a kp e=>fin its c hz h' a kp e) (by simp only [DK] <;> omega)
theorem la:bM X (.type "tuple") (fun xs H Q=>∃ p ys,xs=[.ref p]/\((SqL X.K H p ys/\∀ l,H l=none->Q (.ref l) (upd H l (.tup ys)))\/(SqT X.K H p ys/\Q (.ref p) H))):=by
 intro pins s σ H xs us Q I r h
 obtain ⟨p,ys,rfl,h⟩:=h
 obtain ⟨u,rfl,f⟩:=gi r
 cases f
 rcases h with ⟨a,q⟩ | ⟨a,q⟩
 ·obtain ⟨its,c,pl,hz⟩:=I.list a
  have hlen:=c.length
  refine call_tuple_list pl.isList (fun h' kp=>?_) (by simp only [DK] <;> omega)
  have d:Inv X pins σ H { s with heap:=h' }:=I.kept (t':=s.toks) kp
  have g:Inv X pins σ (upd H h'.objs.size (.tup ys)) { s with heap:=h'.push { cls:=.type "tuple",data:=.seq its.toArray } } :=
   d.laid (t':=s.toks) (fun b o e=>Ds _ e) (DH _) (show ObjOk X.prog X.w _ _ _ (.tup ys) from ⟨hz,its,c,IsTupD.new _ _⟩)
  exact ⟨.ref h'.objs.size,_,g,rfl,q _ (d.hok.fresh (DH _))⟩
 ·obtain ⟨its,c,pl,hz⟩:=I.tuple a
  exact call_tuple_same pl ⟨.ref p,H,I,rfl,q⟩
def tyV (K:FG) (T:String) (x:V) (H:Hp):Prop:=match x with
 | .str _=>T = "str"
 | .int _=>T = "int"
 | .ref p=>(T = "list"/\∃ xs,SqL K H p xs)\/(T = "tuple"/\((∃ o,K.lookup p=some o/\o.cls=.type "tuple"/\o.dict=none)\/∃ xs,H p=some (.tup xs))) \/
   (T = "dict"/\((∃ kvs,H p=some (.dK kvs))\/∃ kvs,H p=some (.dT kvs)))\/(T = "set"/\∃ S n,H p=some (.set S n))
 | _=>False
theorem A6 (I:Inv X pins σ H s) (r:RelV x v) (ty:tyV X.K T x H) :
  s.TypeIs v T/\∀ a,v=.ref a->∃ ob,s.heap.get? a=some ob/\ob.dict=none:=by
 cases x with
 | str z =>
  obtain ⟨t,rfl⟩:=r
  cases (show T = "str" from ty)
  exact ⟨typeIs_str s z t,fun _ e=>nomatch e⟩
 | int i =>
  obtain ⟨t,rfl⟩:=r
  cases (show T = "int" from ty)
  exact ⟨typeIs_int s i t,fun _ e=>nomatch e⟩
 | ref p =>
  cases r
  rcases ty with ⟨rfl,xs,h⟩ | ⟨rfl,⟨o,b,j,hd⟩ | ⟨xs,g⟩⟩ | ⟨rfl,b⟩ | ⟨rfl,S,n,b⟩
  ·obtain ⟨its,_,pl,_⟩:=I.list h
   refine ⟨pl.isList.typeIs,fun a e=>?_⟩
   cases e
   obtain ⟨o,n,e,c,hd,_⟩:=pl
   exact ⟨o,e,hd⟩
  ·refine ⟨⟨o,I.kIn p o b,j⟩,fun a e=>?_⟩
   cases e
   exact ⟨o,I.kIn _ o b,hd⟩
  ·obtain ⟨_,its,_,o,e,c,n,d⟩:=I.hok p _ g
   refine ⟨⟨o,e,c⟩,fun a f=>?_⟩
   cases f
   exact ⟨o,e,congrArg Prod.snd d⟩
  ·have z:∃ o,s.heap.get? p=some o/\o.ExactDict:=by
    rcases b with ⟨kvs,b⟩ | ⟨kvs,b⟩
    ·obtain ⟨_,_,_,_,o,_,_,e,ex,_⟩:=I.hok p _ b
     exact ⟨o,e,ex⟩
    ·obtain ⟨_,_,_,_,o,_,_,e,ex,_⟩:=I.hok p _ b
     exact ⟨o,e,ex⟩
   obtain ⟨o,e,ex⟩:=z
   refine ⟨⟨o,e,ex.1⟩,fun a f=>?_⟩
   cases f
   exact ⟨o,e,ex.2.1⟩
  ·obtain ⟨o,_,_,_,e,ex,_⟩:=I.hok p _ b
   refine ⟨⟨o,e,ex.1⟩,fun a f=>?_⟩
   cases f
   exact ⟨o,e,ex.2.1⟩
 | _=>exact False.elim ty
def tBM (K:FG) (T:String) (r:V->List V->Hp->VK->Prop) (to:TE) (t:TA):TE:=fun σ H Q=>to σ H fun x H1=>tyV K T x H1/\t σ H1 fun xs H2=>r x xs H2 Q
variable {o e:Expr} {es:List Expr} {to:TE} {t:TA} {name:Str} {apos cpos:Pos} {T id:String} {r:V->List V->Hp->VK->Prop}
theorem AL (k:PlainAttrs T) (slot:Slot T name id) (f:typeOf (.builtin id)=pure (.type "method_descriptor")) (hm:MtR X id r) (l:PE X o to) (m:PA X (e :: es) t)
  (b:attributeBase o name X.env (eval o X.env)=eval o X.env:=by rfl)
  (d:((backTo cpos (starEach (e :: es) X.env)).all (fun x=>!x.1) && (backToKw cpos (keywordEach [] X.env)).all (fun x=>x.1.isSome)
   && decide ((e :: es).length+([]:List Keyword).length+(if ([]:List Keyword).isEmpty then 0 else 1) < 30))=true:=by rfl)
  (c:(apos.endLine == cpos.line)=true:=by rfl) (n:starEach (e :: es) X.env=(false,eval e X.env) :: starEach es X.env:=by rfl) (a:(backTo cpos (starEach es X.env)).any (·.1)=false:=by rfl) :
  PE X (.Call (.Attribute o name apos) (e :: es) [] cpos) (tBM X.K T r to t):=by
 intro pins s σ H Q I h
 refine wpAny_Call_method_late b d c rfl (thn (l pins s σ H _ I h) fun v s1 ⟨x,H1,j,g,ty,p⟩=>?_)
 obtain ⟨h1,h2⟩:=A6 j g ty
 refine ⟨T,id,k,slot,f,h1,h2,?_⟩
 have i:=m cpos pins s1 σ H1 _ j p
 rw [n] at i ⊢
 refine Calls.callWith_builtin (by show (false || (backTo cpos (starEach es X.env)).any (·.1))=false;rw [a] <;> rfl) (Calls.evalArgs_plain ?_)
 exact thn i fun us s2 ⟨y,H2,w,u,q⟩=>hm pins s2 σ H2 x y v us Q w g u q
end
end L2
namespace L2
open PySem PySem.Spec PyProof.Rows
def MtM (X:Cx) (id:String) (r:V->List V->Hp->VK->Prop):Prop :=
 ∀ (pins:List (Addr × Obj)) (s:Shared) (σ:St) (H:Hp) (x:V) (xs:List V) (v:Value) (us:List Value) (Q:VK),Inv X pins σ H s->RelV x v->Vals xs us->r x xs H Q ->
  wpAny (model X.prog X.w) X.A (call (.builtin id) (v :: us)) (EP X pins σ Q) X.xe s
theorem Vals.one:∀ {x:V} {us:List Value},Vals [x] us->∃ u,us=[u]/\RelV x u
 | _,_,.cons r .nil=>⟨_,rfl,r⟩
theorem Vals.two:∀ {x y:V} {us:List Value},Vals [x,y] us->∃ u v,us=[u,v]/\RelV x u/\RelV y v
 | _,_,_,.cons r (.cons q .nil)=>⟨_,_,rfl,r,q⟩
theorem Vals.rep (h:Vals xs us):∀ k:Nat,Vals (List.replicate k xs).flatten (List.replicate k us).flatten
 | 0=>.nil
 | k+1=>by
  rw [List.replicate_succ,List.replicate_succ,List.flatten_cons,List.flatten_cons]
  exact Vals.append h (Vals.rep h k)
section
variable {X:Cx} {pins:List (Addr × Obj)} {σ:St} {H:Hp} {s:Shared} {l b:Addr} {xs ys zs:List V}
theorem Inv.lset {its its':List Value} {n:Nat} {t':Nat} (I:Inv X pins σ H s) (b:H l=some (.lst xs)) (e:s.heap.get? l=some { cls:=.type "list",data:=.seq its.toArray n }) (hf:f its.toArray=its'.toArray) (c:Vals ys its') (hz:ys.length<=sizeLine) :
  Inv X pins σ (upd H l (.lst ys)) { s with heap:=s.heap.update l (Obj.mapSeq f),toks:=t' }:=by
 have q:=PySem.IsL.update e f
 rw [hf] at q
 refine I.write (x:=l) (e:=l) (by rw [b];exact trivial) (.inl rfl) (fun d u a hu=>(Ea s.heap (Obj.mapSeq f) (Ne.symm a)).trans hu) ⟨_,q⟩ ?_
 exact ⟨hz,its',_,c,q⟩
theorem Inv.lnew {t':Nat} (I:Inv X pins σ H s) (a:Vals ys its) (hz:ys.length<=sizeLine) :
  Inv X pins σ (upd H s.heap.objs.size (.lst ys)) { s with heap:=s.heap.push { cls:=.type "list",data:=.seq its.toArray },toks:=t' } :=
 I.laid (fun _ _ q=>Ds _ q) (DH _) ⟨hz,its,0,a,DA _ rfl⟩
theorem Inv.fresh (I:Inv X pins σ H s):H s.heap.objs.size=none:=I.hok.fresh (DH _)
theorem Inv.lstM (I:Inv X pins σ H s) (a:H l=some (.lst xs)):xs.length<=sizeLine/\∃ (its:List Value) (n:Nat),Vals xs its/\xs.length=its.length/\s.heap.get? l=some { cls:=.type "list",data:=.seq its.toArray n }:=by
 obtain ⟨z,its,n,r,e⟩:=I.hok l _ a
 exact ⟨z,its,n,r,r.length,e⟩
theorem wy {n:Nat} (h:n<=sizeLine):Builtin.List.listTooLong n=false:=by
 unfold Builtin.List.listTooLong
 exact DN (by omega)
end
section
variable {X:Cx}
def rR:V->List V->Hp->VK->Prop:=fun x a H Q=>∃ l xs y,x=.ref l/\a=[y]/\H l=some (.lst xs)/\xs.length < sizeLine/\Q .non (upd H l (.lst (xs ++ [y])))
theorem tV:MtM X "list.append" rR:=by
 intro pins s σ H x g v us Q I d c h
 obtain ⟨l,xs,y,rfl,rfl,a,hz,q⟩:=h
 cases d
 obtain ⟨u,rfl,b⟩:=c.one
 obtain ⟨z,its,n,r,f,e⟩:=I.lstM a
 refine call_meets F.slot_list_append ⟨_,e,rfl⟩ F.entry_list_append (F.args_list_append_2 _ _) (PySem.list_append l its.toArray n u (by rw [DK];omega)) ⟨e,?_⟩
 refine ⟨.non,_,I.lset (its':=its ++ [u]) a e (by simp) (r.append (.cons b .nil)) ?_,rfl,q⟩
 rw [DR,List.length_singleton]
 lia
def rO:V->List V->Hp->VK->Prop:=fun x a H Q=>∃ l b xs zs,x=.ref l/\a=[.ref b]/\H l=some (.lst xs)/\H b=some (.lst zs)/\xs.length+zs.length<=sizeLine/\Q .non (upd H l (.lst (xs ++ zs)))
theorem tU:MtM X "list.extend" rO:=by
 intro pins s σ H x y v us Q I k j h
 obtain ⟨l,b,xs,zs,rfl,rfl,d,m,hz,q⟩:=h
 cases k
 obtain ⟨u,rfl,i⟩:=j.one
 cases i
 obtain ⟨z,its,n,r,w,e⟩:=I.lstM d
 obtain ⟨t,a,p,o,f,g⟩:=I.lstM m
 have hsz:its.toArray.size+a.toArray.size<=sizeLine:=by rw [DK,DK];omega
 have c:¬ (!its.toArray.isEmpty && Builtin.List.listTooLong (its.toArray.size+a.toArray.size))=true:=by
  rw [wy hsz,Bool.and_false]
  exact DI
 refine call_meets F.slot_list_extend ⟨_,e,rfl⟩ F.entry_list_extend (F.args_list_extend_2 _ _)
  (AutoSeq1.list_extend_list_list_0 l its.toArray n b a.toArray p c (by rw [DK];omega) (by omega)) ⟨e,g,?_⟩
 refine ⟨.non,_,I.lset (its':=its ++ a) d e (by simp) (r.append o) ?_,rfl,q⟩
 rw [DR]
 lia
def zh:R2:=fun x y H Q=>∃ l b xs zs,x=.ref l/\y=.ref b/\H l=some (.lst xs)/\H b=some (.lst zs)/\xs.length+zs.length<=sizeLine/\∀ p,H p=none->Q (.ref p) (upd H p (.lst (xs ++ zs)))
theorem Cq:OpR X (binaryOp .Add) zh:=by
 intro pins s σ H x y v u Q I g k h
 obtain ⟨l,b,xs,zs,rfl,rfl,m,i,hz,q⟩:=h
 cases g
 cases k
 obtain ⟨z,its,n,r,p,e⟩:=I.lstM m
 obtain ⟨o,a,t,j,c,d⟩:=I.lstM i
 refine PySem.P.add_list e d ?_ (by rw [DK,DK];omega)
 have f:its.toArray ++ a.toArray=(its ++ a).toArray:=by simp
 rw [f]
 exact ⟨.ref _,_,I.lnew (t':=s.toks) (r.append j) (by rw [DR];omega),rfl,q _ I.fresh⟩
end
end L2
namespace Att
open PySem PySem.W PySem.Calls PyProof.Rows
theorem jL:∀ (ns:List Int) (c:List Value),WellAll P h c (ns.map WData.int)->IntsAre c ns:=by
 intro ns
 induction ns with
 | nil =>
  intro c w
  rw [List.map_nil] at w
  cases w
  exact .nil
 | cons n ns ih =>
  intro c w
  rw [DL] at w
  cases w with
  | cons a b =>
   cases a
   exact .cons _ _ (ih _ b)
theorem tj {l:OpenLaw} {n:Nat} (k:l.most=some n) (b:l.row.toRowW.claim.pre args=true) (g:WellAll P h vals args) :
  ∃ a j ns,vals=[Value.ref a]/\args=[WData.list (ns.map WData.int)]/\h.get? a=some { cls:=.type "list",data:=.seq j.toArray }/\IntsAre j ns/\ns.length<=n:=by
 have f:WShape.hasAll [] args [.list .int]=true:=(pre_splitW b).1
 have i:l.pre.holds [] { args:=args }=true:=(pre_splitW b).2
 obtain ⟨d,r,rfl,h1,h2⟩:=hasAllW_cons f
 obtain rfl:=hasAllW_nil h2
 obtain ⟨xs,rfl,h3⟩:=hasW_list h1
 obtain ⟨ns,rfl⟩:=items_int h3
 have hlen:ns.length<=n:=by
  unfold OpenLaw.pre at i
  have e:(WTm.not (.lt (.lit (.int (n:Int))) (.len (.arg 0)))).holds [] { args:=[.list (ns.map .int)] }=true:=by
   have e:=(holds_andW i).1
   rw [k] at e
   exact e
  have c:=condW_of e (w_not (w_lt w_lit (w_len_list (w_arg rfl))))
  rw [DB] at c
  refine Nat.le_of_not_lt fun q=>?_
  have m:(n:Int) < ((ns.length:Nat):Int):=by omega
  first
   | (rw [DM m] at c;exact absurd c (by decide))
   | (simp at c;omega)
 cases g with
 | cons w1 w2 =>
  cases w2
  cases w1 with
  | list ho hall=>exact ⟨_,_,ns,rfl,rfl,ho,jL ns _ hall,hlen⟩
theorem tH (l:OpenLaw) (args:List WData):l.row.toRowW.claim.post args (.bool true) args=true :=
 postW_of (r:=l.row.toRowW) (X:=(true == true))
  (show WShape.has [] (.bool true) .bool=true by first | rfl | decide | simp [WShape.has,WShape.arms,WShape.armsAll])
  (show (WTm.eq .res (.lit (.bool true))).value [] { args:=args,res:=some (.bool true),after:=args }=some (.bool (true == true)) from w_eq_bool (w_res rfl) w_lit) rfl
theorem attach_call {l:OpenLaw} {n:Nat} (B:l.most=some n) (i:d.params.defaults=[]) (call:∀ (w:World) (s₀ b:Shared) (mg mb:Str->Option Value) (g:Addr) (o:Obj) (pm cd doc:Value) (a:Addr) (c:List Value) (ns:List Int),
   Ground q loose [] XP w s₀ mg mb b.heap->YP w b.heap ->
   b.heap.get? g=some o->o.data=.func (docDef d.name d.params d.body d.scope pm cd doc)->b.heap.CodeRec cd d.name->mg d.name=some (.ref g) ->
   b.heap.get? a=some { cls:=.type "list",data:=.seq c.toArray }->IntsAre c ns->ns.length<=n->b.gens = #[] ->
   codeAny (model l.prog w) callerA (.call (.ref g) ⟨[.ref a],[]⟩) (fun r s'=>r=.ok (.ret (.bool true))/\OldK b.heap s'.heap/\s'.os=b.os/\AllBare s'.gens) b) :
  WalkO q loose XP YP l.row.toRowW d [] (fun f c=>PySem.call f c):=by
 intro w s₀ b mg mb G Y g o pm cd doc t kV u hd m s k y args vals as h p x j A
 obtain rfl:t=.none:=Dflts.none s i
 obtain rfl:kV=.none:=Dflts.noKw s
 obtain ⟨a,c,ns,rfl,rfl,e,hints,hlen⟩:=tj B h j
 refine enter_call (codeAny_mono (call w s₀ b mg mb g o pm cd doc a c ns G Y u (fd_plain hd) m k e hints hlen y) fun r s' v=>?_)
 obtain ⟨rfl,h2,h3,z⟩:=v
 exact ⟨.inl ⟨.bool true,.bool true,[],rfl,fun _=>rfl,.bool true,tH l _,fun _=>⟨List.Pairwise.nil,fun _ hm=>(nomatch hm)⟩⟩,h2,h3,z⟩
end Att
namespace L2
open PySem PySem.Spec PyProof.Rows
theorem lw:∀ {a:List Value} {ns:List Int},IntsAre a ns->Vals (ns.map V.int) a
 | _,_,.nil=>.nil
 | _,_,.cons n t h=>.cons ⟨t,rfl⟩ (lw h)
def Ax (H:Hp):Prop:=∀ b,H b=none\/∃ o xs,H b=some (.frz o (.lst xs))
theorem wT {K:FG} {k:Nat} (R:K.In s₁.heap) (p:s₁.heap.Ns mainGlobals mg) (f:s₁.heap.Ns builtinsNs mb) (L:∀ x:Str,x ≠ "__name__"->mb x=bootBuiltins x) (l:s₁.heap.NoLimit) (U:s₁.gens = #[]) (C:s₁.heap.get? a=some { cls:=.type "list",data:=.seq vs.toArray }) (hi:IntsAre vs ns) (M:ns.length<=sizeLine) (X:Room k callerA) (F:∀ base:Heap,K.In base->base.Ns mainGlobals mg->FnOk P w K mg base CX k fa fd [x] sp) (i:∀ (s:Shared) (u:Value),BindsTo s fd ⟨[u],[]⟩ [(x,u)]) (G:∀ H:Hp,Ax H->SqL K H a (ns.map V.int)->sp [.ref a] H (fun v _=>v=.bl true) fun _ _ _=>False) (I:∀ H e s',CX [] H s₁ (fun _ _ _=>False) e s'->False) :
  codeAny (model P w) callerA (.call (.ref fa) ⟨[.ref a],[]⟩) (fun r s'=>r=.ok (.ret (.bool true))/\OldK s₁.heap s'.heap/\s'.os=s₁.os/\AllBare s'.gens) s₁:=by
 have Q:=lw hi
 have A:=hi.length
 have core:∀ H:Hp,Ax H->SqL K H a (ns.map V.int)->HOk P w H s₁.heap->(∀ b,H b ≠ none->b=a)->(H a ≠ none->K.lookup a=none) ->
   codeAny (model P w) callerA (.call (.ref fa) ⟨[.ref a],[]⟩) (fun r s'=>r=.ok (.ret (.bool true))/\OldK s₁.heap s'.heap/\s'.os=s₁.os/\AllBare s'.gens) s₁:=by
  intro H O hS hok N Y
  have c:∀ {b:Addr} {o:Obj},s₁.heap.get? b=some o->H b=none->(m5 s₁.heap H).get? b=some o:=fun e n=>xk e n
  have D:∀ {b:Addr} {o:Obj} {es:Array DictEntry} {j:Nat},s₁.heap.get? b=some o->o.data=.dict es j->H b=none:=fun {b o es j} e d=>by
   cases q:H b with
   | none=>rfl
   | some u =>
    have J:b=a:=N b (by rw [q];simp)
    subst J
    rw [C] at e;cases e
    have d':Data.seq vs.toArray _=Data.dict es j:=d
    cases d'
  have g:∀ {b:Addr} {m:Str->Option Value},s₁.heap.Ns b m->(m5 s₁.heap H).Ns b m:=fun {b m} ⟨o,es,j,e,d,r⟩=>⟨o,es,j,c e (D e d),d,r⟩
  have y:K.In (m5 s₁.heap H):=fun b o e=>c (R b o e) (by
   cases q:H b with
   | none=>rfl
   | some u =>
    have J:b=a:=N b (by rw [q];simp)
    subst J
    rw [Y (by rw [q];simp)] at e;cases e)
  have Z:Mod K mg (m5 s₁.heap H):=⟨y,g p,⟨mb,g f,L⟩,let ⟨mc,h1,h2⟩:=l;⟨mc,g h1,h2⟩⟩
  have S:Env0 P w K mg (m5 s₁.heap H) callerA [] s₁ H:=⟨rfl,Z,fun b o e=>zG e,Nat.le_of_eq (ue _ _),trivial,fun b f=>absurd (show b ∈ ([]:List Addr) from f) (by simp),hok,.of_eq U⟩
  refine codeAny_mono ((F _ y (g p)).run callerA [] s₁ H ⟨[.ref a],[]⟩ [.ref a] [.ref a] _ _ X S (i s₁ (.ref a)) (.cons rfl .nil) (G H O hS)) fun r s' h=>?_
  cases r with
  | error e=>exact (I H e s' h).elim
  | ok fl =>
   cases fl with
   | next=>exact False.elim h
   | brk=>exact False.elim h
   | cont=>exact False.elim h
   | ret u =>
    obtain ⟨v,H',os,bare,un,B,W,q⟩:=h
    have q':v=.bl true:=q
    subst q'
    obtain rfl:u=Value.bool true:=W
    refine ⟨rfl,OldK.of_keep fun b o e=>?_,os,bare⟩
    cases q:H b with
    | none=>exact un.keep b o e q (by intro z;exact absurd (show b ∈ ([]:List Addr) from z) (by simp)) (by simp)
    | some u =>
     rcases O b with z | ⟨ob,xs,z⟩
     ·rw [q] at z;cases z
     ·have T:=un.frzs b ob _ z
      obtain ⟨e1,_⟩:=hok b _ z
      obtain ⟨e2,_⟩:=B b _ T
      rw [e] at e1;cases e1
      exact e2
 cases E:K.lookup a with
 | some o =>
  have e:=R a o E
  rw [C] at e
  cases e
  refine core (fun _=>none) (fun _=>.inl rfl) (.inr ⟨_,vs.toArray,_,E,rfl,rfl,rfl,by rw [DK,A];exact M,by simpa using Q⟩) (fun b u z=>by have t:(none:Option HO)=some u:=z;cases t) (fun b z=>absurd rfl z) fun z=>absurd rfl z
 | none =>
  refine core (fun b=>if b=a then some (.frz { cls:=.type "list",data:=.seq vs.toArray } (.lst (ns.map V.int))) else none) (fun b=>?_) (.inl (.inr ⟨{ cls:=.type "list",data:=.seq vs.toArray },if_pos rfl⟩)) (fun b u z=>?_) (fun b z=>?_) fun _=>E
  ·by_cases f:b=a
   ·exact .inr ⟨_,_,if_pos f⟩
   ·exact .inl (if_neg f)
  ·by_cases f:b=a
   ·have t:=(if_pos f).symm.trans z
    cases t
    subst f
    exact ⟨C,by rw [DB];exact M,vs,_,Q,C⟩
   ·have t:=(if_neg f).symm.trans z
    cases t
  ·by_cases f:b=a
   ·exact f
   ·exact absurd (if_neg f) z
end L2
namespace L2
open PySem PySem.Spec PyProof.Rows
end L2
namespace L2
open PySem PySem.Spec PyProof.Rows
abbrev CX0:CXT:=fun _ _ _ _ _ _=>False
abbrev E0:XK:=fun _ _ _=>False
theorem pass0:re CX0 X E0:=fun _ _ _ _ _ _ _ h=>h.elim
structure Fun (K:FG) (x qual:Str) (st:Stmt) (f:Addr) (fd:FuncData):Prop where
 ex:∃ (oc:Value) (od:Option Addr) (kV doc pm:Value) (an:Option Addr) (cdv ct:Value) (osl:Array (Option Value)),
  fd=PySem.W.fnOf x qual (aP st) (aH st) (ag st) .none kV doc pm an cdv ct/\K.lookup f=some ⟨oc,od,.func fd,osl⟩/\PySem.W.codeIn K cdv qual=true
 kp:PySem.W.keepIn K (.ref f)=true
section
variable {P:Program} {w:World} {K:FG} {mg:Str->Option Value} {base:Heap}
theorem Fun.ok {st:Stmt} {k:Nat} (F:Fun K x qual st f fd) (S:FnScope N ps (ag st)) (len:∀ c H Q E,sp c H Q E->c.length=ps.length) (b:∀ (a:Value) (A:Around) (outer:List Env) (s:Shared) (H:Hp) (c:List V) (Q:VK) (E:XK),Room k (A.deeper (envOfC qual (ag st) s.heap.objs.size f a))->sp c H Q E ->
   ∃ t,PSs (pi CX0 P w K mg base N qual (ag st) f a A outer s H E).nox (aH st) t/\t { nx:=fun _ H'=>Q .non H',rt:=Q } (jo N c) H):FnOk P w K mg base CX0 (k+1) f fd ps sp:=by
 obtain ⟨l,m,kV,doc,pm,an,a,ct,i,rfl,g,e⟩:=F.ex
 refine fn_of g e S len fun A outer s H c Q E j d=>?_
 obtain ⟨t,h,q⟩:=b a A outer s H c Q E j d
 exact ⟨t,h.nox,q⟩
theorem Fun.binds {st:Stmt} (F:Fun K x qual st f fd) (h:∀ (kV doc pm:Value) (an:Option Addr) (a ct:Value) (us:List Value),us.length=ps.length->bindArgs (PySem.W.fnOf x qual (aP st) (aH st) (ag st) .none kV doc pm an a ct) ⟨us,[]⟩=pure (ps.zip us)):Binds K fd ps []:=by
 obtain ⟨e,g,kV,doc,pm,an,a,ct,b,rfl,d,c⟩:=F.ex
 exact .all (h kV doc pm an a ct)
theorem CZ {st:Stmt} {kV doc pm a ct:Value} (l:K.lookup f=some ⟨oc,od,.func (PySem.W.fnOf x qual (aP st) (aH st) (ag st) .none kV doc pm an a ct),osl⟩) (c:PySem.W.codeIn K a qual=true) (k:PySem.W.keepIn K (.ref f)=true):Fun K x qual st f (PySem.W.fnOf x qual (aP st) (aH st) (ag st) .none kV doc pm an a ct):=⟨⟨oc,od,kV,doc,pm,an,a,ct,osl,rfl,l,c⟩,k⟩
end
theorem hu_of {k:Nat} (a:Room k A):A.units+1 < cLine:=Nat.lt_of_le_of_lt (Nat.add_le_add_left (by decide:1<=64) _) a.units
def Same (H H':Hp):Prop:=∀ b o,H b=some o->H' b=some o
theorem Same.refl (H:Hp):Same H H:=fun _ _ h=>h
theorem Same.trans (a:Same H H1) (b:Same H1 H2):Same H H2:=fun c o h=>b c o (a c o h)
theorem Same.free (e:Same H H') (h:H' l=Option.none):H l=Option.none:=by
 cases q:H l with
 | none=>rfl
 | some o =>
  rw [e l o q] at h
  cases h
end L2
end
section
namespace L2
open PySem PySem.Spec PyProof.Rows
section
variable {prog:Program} {w:World} {A:Around} {E:Value->Shared->Prop} {s:Shared}
theorem nP (ty:s.TypeIs (.ref d) "dict") (h:wpAny (model prog w) A.in1 (dictSet d k v) Q E s) :
  wpAny (model prog w) A (setItem (.ref d) k v) Q E s:=by
 unfold setItem
 refine Dp (Dm (wpAny_sequenceKey ty (by decide) (Dm (wpAny_callSpecial?_slot ty slot_dict_setitem (wpAny_call_entry slot_dict_setitem ty entry_dict_setitem ?_ (args_dict_setitem _ _ _))))))
 refine Dm (wpAny_notOrdered_dict ty ?_)
 refine (?_:wpAny _ _ (dictSet d k v >>= _) _ _ s)
 exact Dm (wpAny_mono h (fun _ _ z=>Dn ⟨_,rfl,Dn z⟩) fun _ _ z=>z)
theorem lA {c:Int} {b:Nat} {F:Option Nat->Prop} (a:s.heap.get? d=some o) (g:o.ExactDict) (hd:o.data=.dict es b) (hz:es.size<=sizeLine) (find:wpAny (model prog w) A (dictFind d key c) (fun r s'=>s'=s/\F r) E s) (old:∀ i h' o',F (some i)->h'.get? d=some o'->o'.ExactDict->o'.data=.dict (es.modify i fun e=>{ e with val:=v }) b->Heap.SameBut d s.heap h'->Q () { s with heap:=h' }) (new:∀ h' o',F none->h'.get? d=some o'->o'.ExactDict->o'.data=.dict (es.push ⟨c,key,v⟩) (b+1)->Heap.SameBut d s.heap h'->Q () { s with heap:=h' }) :
  wpAny (model prog w) A (dictSetHashed d key c v) Q E s:=by
 unfold dictSetHashed
 refine Dp (Dm (wpAny_mono find ?_ fun _ _ z=>z))
 rintro (_ | i) _ ⟨rfl,f⟩
 ·exact Dm (wpAny_rule (wpAny_updateDictKeys (hz:=hz) a hd (new _ _ f (DQ _ a (Obj.isFreed_of_dict (Obj.data_mapDictKeys hd _))) (g.mapDictKeys _) (Obj.data_mapDictKeys hd _) (Heap.SameBut.update ..))))
 ·exact Dm (wpAny_rule (Dm (wpAny_updateDict a hd (wpAny_point (old i _ _ f (DQ _ a (Obj.isFreed_of_dict (Obj.data_mapDict hd _))) (g.mapDict _) (Obj.data_mapDict hd _) (Heap.SameBut.update ..))))))
end
section
variable {prog:Program} {w:World} {K:Type} [DecidableEq K] {A:Around} {E:Value->Shared->Prop} {s:Shared} {d:Addr} {k:K}
section
variable {knd:HeapKind prog w K}
def DictOfHE (knd:HeapKind prog w K) (h:Heap) (d:Addr) (xs:List (K × Addr × Value)):Prop :=
 ∃ o es a,h.get? d=some o/\o.ExactDict/\o.data=.dict es a/\es.toList=xs.map (entryOfKey knd)/\(∀ x ∈ xs,knd.is h x.1 x.2.1)/\(xs.map (·.1)).Nodup/\a=es.size
theorem DictOfHE.of (x:DictOfHE knd h d xs):h.DictOfH knd d xs:=let ⟨o,es,a,h1,h2,h3,e,b,c,_⟩:=x;⟨o,es,a,h1,h2,h3,e,b,c⟩
theorem tR {y:Addr × Value} (b:(xs.map (·.1)).Nodup) (h:k ∉ xs.map (·.1)):((xs ++ [(k,y)]).map (·.1)).Nodup:=by
 rw [List.map_append]
 exact List.nodup_append.mpr ⟨b,List.nodup_cons.mpr ⟨List.not_mem_nil,List.nodup_nil⟩,fun x a y c e=>h (by have:=DX.mp c;subst this;exact e ▸ a)⟩
theorem k9 (hu:knd.room A) (b:knd.is s.heap k a) (hm:DictOfHE knd s.heap d xs) (n:∀ h',DictOfHE knd h' d (storedH xs k a v)->Heap.SameBut d s.heap h'->Q () { s with heap:=h',toks:=s.toks+knd.draws k }) (hsz:xs.length<=sizeLine:=by size_fits):wpAny (model prog w) A (dictSet d (.ref a) v) Q E s:=by
 obtain ⟨o,es,t,l,q,hd,he,c,m,rfl⟩:=hm
 unfold dictSet
 refine Dp (Dm (knd.pyHash hu b ?_))
 refine lA (s:={ s with toks:=s.toks+knd.draws k }) (F:=fun | none=>∀ (j:Nat) (p:Addr × Value),xs[j]? ≠ some (k,p) | some j=>∃ p,xs[j]?=some (k,p)) l q hd (size_of_entries he ▸ hsz)
  (wpAny_dictFind_heap (s:={ s with toks:=s.toks+knd.draws k }) hu b l hd he c m (fun z=>⟨rfl,z⟩) fun j p z=>⟨rfl,p,z⟩) ?_ ?_
 ·rintro i h' o' ⟨p,f⟩ g1 g2 g3 h
  have at':=storedH_old (atKey_of_get m f) a v
  refine n h' ⟨o',_,_,g1,g2,g3,?_,?_,?_,?_⟩ h <;> try rw [at']
  ·rw [Array.toList_modify,he]
   exact modify_map_putAt (entryOfKey knd) _ k v (fun _ _=>rfl) m f
  ·intro x g
   obtain ⟨y,r,rfl⟩:=DF.mp g
   have:=knd.keeps (c y r) l hd h
   by_cases e:y.1=k <;> simpa [putAt,e] using this
  ·exact (keys_map_putAt xs k v).symm ▸ m
  ·exact (Array.size_modify).symm
 ·intro h' o' f g1 g2 g3 h
  have at':=storedH_new (atKey_none_of_get f) a v
  refine n h' ⟨o',_,_,g1,g2,g3,?_,?_,?_,?_⟩ h <;> try rw [at']
  ·simp [he,entryOfKey]
  ·intro x g
   rcases Dz.mp g with g | g
   ·exact knd.keeps (c x g) l hd h
   ·cases DX.mp g;exact knd.keeps b l hd h
  ·exact tR m (not_mem_keys_of_get f)
  ·simp
theorem kU (hu:knd.room A.in1) (b:knd.is s.heap k a) (hm:DictOfHE knd s.heap d xs) (c:∀ h',DictOfHE knd h' d (storedH xs k a v)->Heap.SameBut d s.heap h'->Q () { s with heap:=h',toks:=s.toks+knd.draws k }) (hsz:xs.length<=sizeLine:=by size_fits):wpAny (model prog w) A (setItem (.ref d) (.ref a) v) Q E s :=
 nP hm.of.typeIs (k9 (hsz:=hsz) hu b hm c)
end
section
variable {knd:KeyKind prog w K} {key:Value}
theorem kN (a:knd.is k key=true) (hm:DictOfE knd s.heap d kvs) (m:∀ h',DictOfE knd h' d (stored kvs k v)->Heap.SameBut d s.heap h'->Q () { s with heap:=h',toks:=s.toks+1 }) (hsz:kvs.length<=sizeLine:=by size_fits):wpAny (model prog w) A (dictSet d key v) Q E s:=by
 obtain ⟨o,⟨es⟩,t,l,n,hd,c,b,j,rfl⟩:=hm
 have same:=b.findIdx k
 have hz:(⟨es⟩:Array DictEntry).size<=sizeLine:=by have:=b.length;simp at this ⊢;omega
 unfold dictSet
 refine Dp (Dm (knd.pyHash a ?_))
 refine lA (s:={ s with toks:=s.toks+1 }) (F:=fun r=>es.findIdx? (fun e=>knd.is k e.key)=r) l n hd hz
  (wpAny_dictFind_of (s:={ s with toks:=s.toks+1 }) a l hd c ⟨rfl,by simp⟩) ?_ ?_
 ·intro i h' o' f g1 g2 g3 g
  have at':stored kvs k v=_:=if_pos (any_of_findIdx_some (same.symm.trans f))
  refine m h' ⟨o',_,_,g1,g2,g3,c.modify _ _,?_,?_,(Array.size_modify).symm⟩ g <;> rw [at']
  ·simpa using b.modify j f v
  ·exact (keys_map_store kvs k v).symm ▸ j
 ·intro h' o' f g1 g2 g3 g
  have no:=not_mem_of_findIdx_none (same.symm.trans f)
  have at':stored kvs k v=_:=if_neg fun z=>by
   obtain ⟨x,h,e⟩:=List.any_eq_true.mp z
   exact no (DF.mpr ⟨x,h,of_decide_eq_true e⟩)
  refine m h' ⟨o',_,_,g1,g2,g3,c.push a _,?_,?_,by simp⟩ g <;> rw [at']
  ·simpa using b.append a (knd.hash k) v
  ·rw [List.map_append]
   exact List.nodup_append.mpr ⟨j,List.nodup_cons.mpr ⟨List.not_mem_nil,List.nodup_nil⟩,fun x h y p e=>no (by cases DX.mp p;have q:x=k:=e;exact q ▸ h)⟩
theorem j6 (a:knd.is k key=true) (hm:DictOfE knd s.heap d kvs) (b:∀ h',DictOfE knd h' d (stored kvs k v)->Heap.SameBut d s.heap h'->Q () { s with heap:=h',toks:=s.toks+1 }) (hsz:kvs.length<=sizeLine:=by size_fits):wpAny (model prog w) A (setItem (.ref d) key v) Q E s :=
 nP hm.of.typeIs (kN (hsz:=hsz) a hm b)
end
end
section
variable {κ:Type} [DecidableEq κ]
def gu (kvs:List (κ × V)) (k:κ):Option V:=(kvs.find? fun a=>decide (a.1=k)).map (·.2)
def eC (kvs:List (κ × V)) (k:κ) (v:V):List (κ × V) :=
 if (kvs.any fun a=>decide (a.1=k))=true then kvs.map (fun a=>if a.1=k then (a.1,v) else a) else kvs ++ [(k,v)]
theorem fj {p:κ × V} {k:κ} (e:p.1=k):gu (p :: r) k=some p.2:=by simp [gu,List.find?_cons,e]
theorem fk {p:κ × V} {k:κ} (e:¬ p.1=k):gu (p :: r) k=gu r k:=by simp [gu,List.find?_cons,e]
theorem nH (k:κ):∀ kvs:List (κ × V),(kvs.any fun a=>decide (a.1=k))=(gu kvs k).isSome
 | []=>rfl
 | p :: r=>by
  rw [List.any_cons]
  by_cases e:p.1=k
  ·simp only [fj e,DM e,Bool.true_or,Option.isSome_some]
  ·rw [fk e,DN e,Bool.false_or];exact nH k r
theorem jB (kvs:List (κ × V)) (k:κ) (v:V):(eC kvs k v).length<=kvs.length+1:=by
 unfold eC
 split
 ·rw [DB];omega
 ·rw [DR,DS,List.length_nil];omega
theorem RelO.isSome_eq (r:RelO o u):o.isSome=u.isSome:=by
 cases o with
 | none=>cases u with
  | none=>rfl
  | some _=>exact (show False from r).elim
 | some _=>cases u with
  | none=>exact (show False from r).elim
  | some _=>rfl
theorem RelO.getD (r:RelO o u) (a:RelV d d'):RelV (o.getD d) (u.getD d'):=by
 cases o with
 | none=>cases u with
  | none=>exact a
  | some _=>exact (show False from r).elim
 | some _=>cases u with
  | none=>exact (show False from r).elim
  | some _=>exact r
theorem KV.val (r:KV kvs vs) (k:κ):RelO (gu kvs k) (valueAt vs k):=by
 unfold KV at r
 induction r with
 | nil=>exact True.intro
 | @cons p q ps qs h t ih =>
  obtain ⟨h1,h2⟩:=h
  by_cases e:p.1=k
  ·have a:q.1=k:=h1.symm.trans e
   have b:valueAt (q :: qs) k=some q.2:=by simp [valueAt,List.find?_cons,a]
   rw [fj e,b];exact h2
  ·have a:¬ q.1=k:=fun z=>e (h1.trans z)
   have b:valueAt (q :: qs) k=valueAt qs k:=by simp [valueAt,List.find?_cons,a]
   rw [fk e,b];exact ih
theorem KV.any (r:KV kvs vs) (k:κ):(kvs.any fun a=>decide (a.1=k))=vs.any fun a=>decide (a.1=k):=by
 unfold KV at r
 induction r with
 | nil=>rfl
 | cons h t ih=>rw [List.any_cons,List.any_cons,ih,h.1]
theorem KV.repl (r:KV kvs vs) (k:κ) (b:RelV y u) :
  KV (kvs.map fun a=>if a.1=k then (a.1,y) else a) (vs.map fun a=>if a.1=k then (a.1,u) else a):=by
 unfold KV at r ⊢
 induction r with
 | nil=>exact .nil
 | @cons p q ps qs h t ih =>
  rw [DL,DL]
  refine .cons ?_ ih
  obtain ⟨h1,h2⟩:=h
  by_cases e:p.1=k
  ·rw [if_pos e,if_pos (h1.symm.trans e)];exact ⟨h1,b⟩
  ·rw [if_neg e,if_neg (fun z=>e (h1.trans z))];exact ⟨h1,h2⟩
theorem KV.put (r:KV kvs vs) (k:κ) (a:RelV y u):KV (eC kvs k y) (stored vs k u):=by
 unfold eC stored
 rw [r.any k]
 by_cases e:(vs.any fun b=>decide (b.1=k))=true
 ·rw [if_pos e,if_pos e];exact r.repl k a
 ·rw [if_neg e,if_neg e];exact Paired.snoc r ⟨rfl,a⟩
theorem KV.length {kvs:List (κ × V)} (r:KV kvs vs):kvs.length=vs.length:=Paired.length r
end
theorem sg (r:RelV (kV k) u):(aY P w).is k u=true:=by
 cases k with
 | inl i=>obtain ⟨t,e⟩:=(show ∃ t,u=Value.int i t from r);subst e;exact oG P w i t
 | inr x=>obtain ⟨t,e⟩:=(show ∃ t,u=Value.str x t from r);subst e;exact oF P w x t
theorem lW:∀ {ks:List Key} {us:List Value},Vals (ks.map kV) us->ItemsAre (aY P w) ks us
 | [],_,r=>by rw [List.map_nil] at r;cases r;exact .nil
 | k :: ks,_,r=>by
  rw [DL] at r
  cases r with
  | cons h t=>exact .cons (sg h) (lW t)
abbrev KT (H:Hp):List (List Key × V)->List (List Key × Addr × Value)->Prop:=Paired fun p q=>p.1=q.1/\H q.2.1=some (.tup (p.1.map kV))/\RelV p.2 q.2.2
theorem KT.val (r:KT H kvs xs) (k:List Key):RelO (gu kvs k) ((atKey xs k).map (·.2)):=by
 induction r with
 | nil=>exact True.intro
 | @cons p q ps qs h t ih =>
  obtain ⟨h1,_,h2⟩:=h
  by_cases e:p.1=k
  ·have a:q.1=k:=h1.symm.trans e
   have b:atKey (q :: qs) k=some q.2:=by simp [atKey,List.find?_cons,a]
   rw [fj e,b];exact h2
  ·have a:¬ q.1=k:=fun z=>e (h1.trans z)
   have b:atKey (q :: qs) k=atKey qs k:=by simp [atKey,List.find?_cons,a]
   rw [fk e,b];exact ih
theorem KT.repl (r:KT H kvs xs) (k:List Key) (b:RelV y u) :
  KT H (kvs.map fun a=>if a.1=k then (a.1,y) else a) (xs.map (putAt k u)):=by
 induction r with
 | nil=>exact .nil
 | @cons p q ps qs h t ih =>
  rw [DL,DL]
  refine .cons ?_ ih
  obtain ⟨h1,h2,h3⟩:=h
  unfold putAt
  by_cases e:p.1=k
  ·rw [if_pos e,if_pos (h1.symm.trans e)];exact ⟨h1,h2,b⟩
  ·rw [if_neg e,if_neg (fun z=>e (h1.trans z))];exact ⟨h1,h2,h3⟩
theorem KT.put (r:KT H kvs xs) (k:List Key) (c:H b=some (.tup (k.map kV))) (a:RelV y u) :
  KT H (eC kvs k y) (storedH xs k b u):=by
 have e:(kvs.any fun d=>decide (d.1=k))=(atKey xs k).isSome:=by
  rw [nH,(r.val k).isSome_eq,Option.isSome_map]
 unfold eC storedH
 rw [e]
 by_cases q:(atKey xs k).isSome=true
 ·rw [if_pos q,if_pos q];exact r.repl k a
 ·rw [if_neg q,if_neg q];exact Paired.snoc r ⟨rfl,c,a⟩
theorem KT.keeps (r:KT H kvs xs) (a:∀ b ys,H b=some (.tup ys)->H' b=some (.tup ys)):KT H' kvs xs :=
 Paired.mapP r fun _ _ z=>⟨z.1,a _ _ z.2.1,z.2.2⟩
section
variable {P:Program} {w:World} {H:Hp} {h:Heap} {a:Addr}
theorem AI (ok:HOk P w H h) (e:Rd H a u):ObjOk P w H h a u:=e.ok ok
theorem xD (ok:HOk P w H h) (e:Rd H a (.dK kvs)):kvs.length<=sizeLine/\(a == sysModules)=false/\∃ b,KV kvs b/\DictOfE (aY P w) h a b :=
 show ObjOk P w H h a (.dK kvs) from AI ok e
theorem xE (ok:HOk P w H h) (e:Rd H a (.dK kvs)):kvs.length<=sizeLine/\(a == sysModules)=false/\∃ b,KV kvs b/\h.DictOf (aY P w) a b:=let ⟨z,y,b,r,d⟩:=xD ok e;⟨z,y,b,r,d.of⟩
theorem mW (ok:HOk P w H h) (e:H a=some (.tup (ks.map kV))):(tupleKind (aY P w)).is h ks a:=by
 obtain ⟨_,its,r,o,h1,h2,n,h3⟩:=(show ObjOk P w H h a (.tup (ks.map kV)) from ok a _ e)
 exact ⟨o,its.toArray,n,h1,h2,congrArg Prod.fst h3,by simpa using lW r⟩
theorem qJ (ok:HOk P w H h) (e:Rd H a (.dT kvs)):kvs.length<=sizeLine/\(a == sysModules)=false /\
  ∃ xs,KT H kvs xs/\DictOfHE (tupleKind (aY P w)) h a xs:=by
 obtain ⟨z,y,xs,r,o,es,c,h1,h2,h3,f,d⟩:=(show ObjOk P w H h a (.dT kvs) from AI ok e)
 refine ⟨z,y,xs,r,o,es,c,h1,h2,h3,f,fun x b=>?_,d⟩
 have all:∀ {l:List (List Key × V)} {m:List (List Key × Addr × Value)},KT H l m->∀ x ∈ m,(tupleKind (aY P w)).is h x.1 x.2.1:=by
  intro l m q
  induction q with
  | nil=>intro x b;exact nomatch b
  | @cons p q ps qs hq t ih =>
   intro x b
   rcases Dw.mp b with e | b
   ·subst e
    exact mW ok (by rw [<- hq.1];exact hq.2.1)
   ·exact ih x b
 exact all r x b
theorem pg (ok:HOk P w H h) (e:Rd H a (.dT kvs)):kvs.length<=sizeLine/\(a == sysModules)=false /\
  ∃ xs,KT H kvs xs/\h.DictOfH (tupleKind (aY P w)) a xs:=let ⟨z,y,xs,r,d⟩:=qJ ok e;⟨z,y,xs,r,d.of⟩
end
def DGet (H:Hp) (a:Addr) (y:V) (r:Option V):Prop :=
 (∃ kvs k,Rd H a (.dK kvs)/\y=kV k/\r=gu kvs k)\/∃ kvs k b,Rd H a (.dT kvs)/\y=.ref b/\H b=some (.tup (k.map kV))/\r=gu kvs k
def DPut (H:Hp) (a:Addr) (y v:V) (H':Hp):Prop :=
 (∃ kvs k,H a=some (.dK kvs)/\y=kV k/\kvs.length < sizeLine/\H'=upd H a (.dK (eC kvs k v))) \/
 ∃ kvs k b,H a=some (.dT kvs)/\y=.ref b/\H b=some (.tup (k.map kV))/\kvs.length < sizeLine/\H'=upd H a (.dT (eC kvs k v))
theorem DGet.t (e:H a=some (.dT kvs)) (c:H b=some (.tup (k.map kV))):DGet H a (.ref b) (gu kvs k):=.inr ⟨kvs,k,b,.inl e,rfl,c,rfl⟩
theorem DPut.t (e:H a=some (.dT kvs)) (c:H b=some (.tup (k.map kV))) (d:kvs.length < sizeLine) :
  DPut H a (.ref b) v (upd H a (.dT (eC kvs k v))):=.inr ⟨kvs,k,b,e,rfl,c,d,rfl⟩
section
variable {X:Cx} {pins:List (Addr × Obj)} {σ:St} {H:Hp} {s:Shared} {a:Addr} {y v:V} {u r:Value} {o:Option V} {A:Around} {E:Value->Shared->Prop}
theorem Inv.big (I:Inv X pins σ H s):sysModules < s.heap.objs.size:=by
 have h:mainGlobals < s.heap.objs.size:=(I.mod.glob.keeps I.bk).lt
 exact Nat.lt_trans (by decide) h
theorem uo (hu:A.units+1 < cLine) (I:Inv X pins σ H s) (g:DGet H a y (some v)) (m:RelV y u) (h:∀ d s',Inv X pins σ H s'->RelV v d->Q d s') :
  wpAny (model X.prog X.w) A (getItem (.ref a) u) Q E s:=by
 rcases g with ⟨kvs,k,e,f,l⟩ | ⟨kvs,k,b,e,f,q,l⟩
 ·subst f
  obtain ⟨z,hd,r,rel,i⟩:=xE I.hok e
  obtain ⟨d,hw,c⟩:=RelO.some_of (v:=v) (o:=valueAt r k) (by rw [l];exact rel.val k)
  exact wpAny_getItem_of (sg m) i.mapOf hw (h d _ (I.tok _) c)
 ·subst f
  cases (show u=Value.ref b from m)
  obtain ⟨z,hd,xs,rel,i⟩:=pg I.hok e
  obtain ⟨d,hw,c⟩:=RelO.some_of (v:=v) (o:=(atKey xs k).map (·.2)) (by rw [l];exact rel.val k)
  obtain ⟨p,n,j⟩:=Dt.mp hw
  refine wpAny_getItem_heap (tupleKind_room_in1 hu) (mW I.hok q) i n ?_
  rw [j]
  exact h d _ (I.tok _) c
theorem sF {t':Nat} (I:Inv X pins σ H s) (d:Mut (H a)) (f:Heap.SameBut a s.heap h') (he:∃ q,h'.get? a=some q) (new:ObjOk X.prog X.w (upd H a ob) h' a ob) :
  Inv X pins σ (upd H a ob) { s with heap:=h',toks:=t' } :=
 I.write (x:=a) (e:=a) d (.inl rfl) (fun b q c z=>(f.2 b c).trans z) he new
theorem C3 (z:kvs.length<=sizeLine) (hd:(a == sysModules)=false) (rel:KV kvs vs) (b:DictOfE (aY P w) h' a vs) :
  ObjOk P w H' h' a (.dK kvs):=⟨z,hd,vs,rel,b⟩
theorem um (hu:A.units+1 < cLine) (I:Inv X pins σ H s) (g:DPut H a y v H') (t:RelV y u) (p:RelV v r) (h:∀ s',Inv X pins σ H' s'->Q () s') :
  wpAny (model X.prog X.w) A (setItem (.ref a) u r) Q E s:=by
 rcases g with ⟨kvs,k,e,n,l,m⟩ | ⟨kvs,k,b,e,n,x,l,m⟩
 ·subst n m
  obtain ⟨z,hd,G,rel,o⟩:=xD I.hok (.inl e)
  have hz:G.length<=sizeLine:=by rw [<- rel.length];exact z
  have j:(eC kvs k v).length<=sizeLine:=by have:=jB kvs k v;omega
  refine j6 (hsz:=hz) (sg t) o fun h' d i=>h _ ?_
  have he:∃ q,h'.get? a=some q:=let ⟨q,_,_,f,_⟩:=d;⟨q,f⟩
  exact sF I (by rw [e];exact True.intro) i he (C3 j hd (rel.put k p) d)
 ·subst n m
  cases (show u=Value.ref b from t)
  obtain ⟨z,hd,xs,rel,o⟩:=qJ I.hok (.inl e)
  have hz:xs.length<=sizeLine:=by rw [<- Paired.length rel];exact z
  have j:(eC kvs k v).length<=sizeLine:=by have:=jB kvs k v;omega
  refine kU (hsz:=hz) (tupleKind_room_in1 hu) (mW I.hok x) o fun h' d i=>h _ ?_
  obtain ⟨q,es,C,f,h2,h3,D,_,F⟩:=d
  refine sF I (by rw [e];exact True.intro) i ⟨q,f⟩ ⟨j,hd,_,(rel.put k x p).keeps fun c ys B=>?_,q,es,C,f,h2,h3,D,F⟩
  rw [av (ne_of B e (fun z=>nomatch z))]
  exact B
end
theorem ph (I:Inv X pins σ H s) (g:DGet H a y o):s.TypeIs (.ref a) "dict":=by
 rcases g with ⟨kvs,k,e,_,_⟩ | ⟨kvs,k,b,e,_,_,_⟩
 ·obtain ⟨_,_,d,_,c⟩:=xE I.hok e
  exact c.typeIs
 ·obtain ⟨_,_,xs,_,c⟩:=pg I.hok e
  exact c.typeIs
theorem xB (h:Heap) (a:sysModules < h.objs.size):ObjOk P w H (h.push { cls:=.type "dict",data:=.dict #[] }) h.objs.size (.dT []) :=
 ⟨Nat.zero_le _,beq_eq_false_iff_ne.mpr (Ne.symm (DJ a)),[],.nil,_,#[],0,DA _ rfl,⟨rfl,rfl,rfl⟩,rfl,rfl,List.nodup_nil,rfl⟩
def Bs:TE:=fun _ H Q=>∀ p,H p=none->Q (.ref p) (upd H p (.dT []))
section
variable {X:Cx} {pos:Pos}
theorem wl:PE X (.Dict [] [] pos) Bs:=fun pins s σ H Q I h =>
 wpAny_Dict_empty ⟨.ref s.heap.objs.size,_,I.laid (a:=s.heap.objs.size) (o:=.dT []) (t':=s.toks) (fun _ _ q=>Ds _ q) (DH _) (xB s.heap I.big),rfl,h _ (I.hok.fresh (DH _))⟩
end
section
variable {X:Cx} {pins:List (Addr × Obj)} {σ:St} {H:Hp} {s:Shared} {a:Addr} {y d:V} {u r:Value} {o:Option V} {A:Around} {E:Value->Shared->Prop}
theorem C5 (hu:A.units+1 < cLine) (I:Inv X pins σ H s) (g:DGet H a y o) (m:RelV y u) (i:RelV d r) (h:∀ j s',Inv X pins σ H s'->RelV (o.getD d) j->Q j s') :
  wpAny (model X.prog X.w) A (call (.builtin "dict.get") [.ref a,u,r]) Q E s:=by
 rcases g with ⟨kvs,k,e,f,l⟩ | ⟨kvs,k,b,e,f,n,l⟩
 ·subst f
  obtain ⟨z,hd,p,rel,c⟩:=xE I.hok e
  refine call_meetsIn PySem.F.slot_dict_get c.typeIs PySem.F.entry_dict_get (PySem.F.args_dict_get_3 _ _ _) (meets_dict_get_default (aY X.prog X.w) a (sg m) hd r) ⟨_,c.mapOf,h _ _ (I.tok _) ?_⟩
  rw [l]
  exact (rel.val k).getD i
 ·subst f
  cases (show u=Value.ref b from m)
  obtain ⟨z,hd,xs,rel,c⟩:=pg I.hok e
  refine call_meetsIn PySem.F.slot_dict_get c.typeIs PySem.F.entry_dict_get (PySem.F.args_dict_get_3 _ _ _) (meetsH_dict_get_default (tupleKind (aY X.prog X.w)) a b hd r) ⟨tupleKind_room_in1 hu,k,xs,mW I.hok n,c,h _ _ (I.tok _) ?_⟩
  rw [l]
  exact (rel.val k).getD i
end
end L2
namespace L2
open PySem PySem.Spec PyProof.Rows
end L2
end
section
namespace L2
open PySem PySem.Spec PyProof.Rows
def jO (cells:List (Str × Addr)) (cs:List (Str × Addr)) (x:Str × NameKind):List (Str × Addr) :=
 if x.2 == .free then (match cells.lookup x.1 with | some c=>(x.1,c) :: cs | none=>cs) else cs
def clo (cells:List (Str × Addr)) (names:List (Str × NameKind)):List (Str × Addr):=names.foldl (jO cells) []
theorem kG {α β:Type} {f:α->β->Sem (ForInStep β)} {g:β->α->β}:∀ {l:List α} {c:β},(∀ x ∈ l,∀ c,f x c=pure (.yield (g c x)))->forIn l c f=pure (l.foldl g c)
 | [],c,_=>rfl
 | x :: l,c,h=>by
  rw [List.forIn_cons,h x Dq,pure_bind]
  exact kG fun y a=>h y (Dr _ a)
theorem fP (h:∀ x ∈ scope.names,x.2=.free->∃ c,env.cells.lookup x.1=some c):closureFor scope env=pure (clo env.cells scope.names):=by
 simp only [closureFor]
 rw [kG (g:=jO env.cells) (fun x f c=>by
  obtain ⟨n,kind⟩:=x
  unfold jO
  by_cases b:kind=.free
  ·subst b
   obtain ⟨a,e⟩:=h _ f rfl
   have i:env.cells.lookup n=some a:=e
   simp [cellOf,i]
  ·have d:(kind == NameKind.free)=false:=by simpa using b
   simp [d])]
 rfl
theorem lY:∀ {l:List (Str × NameKind)} {cs:List (Str × Addr)},(∀ y d,cs.lookup y=some d->cells.lookup y=some d)->(l.foldl (jO cells) cs).lookup x=some c->cells.lookup x=some c
 | [],cs,h,e=>h x c e
 | y :: l,cs,h,e=>by
  refine lY (l:=l) (cs:=jO cells cs y) (fun z d q=>?_) e
  unfold jO at q
  split at q
  ·cases b:cells.lookup y.1 with
   | none=>rw [b] at q;exact h z d q
   | some a =>
    rw [b] at q
    simp only [List.lookup_cons] at q
    cases hz:z == y.1 with
    | true=>rw [hz] at q;have:=eq_of_beq hz;subst this;rw [b];exact q
    | false=>rw [hz] at q;exact h z d q
  ·exact h z d q
theorem m9 (e:(clo cells l).lookup x=some c):cells.lookup x=some c:=lY (fun _ _ q=>by simp at q) e
theorem kH (b:cells.lookup x=some c):∀ {l:List (Str × NameKind)} {cs:List (Str × Addr)},cs.lookup x=some c->(l.foldl (jO cells) cs).lookup x=some c
 | [],_,e=>e
 | y :: l,cs,e=>by
  refine kH b (l:=l) (cs:=jO cells cs y) ?_
  unfold jO
  split
  ·cases d:cells.lookup y.1 with
   | none=>exact e
   | some a =>
    simp only [List.lookup_cons]
    cases hz:x == y.1 with
    | true=>have:=eq_of_beq hz;subst this;rw [b] at d;exact d.symm
    | false=>exact e
  ·exact e
theorem l4 (a:cells.lookup x=some c):∀ {l:List (Str × NameKind)} {cs:List (Str × Addr)},(x,NameKind.free) ∈ l->(l.foldl (jO cells) cs).lookup x=some c
 | [],_,m=>by simp at m
 | y :: l,cs,m=>by
  rcases Dw.mp m with rfl | m
  ·refine kH a (l:=l) ?_
   simp [jO,a]
  ·exact l4 a (l:=l) (cs:=jO cells cs y) m
theorem sG (a:cells.lookup x=some c) (m:(x,NameKind.free) ∈ l):(clo cells l).lookup x=some c:=l4 a m
theorem iA {env:Env}:∀ {names:List (Str × NameKind)} {x:Str},names.lookup x=some .free ->
  (names.map fun (n,k)=>if (k == NameKind.free && env.scope.kind == .function && env.kindOf n == some .cell) then (n,NameKind.cell) else (n,k)).lookup x=some .cell \/
  (names.map fun (n,k)=>if (k == NameKind.free && env.scope.kind == .function && env.kindOf n == some .cell) then (n,NameKind.cell) else (n,k)).lookup x=some .free
 | [],_,h=>by simp at h
 | (n,k) :: r,x,h=>by
  have b:=@iA env r x
  show List.lookup x ((if (k == NameKind.free && env.scope.kind == .function && env.kindOf n == some .cell)=true then (n,NameKind.cell) else (n,k)) :: _)=_ \/
   List.lookup x ((if (k == NameKind.free && env.scope.kind == .function && env.kindOf n == some .cell)=true then (n,NameKind.cell) else (n,k)) :: _)=_
  cases a:x == n with
  | true =>
   simp only [List.lookup_cons,a] at h
   cases h
   split
   ·left;simp [List.lookup_cons,a]
   ·right;simp [List.lookup_cons,a]
  | false =>
   simp only [List.lookup_cons,a] at h
   split
   ·simp only [List.lookup_cons,a];exact b h
   ·simp only [List.lookup_cons,a];exact b h
theorem kb {env:Env}:∀ {names:List (Str × NameKind)} {x:Str},(∀ y ∈ names,y.2 ≠ .cell) ->
  ((names.map fun (n,k)=>if (k == NameKind.free && env.scope.kind == .function && env.kindOf n == some .cell) then (n,NameKind.cell) else (n,k)).lookup x=some .cell \/
  (names.map fun (n,k)=>if (k == NameKind.free && env.scope.kind == .function && env.kindOf n == some .cell) then (n,NameKind.cell) else (n,k)).lookup x=some .free)->(x,NameKind.free) ∈ names
 | [],_,_,h=>by simp at h
 | (n,k) :: r,x,hc,h=>by
  have b:=@kb env r x (fun y f=>hc y (Dr _ f))
  have d:=hc (n,k) Dq
  have h':List.lookup x ((if (k == NameKind.free && env.scope.kind == .function && env.kindOf n == some .cell)=true then (n,NameKind.cell) else (n,k)) :: (r.map fun (n,k)=>if (k == NameKind.free && env.scope.kind == .function && env.kindOf n == some .cell) then (n,NameKind.cell) else (n,k)))=some .cell \/
   List.lookup x ((if (k == NameKind.free && env.scope.kind == .function && env.kindOf n == some .cell)=true then (n,NameKind.cell) else (n,k)) :: (r.map fun (n,k)=>if (k == NameKind.free && env.scope.kind == .function && env.kindOf n == some .cell) then (n,NameKind.cell) else (n,k)))=some .free:=h
  cases a:x == n with
  | true =>
   have e:=eq_of_beq a
   subst e
   by_cases hf:k=.free
   ·subst hf;exact Dq
   ·exfalso
    have c:(k == NameKind.free)=false:=by simpa using hf
    simp [c,List.lookup_cons] at h'
    rcases h' with q | q
    ·exact d q
    ·exact hf q
  | false =>
   refine Dr _ (b ?_)
   split at h'
   ·simpa only [List.lookup_cons,a] using h'
   ·simpa only [List.lookup_cons,a] using h'
def aC (X:Cx) (NY:List Str) (scope:Scope) (s:Shared) (H:Hp) (C:Addr) (fp:List Addr):Cx where
 prog:=X.prog
 w:=X.w
 K:=X.K
 mg:=X.mg
 base:=X.base
 A:=X.A
 N:=NY
 s₀:=s
 H₀:=H
 env:=compEnvC scope (clo X.env.cells scope.names) C X.env
 outer:=X.stack
 stack:=X.stack
 ex:=fp
 fn:=fun _=>false
 calm:=X.calm
 pn:=[]
 xe:=fun _ _=>False
def cap (ix:List (Option Nat)) (σ:St):St:=ix.map fun o=>match o with | some i=>(σ[i]?).getD none | none=>none
def fM (sc:Scope) (b:List Str) (a:Scope) (NY:List Str) (ix:List (Option Nat)):Bool :=
 sc.kind == .function && sc.names.all (fun y=>y.2 != .cell) && sc.names.all (fun y=>y.2 != .local || sc.names.lookup y.1 == some .local) && sc.names.all (fun y=>y.2 != .free || sc.names.lookup y.1 == some .free)
  && sc.names.all (fun y=>y.2 != .free || (a.names.lookup y.1 == some .cell || a.names.lookup y.1 == some .free))
  && ix.length == NY.length && (NY.zip ix).all fun p=>match p.2 with | none=>true | some i=>(b[i]? == some p.1) && sc.names.contains (p.1,NameKind.free)
structure CompOk (sc:Scope) (XN:List Str) (Xsc:Scope) (NY:List Str) (ix:List (Option Nat)):Prop where
 kind:sc.kind=.function
 nocell:∀ y ∈ sc.names,y.2 ≠ .cell
 loc:∀ y ∈ sc.names,y.2=.local->sc.names.lookup y.1=some .local
 fre:∀ y ∈ sc.names,y.2=.free->sc.names.lookup y.1=some .free
 out:∀ y ∈ sc.names,y.2=.free->Xsc.names.lookup y.1=some .cell\/Xsc.names.lookup y.1=some .free
 len:ix.length=NY.length
 cap:∀ (j:Nat) x i,NY[j]?=some x->ix[j]?=some (some i)->XN[i]?=some x/\(x,NameKind.free) ∈ sc.names
theorem CompOk.of (h:fM sc XN Xsc NY ix=true):CompOk sc XN Xsc NY ix:=by
 simp only [fM,Bool.and_eq_true,List.all_eq_true,beq_iff_eq] at h
 obtain ⟨⟨⟨⟨⟨⟨h1,h2⟩,h3⟩,g⟩,b⟩,c⟩,f⟩:=h
 refine ⟨h1,fun y a=>by simpa using h2 y a,fun y a e=>?_,fun y a e=>?_,fun y a e=>?_,c,fun j x i e1 d=>?_⟩
 ·have:=h3 y a;rw [e] at this;simpa using this
 ·have:=g y a;rw [e] at this;simpa using this
 ·have:=b y a;rw [e] at this;simpa using this
 ·have m:(x,some i) ∈ NY.zip ix:=by
   refine DD (i:=j) ?_
   rw [List.getElem?_zip_eq_some]
   exact ⟨e1,d⟩
  have:=f _ m
  simpa using this
section
variable {X:Cx}
theorem FpOk.of_upd (f:FpOk X pins H b) (h:b ≠ D):FpOk X pins (upd H D o) b:=⟨by rw [av h];exact f.1,f.2⟩
theorem HOk.track (x:HOk P w H h) (f:H a=none) (new:ObjOk P w (upd H a o) h a o):HOk P w (upd H a o) h:=fun b u e=>by
 by_cases d:b=a
 ·subst d;rw [aQ] at e;cases e;exact new
 ·rw [av d] at e
  exact (x b u e).stay (fun c v _ q=>q) (fun c q=>by rw [av (aK q f)];exact q) fun c xs q=>by rw [av (aK q f)];exact q
def PTs (Y:Cx) (ifs:List Expr) (t:TT):Prop :=
 ∀ (pins:List (Addr × Obj)) (s:Shared) (σ:St) (H:Hp) (Q:Bool->Hp->Prop),Inv Y pins σ H s->t σ H Q ->
  wpAny (model Y.prog Y.w) Y.A (forIn ifs true fun c r=>if r=true then do let ok <- isTrue c Y.env (eval c Y.env);pure (ForInStep.yield ok) else pure (ForInStep.yield r)) (TP Y pins σ Q) Y.xe s
def tYes:TT:=fun _ H Q=>Q true H
theorem zm:PTs Y [] tYes:=fun pins s σ H Q I h=>wpAny_tests_nil ⟨H,I,h⟩
theorem zk (h:PT Y c t):PTs Y [c] t:=fun pins s σ H Q I q=>wpAny_tests_one (h pins s σ H Q I q)
def pP (J:It) (g:TG) (tc:TT) (te:TE) (Z:List V->Hp->Prop) (τ0:St) (H1:Hp):Prop :=
 ∃ W:Nat->Nat->List V->St->Hp->Prop,(∃ m,W 0 m [] τ0 H1)/\∀ i m ys τ H,W i m ys τ H->ys.length < sizeLine /\
  ((J.stop i H/\Z ys H)\/(J.go i H/\∃ N:List V->St->Hp->Prop,(∀ a τ' H',N a τ' H'->∃ c,c < m/\W (i+1) c a τ' H')/\∀ x H',J.yld i H x H'->g x τ H' fun τ2 H2=>tc τ2 H2 fun b d =>
   if b=true then te τ2 d fun y e=>N (ys ++ [y]) τ2 e else N ys τ2 d))
def AE (a:TI) (g:TG) (tc:TT) (te:TE) (ix:List (Option Nat)):TE:=fun σ H Q =>
 a σ H fun J H1=>pP J g tc te (fun ys H2=>∀ p,H2 p=none->Q (.ref p) (upd H2 p (.lst ys))) (cap ix σ) H1
theorem qL (d:CompOk scope X.N X.env.scope NY ix) (I:Inv X pins σ H s) (f:∀ b ∈ fp,FpOk X pins H b) (j:s.heap.objs.size<=C) (w:∀ b ∈ fp,b < s.heap.objs.size) (L:s4.os=s.os) (G:s4.gens=s.gens) (keep:∀ b o,s.heap.get? b=some o->s4.heap.get? b=some o) (ns:s4.heap.Ns C fun _=>none):Inv (aC X NY scope s H C fp) [] (cap ix σ) H s4:=by
 have D:FpOk X pins H C:=I.fpOk j (I.hok.fresh j)
 have cls:∀ x c,(clo X.env.cells scope.names).lookup x=some c->X.env.cells.lookup x=some c:=fun x c e=>m9 e
 have h:∀ x,(x,NameKind.free) ∈ scope.names->∃ c,X.env.cells.lookup x=some c:=fun x m=>by
  rcases d.out _ m rfl with q | q
  ·exact I.ok.has x (.inl q)
  ·exact I.ok.has x (.inr q)
 refine ⟨⟨I.ok.mod,d.kind,I.ok.glob,I.ok.blt,j,fun x y c e1 t=>I.ok.inj x y c (cls x c e1) (cls y c t),fun x P=>?_,fun x c e _=>(DI e).elim,fun e=>I.ok.hd e,I.ok.frames,.inl rfl,fun b g=>⟨DJ (DO (w b g) j),fun x c e=>(f b g).2.2.2.2.1 x c (cls x c e)⟩,
  I.bs,Ed I.ok.bsz I.sz,fun b o e g=>?_,fun b g hz=>?_,I.stack,I.stkFree⟩,L,by rw [G];exact I.bare,Un.kept keep,⟨_,ns,fun i x v e1 t S=>?_⟩,fun x c e=>?_,D.1,fun x c e=>I.freeC x c (cls x c e),fun p J=>absurd (show p ∈ ([]:List (Addr × Obj)) from J) (by simp),I.hok.kept keep,?_⟩
 ·have m:(x,NameKind.free) ∈ scope.names:=kb d.nocell P
  obtain ⟨c,e⟩:=h x m
  exact ⟨c,sG e m⟩
 ·rcases (f b g).2.2.2.1 with z | z
  ·exact I.ok.noex b o e z
  ·exact absurd (DO (Dy e) (Ed I.ok.bsz z)) (Nat.lt_irrefl _)
 ·rcases Dw.mp (I.stkSub b hz) with e | e
  ·exact (f b g).2.1 e
  ·exact (f b g).2.2.1 e
 ·-- a captured name
  have q:∃ k,ix[i]?=some (some k)/\σ[k]?=some (some v):=by
   unfold cap at t
   grind
  obtain ⟨k,E,ev⟩:=q
  obtain ⟨O,m⟩:=d.cap i x k e1 E
  obtain ⟨R,M,B⟩:=I.loc
  have K:Vis X.env.scope x:=by
   rcases d.out _ m rfl with q | q
   ·exact .inr (.inl q)
   ·exact .inr (.inr q)
  obtain ⟨u,r,l⟩:=B k x v O ev K
  refine ⟨u,r,.inr ?_⟩
  rcases l with ⟨A,_⟩ | ⟨_,c,Q,F⟩
  ·exfalso
   rcases d.out _ m rfl with q | q
   ·have:=A.symm.trans q;cases this
   ·have:=A.symm.trans q;cases this
  ·obtain ⟨o,n,hd⟩:=F
   exact ⟨iA (d.fre _ m rfl),c,sG Q m,o,keep c o n,hd⟩
 ·obtain ⟨v,o,n,hd⟩:=I.cell x c (cls x c e)
  exact ⟨v,o,keep c o n,hd⟩
 ·show (cap ix σ).length=NY.length
  unfold cap
  rw [DB]
  exact d.len
theorem fO (I:Nat->Shared->Prop) (turn:∀ n s,I n s->wpAny (model prog w) A (pyNext it) (fun r e=>match r with
   | none=>R (.ok .next) e
   | some v=>wpAny (model prog w) A (letOwnedTupleGo target it v) (fun _ a=>wpAny (model prog w) A (assign target env v) (fun _ k =>
     wpAny (model prog w) A (forIn ifs true fun c r=>if r=true then do let ok <- isTrue c env (eval c env);pure (ForInStep.yield ok) else pure (ForInStep.yield r)) (fun ok d =>
      if ok=true then wpAny (model prog w) A (eval elt env) (fun x j =>
       wpAny (model prog w) A (call (.builtin "list.append") [acc,x]) (fun _ i=>∃ m,m < n/\I m i) (fun _ _=>False) j) (fun _ _=>False) d
      else ∃ m,m < n/\I m d) (fun _ _=>False) k) (fun _ _=>False) a) (fun _ _=>False) e) (fun _ _=>False) s) (n:Nat) (h:I n s) :
  codeAny (model prog w) A (.compLoop (.ListComp elt [⟨target,iter,ifs,0⟩] scope pos) 0 it acc env) R s:=by
 refine codeAny_loop rfl I (fun n s o=>?_) n h
 show wpAny _ A ((compTurn (.ListComp elt [⟨target,iter,ifs,0⟩] scope pos) 0 it acc env).onRaise (fun x=>do noteFrame x env;theTreesLotGoes x)) _ _ s
 refine wpAny_noted ?_
 rw [compTurn_list]
 refine Dm (wpAny_standAt (Dm (wpAny_mono (turn n s o) (fun r e f=>?_) fun _ _ h'=>h'.elim)))
 cases r with
 | none=>exact Dn f
 | some v =>
  refine Dm (wpAny_mono f (fun _ a b=>?_) fun _ _ h'=>h'.elim)
  refine Dm (wpAny_mono b (fun _ k l=>Dm (wpAny_mono l (fun ok d g=>?_) fun _ _ h'=>h'.elim)) fun _ _ h'=>h'.elim)
  cases ok with
  | false=>exact Dn ⟨rfl,g⟩
  | true =>
   exact Dm (Dm (wpAny_mono g (fun x j q=>Dm (wpAny_mono q (fun _ i p=>Dn (Dn ⟨rfl,p⟩)) fun _ _ h'=>h'.elim)) fun _ _ h'=>h'.elim))
theorem pv {RR:Value->Addr->Result->Shared->Prop} (hc:X.calm=true) (ck:CompOk scope X.N X.env.scope NY ix) (hg:∀ s H C fp,PG (aC X NY scope s H C fp) tg g) (ht:∀ s H C fp,PTs (aC X NY scope s H C fp) ifs tc) (he:∀ s H C fp,PE (aC X NY scope s H C fp) elt te) (I:Inv X pins σ H s) (T:Turn X.prog X.w X.K tg J fp it tn) (st:tn 0 s.heap) (f:∀ b ∈ fp,FpOk X pins H b) (hW:pP J g tc te Z (cap ix σ) H) (b0:∀ D C s' ys H' m,s'.heap.Ns C m->H' D=none->FpOk X pins (upd H' D (.lst ys)) C->Inv X pins σ (upd H' D (.lst ys)) s'->Z ys H'->RR (.ref D) C (.ok .next) s') :
  wpAny (model X.prog X.w) X.A (newList []) (fun acc s₃=>wpAny (model X.prog X.w) X.A (newFunctionEnv scope X.env.globals (clo X.env.cells scope.names) [] X.env.qual none .none (some X.env)) (fun F s₄ =>
   codeAny (model X.prog X.w) X.A (.compStart (.ListComp elt [⟨tg,iter,ifs,0⟩] scope pos) 0 (.ref it) acc { F with scope:=relabel scope X.env }) (RR acc F.locals) s₄) E s₃) E s:=by
 obtain ⟨W,⟨m0,w0⟩,turn⟩:=hW
 refine wpAny_newObj_type (wpAny_newFunctionEnv ck.nocell (by intro y hy;simp at hy) (fun h₁ k h=>?_) ck.kind)
 dsimp only at k h ⊢
 generalize M:s.heap.push { cls:=.type "list",dict:=none,data:=.seq ([]:List Value).toArray }=H2 at k h ⊢
 have az:H2.objs.size=s.heap.objs.size+1:=by rw [<- M,Eb]
 have B:s.heap.objs.size ≠ H2.objs.size:=by rw [az];exact DJ (Nat.lt_succ_self _)
 have j:s.heap.objs.size<=H2.objs.size:=by rw [az];exact Nat.le_succ _
 generalize P:s.heap.objs.size=D at *
 generalize hC:H2.objs.size=C at *
 have below:∀ b o,s.heap.get? b=some o->b < D:=fun b o e=>by rw [<- P];exact Dy e
 have old:∀ b o,s.heap.get? b=some o->h₁.get? b=some o:=fun b o e=>h.extBut b o (DJ (DO (below b o e) j)) (Ds _ (M ▸ Ds _ e))
 have Q:H2.get? D=some { cls:=.type "list",dict:=none,data:=.seq ([]:List Value).toArray }:=by
  rw [<- M,<- P];exact DA _ rfl
 have ab:h₁.PlainList D #[]:=⟨_,h.extBut _ _ B (Ds _ Q)⟩
 have ar:∀ b ∈ fp,b < s.heap.objs.size:=fun b a=>by
  obtain ⟨o,e,_⟩:=T.obj 0 _ st b a
  exact Dy e
 have l:∀ b ∈ fp,b < D:=fun b a=>by rw [<- P];exact ar b a
 have IY:Inv (aC X NY scope s H C fp) [] (cap ix σ) H { s with heap:=h₁,toks:=s.toks+([]:List (Str × Value)).length } :=
  qL ck I f (by rw [P];exact j) ar rfl rfl old k
 have b4:H D=none:=I.hok.fresh (by rw [P];exact DH _)
 have t:∀ b ∈ frs X.stack,b < D:=fun b a=>by
  obtain ⟨_,o,ho,_⟩:=I.stack.mem a
  exact below b o ho
 have loop:∀ s₃:Shared,s₃ = { s with heap:=h₁,toks:=s.toks+([]:List (Str × Value)).length } ->
   codeAny (model X.prog X.w) X.A (.compLoop (.ListComp elt [⟨tg,iter,ifs,0⟩] scope pos) 0 (.ref it) (.ref D) (aC X NY scope s H C fp).env) (RR (.ref D) C) s₃:=by
  rintro s₃ rfl
  refine fO (fun n s'=>∃ i ys τ H' its,Inv (aC X NY scope s H C fp) [] τ H' s'/\H' D=none/\s'.heap.PlainList D its/\Vals ys its.toList/\tn i s'.heap/\(∀ b ∈ fp,H' b=none)/\W i n ys τ H') ?_ m0
   ⟨0,[],cap ix σ,H,#[],IY,b4,ab,.nil,T.keep _ _ _ st fun b _ o e=>old b o e,fun b a=>(f b a).1,w0⟩
  rintro n s3 ⟨i,ys,τ,S,its,I3,d3,l3,v3,Y,a5,w3⟩
  obtain ⟨nl,e3⟩:=id l3
  have V:Inv (aC X NY scope s H C fp) [(D,{ cls:=.type "list",data:=.seq its nl })] τ S s3:=I3.pins_of fun p hp=>by
   have e:p=(D,{ cls:=.type "list",data:=.seq its nl }):=by simpa using hp
   subst e
   exact ⟨e3,d3,B,fun z=>Nat.lt_irrefl _ (t D z),fun v z=>by cases z⟩
  have G:∀ {H':Hp} {pl:List (Addr × Obj)},(∀ b ∈ fp,H' b=none)->(∀ p ∈ pl,p.1=D)->∀ b ∈ fp,FpOk (aC X NY scope s H C fp) pl H' b:=fun hn hp b a =>
   ⟨hn b a,DJ (DO (l b a) j),fun z=>by
    rcases Dw.mp (I.stkSub b z) with e | e
    ·exact (f b a).2.1 e
    ·exact (f b a).2.2.1 e,.inl a,fun x c e=>(f b a).2.2.2.2.1 x c (m9 e),fun p bb=>by
    have e:p.1=D:=hp p ((Dz.mp bb).elim (fun z=>absurd (show p ∈ ([]:List (Addr × Obj)) from z) (by simp)) fun z=>z)
    rw [e]
    exact Nat.ne_of_gt (l b a)⟩
  obtain ⟨zl,step⟩:=turn i n ys τ S w3
  have single:∀ p ∈ [(D,({ cls:=.type "list",data:=.seq its nl }:Obj))],p.1=D:=fun p hp=>by
   have e:p=(D,{ cls:=.type "list",data:=.seq its nl }):=by simpa using hp
   rw [e]
  rcases step with ⟨stop,qn⟩ | ⟨go,N,hN,step⟩
  ·refine wpAny_mono (T.done (aC X NY scope s H C fp) rfl rfl rfl hc i _ s3 τ S (fun _ _=>False) V (G a5 single) Y stop) (fun r s4 ⟨hr,O⟩=>?_) fun _ _ e=>e
   subst hr
   obtain ⟨mC,b3,_⟩:=id O.loc
   obtain ⟨e4,U,_⟩:=O.pin (D,{ cls:=.type "list",data:=.seq its nl }) (by simp [aC])
   have be:∀ b o,s.heap.get? b=some o->b ≠ D:=fun b o e=>DJ (below b o e)
   have R:=O.base
   refine b0 D C s4 ys S mC b3 U ?_ ?_ qn
   ·exact (I.fpOk (by rw [P];exact j) (by exact O.free)).of_upd (Ne.symm B)
   ·refine I.call' (ch:=fp) O.os (H':=upd S D (.lst ys)) ⟨R.keep,R.slot,fun b o e n hx=>?_,R.there,fun b xs e=>?_,fun b o u e=>?_,fun b ps e=>?_⟩ ?_ O.bare fun b a=>?_
    ·rw [av (be b o e)];exact R.free b o e n hx
    ·have q:=R.tups b xs e;rw [av (aK q U)];exact q
    ·have q:=R.frzs b o u e;rw [av (aK q U)];exact q
    ·obtain ⟨more,q⟩:=R.tbls b ps e;exact ⟨more,by rw [av (aK q U)];exact q⟩
    ·exact O.hok.track U ⟨Nat.le_of_lt zl,its.toList,nl,v3,by simpa using e4⟩
    ·exact ⟨(f b a).2.2.2.1,(f b a).2.1,(f b a).2.2.2.2.1,(f b a).2.2.2.2.2⟩
  ·refine wpAny_mono (T.item (aC X NY scope s H C fp) rfl rfl rfl hc i _ s3 τ S (fun _ _=>False) V (G a5 single) Y go) (fun r s4 ⟨u,hr,h4⟩=>?_) fun _ _ e=>e
   subst hr
   refine wpAny_mono h4 (fun _ s5 ⟨x,H5,I5,r5,y5,L,b5⟩=>?_) fun _ _ e=>e
   have a8:=I5.pinned (G b5 single) (T.obj _ _ L)
   refine wpAny_mono (hg s H C fp _ s5 τ H5 x u _ a8 r5 (step x H5 y5)) (fun _ s6 ⟨τ6,H6,I6,q6⟩=>?_) fun _ _ e=>e
   refine wpAny_mono (ht s H C fp _ s6 τ6 H6 _ I6 q6) (fun b s7 ⟨H7,I7,q7⟩=>?_) fun _ _ e=>e
   have after:∀ {s':Shared} {H':Hp},Inv (aC X NY scope s H C fp) ([(D,{ cls:=.type "list",data:=.seq its nl })] ++ ke fp s5.heap) τ6 H' s'->tn (i+1) s'.heap/\(∀ b ∈ fp,H' b=none)/\H' D=none/\s'.heap.PlainList D its:=fun {s' H'} I' =>
    ⟨T.keep _ _ _ L fun b a o e=>(I'.pin (b,o) (Dv _ (Dv _ (eE a e)))).1,fun b a=>by
     obtain ⟨o,e,d⟩:=T.obj _ _ L b a
     exact (I'.pin (b,o) (Dv _ (Dv _ (eE a e)))).2.1,(I'.pin (D,_) (Dv _ (Du _ (DX.mpr rfl)))).2.1,
     nl,(I'.pin (D,_) (Dv _ (Du _ (DX.mpr rfl)))).1⟩
   cases b with
   | false =>
    rw [if_neg DI]
    rw [if_neg DI] at q7
    obtain ⟨m',hm,w7⟩:=hN _ _ _ q7
    obtain ⟨a1,a2,a3,a4⟩:=after I7
    exact ⟨m',hm,i+1,ys,τ6,H7,its,I7.pins_of (fun _ z=>absurd z (by simp)),a3,a4,v3,a1,a2,w7⟩
   | true =>
    rw [if_pos rfl]
    rw [if_pos rfl] at q7
    refine wpAny_mono (he s H C fp _ s7 τ6 H7 _ I7 q7) (fun y s8 ⟨yv,H8,I8,r8,n8⟩=>?_) fun _ _ e=>e
    obtain ⟨m',hm,w8⟩:=hN _ _ _ n8
    obtain ⟨a1,a2,a3,a4⟩:=after I8
    have b6:ys.length=its.size:=by simpa using v3.length
    have hsz:its.size<=sizeLine:=by lia
    refine wpAny_list_append_plain (hsz:=hsz) a4 fun h9 l9 ax=>?_
    have I9:Inv (aC X NY scope s H C fp) [] τ6 H8 { s8 with heap:=h9,toks:=s8.toks }:=(I8.pins_of (pins':=[]) fun _ z=>absurd z (by simp)).turned (it:=D) (fun b o a e=>(ax.2 b a).trans e) a3 B (.inr (by show s.heap.objs.size<=D;rw [P];exact DH _)) (fun x c e z=>?_) fun p z=>absurd (show p ∈ ([]:List (Addr × Obj)) from z) (by simp)
    ·refine ⟨m',hm,i+1,ys ++ [yv],τ6,H8,its.push y,I9,a3,l9,?_,T.keep _ _ _ a1 fun b a o e=>(ax.2 b (DJ (l b a))).trans e,a2,w8⟩
     rw [Array.toList_push]
     exact v3.append (.cons r8 .nil)
    ·obtain ⟨v,o,ho,_⟩:=I.cell x c (m9 e)
     exact Nat.lt_irrefl _ (z ▸ below c o ho)
 exact codeAny_compStart_list (loop _ rfl) (T.self X.A 0 _ _ _ (T.keep _ _ _ st fun b _ o e=>old b o e) (loop _ rfl))
theorem zB (NY:List Str) (ix:List (Option Nat)) (i:X.calm=true) (hi:PI X tg iter wi) (k:∀ s H C fp,PG (aC X NY scope s H C fp) tg g) (n:∀ s H C fp,PTs (aC X NY scope s H C fp) ifs tc) (he:∀ s H C fp,PE (aC X NY scope s H C fp) elt te) (a:fM scope X.N X.env.scope NY ix=true) (d:∀ x,foldedSetIterable iter X.env x=pure x:=by intro _;rfl):PE X (.ListComp elt [⟨tg,iter,ifs,0⟩] scope pos) (AE wi g tc te ix):=by
 intro pins s σ H Q I h
 have a:=CompOk.of a
 rw [eval_ListComp]
 refine wpAny_comprehension_free (use:=none) rfl d (fP (scope:=scope) (env:=X.env) fun x m e=>?_) a.kind a.loc (thn (hi pins s σ H _ I h) fun v s1 h1=>thn h1 fun l s2 h2=>?_)
 ·rcases a.out x m e with q | q
  ·exact I.ok.has x.1 (.inl q)
  ·exact I.ok.has x.1 (.inr q)
 ·obtain ⟨it,fp,F,J,H2,e,z,T,c,f2,j⟩:=h2
  subst e
  refine pv (RR:=fun acc C=>compPost (model X.prog X.w) X.A X.xe none (EP X pins σ Q) acc C) i a k n he z T c f2 j ?_
  intro D C s' ys H' m B y f p t
  obtain ⟨f0,f1,f2,r,f4,E⟩:=f
  exact ⟨m,B,fun h' sb=>⟨.ref D,_,p.turned (t':=s'.toks) (fun b o u e=>(sb.2 b u).trans e) f0 f1 r f4 E,rfl,t D y⟩⟩
def AG (i:Nat) (a:TI) (g:TG) (tc:TT) (te:TE) (ix:List (Option Nat)):TS:=fun D σ H =>
 a σ H fun J H1=>pP J g tc te (fun ys H2=>∀ p,H2 p=none->D.nx (σ.set i (some (.ref p))) (upd H2 p (.lst ys))) (cap ix σ) H1
theorem qg {i:Nat} (K:X.N.Nodup) (R:X.N[i]?=some y) (V:Loc X.env.scope y) (NY:List Str) (ix:List (Option Nat)) (B:X.calm=true) (hi:PI X tg iter wi) (E:∀ s H C fp,PG (aC X NY scope s H C fp) tg g) (L:∀ s H C fp,PTs (aC X NY scope s H C fp) ifs tc) (he:∀ s H C fp,PE (aC X NY scope s H C fp) elt te) (c:fM scope X.N X.env.scope NY ix=true) (l:swapsWith (.ListComp elt [⟨tg,iter,ifs,0⟩] scope pos) (some (.Name y py)) spos.line X.env=pure true:=by rfl) (hf:X.fn y=true\/X.env.scope.names.lookup y=some .local:=by first | exact .inl rfl | exact .inr rfl | assumption) (r:∀ x,foldedSetIterable iter X.env x=pure x:=by intro _;rfl):PS X (.Assign [.Name y py] (.ListComp elt [⟨tg,iter,ifs,0⟩] scope pos) spos) (AG i wi g tc te ix):=by
 intro pins s σ H D I h
 have c:=CompOk.of c
 rw [exec_Assign_Name_used _ _ _ _ l]
 refine Dm (wpAny_standAt (Dm ?_))
 show wpAny _ X.A (do let _ <- comprehension (.ListComp elt [⟨tg,iter,ifs,0⟩] scope pos) scope X.env _ (newList []) false (eval iter X.env) (some (assign (.Name y py) X.env))) _ _ s
 refine Dm (wpAny_mono (wpAny_comprehension_free (use:=some (assign (.Name y py) X.env)) (Q:=fun _ s'=>SP X pins D .next s') rfl r (fP (scope:=scope) (env:=X.env) fun x m e=>?_) c.kind c.loc
  (thn (hi pins s σ H _ I h) fun v s1 h1=>thn h1 fun G s2 h2=>?_)) (fun _ s' u=>Dn (Dn u)) fun _ _ e=>e)
 ·rcases c.out x m e with q | q
  ·exact I.ok.has x.1 (.inl q)
  ·exact I.ok.has x.1 (.inr q)
 ·obtain ⟨it,fp,tn,J,H2,e,Y,T,k,f2,F⟩:=h2
  subst e
  refine pv (RR:=fun acc C=>compPost (model X.prog X.w) X.A X.xe (some (assign (.Name y py) X.env)) (fun _ s'=>SP X pins D .next s') acc C) B c E L he Y T k f2 F ?_
  intro j C s' ys H' m Z W t M S
  obtain ⟨f0,f1,f2,O,f4,f5⟩:=t
  show wpAny _ X.A (assign (.Name y py) X.env (.ref j)) _ _ _
  refine wpAny_assign_Name (lB M K R V (v:=.ref j) rfl (fun n f ⟨a,sb,P⟩=>?_) hf)
  have p:C ≠ a:=by
   rcases P with e | e
   ·rw [e];exact f1
   ·exact fun z=>f4 y a e z.symm
  exact ⟨m,Z.sameBut sb p,fun h' d=>⟨_,_,f.turned (t':=n.toks) (fun b o U e=>(d.2 b U).trans e) f0 f1 O f4 f5,S j W⟩⟩
end
end L2
end
section
namespace L2
open PySem PySem.Spec PyProof.Rows
section
variable {X:Cx}
inductive KindOf (K:FG) (H:Hp):V->String->Prop
 | int (i:Int):KindOf K H (.int i) "int"
 | bool (b:Bool):KindOf K H (.bl b) "bool"
 | str (x:Str):KindOf K H (.str x) "str"
 | non:KindOf K H .non "NoneType"
 | tuple {a:Addr} {xs:List V}:SqT K H a xs->KindOf K H (.ref a) "tuple"
 | list {a:Addr} {xs:List V}:SqL K H a xs->KindOf K H (.ref a) "list"
 | dK {a:Addr} {kvs}:H a=some (.dK kvs)->KindOf K H (.ref a) "dict"
 | dT {a:Addr} {kvs}:H a=some (.dT kvs)->KindOf K H (.ref a) "dict"
def i9 (k t:String):Bool:=k == t || (k == "bool" && t == "int")
theorem Inv.clsK (I:Inv X pins σ H s) (h:KindOf X.K H (.ref a) k):∃ o,s.heap.get? a=some o/\o.cls=.type k:=by
 cases h with
 | tuple h=>obtain ⟨its,_,⟨o,e,c,_⟩,_⟩:=I.tuple h;exact ⟨o,e,c⟩
 | list h=>obtain ⟨its,_,⟨o,n,e,c,_⟩,_⟩:=I.list h;exact ⟨o,e,c⟩
 | dK h=>obtain ⟨_,_,_,_,o,_,_,e,c,_⟩:=I.hok a _ h;exact ⟨o,e,c.1⟩
 | dT h=>obtain ⟨_,_,_,_,o,_,_,e,c,_⟩:=I.hok a _ h;exact ⟨o,e,c.1⟩
theorem ni:bM X (.builtin "isinstance") (fun xs H Q=>∃ x k,xs=[x,.ty "int"]/\KindOf X.K H x k/\Q (.bl (i9 k "int")) H):=by
 intro pins s σ H xs us Q I r h
 obtain ⟨x,k,rfl,d,q⟩:=h
 obtain ⟨u,v,rfl,a,f⟩:=il r
 cases (show v=Value.type "int" from f)
 cases d with
 | int i=>obtain ⟨tk,rfl⟩:=a;exact IsiPair.int_int ⟨.bl true,H,I,rfl,q⟩
 | bool b=>cases (show u=Value.bool b from a);exact IsiPair.bool_int ⟨.bl true,H,I,rfl,q⟩
 | str z=>obtain ⟨tk,rfl⟩:=a;exact IsiPair.str_int ⟨.bl false,H,I.tok _,rfl,q⟩
 | non=>cases (show u=Value.none from a);exact IsiPair.NoneType_int ⟨.bl false,H,I.tok _,rfl,q⟩
 | tuple hh=>cases a;obtain ⟨o,e,c⟩:=I.clsK (.tuple hh);exact IsiPair.tuple_int e c ⟨.bl false,H,I.tok _,rfl,q⟩
 | list hh=>cases a;obtain ⟨o,e,c⟩:=I.clsK (.list hh);exact IsiPair.list_int e c ⟨.bl false,H,I.tok _,rfl,q⟩
 | dK hh=>cases a;obtain ⟨o,e,c⟩:=I.clsK (.dK hh);exact IsiPair.dict_int e c ⟨.bl false,H,I.tok _,rfl,q⟩
 | dT hh=>cases a;obtain ⟨o,e,c⟩:=I.clsK (.dT hh);exact IsiPair.dict_int e c ⟨.bl false,H,I.tok _,rfl,q⟩
theorem ld:bM X (.builtin "isinstance") (fun xs H Q=>∃ x k,xs=[x,.ty "bool"]/\KindOf X.K H x k/\Q (.bl (i9 k "bool")) H):=by
 intro pins s σ H xs us Q I r h
 obtain ⟨x,k,rfl,d,q⟩:=h
 obtain ⟨u,v,rfl,a,f⟩:=il r
 cases (show v=Value.type "bool" from f)
 cases d with
 | int i=>obtain ⟨tk,rfl⟩:=a;exact IsiPair.int_bool ⟨.bl false,H,I.tok _,rfl,q⟩
 | bool b=>cases (show u=Value.bool b from a);exact IsiPair.bool_bool ⟨.bl true,H,I,rfl,q⟩
 | str z=>obtain ⟨tk,rfl⟩:=a;exact IsiPair.str_bool ⟨.bl false,H,I.tok _,rfl,q⟩
 | non=>cases (show u=Value.none from a);exact IsiPair.NoneType_bool ⟨.bl false,H,I.tok _,rfl,q⟩
 | tuple hh=>cases a;obtain ⟨o,e,c⟩:=I.clsK (.tuple hh);exact IsiPair.tuple_bool e c ⟨.bl false,H,I.tok _,rfl,q⟩
 | list hh=>cases a;obtain ⟨o,e,c⟩:=I.clsK (.list hh);exact IsiPair.list_bool e c ⟨.bl false,H,I.tok _,rfl,q⟩
 | dK hh=>cases a;obtain ⟨o,e,c⟩:=I.clsK (.dK hh);exact IsiPair.dict_bool e c ⟨.bl false,H,I.tok _,rfl,q⟩
 | dT hh=>cases a;obtain ⟨o,e,c⟩:=I.clsK (.dT hh);exact IsiPair.dict_bool e c ⟨.bl false,H,I.tok _,rfl,q⟩
theorem kP:bM X (.builtin "isinstance") (fun xs H Q=>∃ x k,xs=[x,.ty "tuple"]/\KindOf X.K H x k/\Q (.bl (i9 k "tuple")) H):=by
 intro pins s σ H xs us Q I r h
 obtain ⟨x,k,rfl,d,q⟩:=h
 obtain ⟨u,v,rfl,a,f⟩:=il r
 cases (show v=Value.type "tuple" from f)
 cases d with
 | int i=>obtain ⟨tk,rfl⟩:=a;exact IsiPair.int_tuple ⟨.bl false,H,I.tok _,rfl,q⟩
 | bool b=>cases (show u=Value.bool b from a);exact IsiPair.bool_tuple ⟨.bl false,H,I.tok _,rfl,q⟩
 | str z=>obtain ⟨tk,rfl⟩:=a;exact IsiPair.str_tuple ⟨.bl false,H,I.tok _,rfl,q⟩
 | non=>cases (show u=Value.none from a);exact IsiPair.NoneType_tuple ⟨.bl false,H,I.tok _,rfl,q⟩
 | tuple hh=>cases a;obtain ⟨o,e,c⟩:=I.clsK (.tuple hh);exact IsiPair.tuple_tuple e c ⟨.bl true,H,I,rfl,q⟩
 | list hh=>cases a;obtain ⟨o,e,c⟩:=I.clsK (.list hh);exact IsiPair.list_tuple e c ⟨.bl false,H,I.tok _,rfl,q⟩
 | dK hh=>cases a;obtain ⟨o,e,c⟩:=I.clsK (.dK hh);exact IsiPair.dict_tuple e c ⟨.bl false,H,I.tok _,rfl,q⟩
 | dT hh=>cases a;obtain ⟨o,e,c⟩:=I.clsK (.dT hh);exact IsiPair.dict_tuple e c ⟨.bl false,H,I.tok _,rfl,q⟩
theorem lc:bM X (.builtin "isinstance") (fun xs H Q=>∃ x k,xs=[x,.ty "dict"]/\KindOf X.K H x k/\Q (.bl (i9 k "dict")) H):=by
 intro pins s σ H xs us Q I r h
 obtain ⟨x,k,rfl,d,q⟩:=h
 obtain ⟨u,v,rfl,a,f⟩:=il r
 cases (show v=Value.type "dict" from f)
 cases d with
 | int i=>obtain ⟨tk,rfl⟩:=a;exact IsiPair.int_dict ⟨.bl false,H,I.tok _,rfl,q⟩
 | bool b=>cases (show u=Value.bool b from a);exact IsiPair.bool_dict ⟨.bl false,H,I.tok _,rfl,q⟩
 | str z=>obtain ⟨tk,rfl⟩:=a;exact IsiPair.str_dict ⟨.bl false,H,I.tok _,rfl,q⟩
 | non=>cases (show u=Value.none from a);exact IsiPair.NoneType_dict ⟨.bl false,H,I.tok _,rfl,q⟩
 | tuple hh=>cases a;obtain ⟨o,e,c⟩:=I.clsK (.tuple hh);exact IsiPair.tuple_dict e c ⟨.bl false,H,I.tok _,rfl,q⟩
 | list hh=>cases a;obtain ⟨o,e,c⟩:=I.clsK (.list hh);exact IsiPair.list_dict e c ⟨.bl false,H,I.tok _,rfl,q⟩
 | dK hh=>cases a;obtain ⟨o,e,c⟩:=I.clsK (.dK hh);exact IsiPair.dict_dict e c ⟨.bl true,H,I,rfl,q⟩
 | dT hh=>cases a;obtain ⟨o,e,c⟩:=I.clsK (.dT hh);exact IsiPair.dict_dict e c ⟨.bl true,H,I,rfl,q⟩
theorem uH {bs:List Bool}:((List.range bs.length).all fun i=>bs.getD i false)=bs.all id:=by
 rw [Bool.eq_iff_iff]
 simp only [List.all_eq_true,List.mem_range,id]
 constructor
 ·intro h b a
  obtain ⟨i,hi,rfl⟩:=List.mem_iff_getElem.mp a
  simpa [List.getD,hi] using h i hi
 ·intro h i hi
  simpa [List.getD,hi] using h _ (List.getElem_mem hi)
theorem xM (n:X.calm=true):bM X (.builtin "all") (fun xs H Q=>∃ (a:Addr) (bs:List Bool),xs=[.ref a]/\SqL X.K H a (bs.map V.bl)/\Q (.bl (bs.all id)) H):=by
 intro pins s σ H xs us Q I r h
 obtain ⟨a,bs,rfl,m,q⟩:=h
 obtain ⟨u,rfl,f⟩:=gi r
 cases f
 obtain ⟨its,l,p,hz⟩:=I.list m
 have k:=l.length
 rw [DB] at k
 have g:a < s.heap.objs.size:=by obtain ⟨o,_,e,_⟩:=id p;exact Dy e
 refine call_all_walk (wpAny_pyIter_list p.isList ?_)
 refine ⟨s.heap.objs.size,_,_,_,_,_,fun i=>bs.getD i false,rfl,Walks.list (show X.A.in1.handled=none from I.ok.hd n) s.heap.objs.size a (DJ g) its.toArray,⟨⟨_,DA _ rfl,rfl,rfl⟩,p.isList.at fun o e=>Ds _ e⟩,?_,?_⟩
 ·intro i v s' z C t j
  have c:its[i]?=some v:=by simpa using t
  have hi:i < bs.length:=by
   have:=(DC.mp c).1
   lia
  obtain ⟨u,hu,f⟩:=l.get (i:=i) (x:=V.bl (bs[i])) (by simp [hi])
  rw [c] at hu
  cases hu
  cases (show v=Value.bool bs[i] from f)
  refine Ec ?_
  have e:bs.getD i false=bs[i]:=by simp [List.getD,hi]
  have d:z (bs.getD i false) s':=j
  rw [e] at d
  exact d
 ·intro h' tk y
  have w:Inv X pins σ H { s with heap:=h',toks:=tk }:=I.kept fun b o e=>y b o (by
   intro hm
   have B:b=s.heap.objs.size:=by simpa using hm
   exact absurd (B ▸ Dy e) (Nat.lt_irrefl _)) (Ds _ e)
  refine ⟨.bl (bs.all id),H,w,?_,q⟩
  show Value.bool _=Value.bool _
  rw [DK,<- k,uH]
def Ite (K:FG) (a:Addr):It :=
 ⟨fun i H=>∃ xs x,SqL K H a xs/\xs[i]?=some x,fun i H x H'=>∃ T y,x=.ref T/\H T=none/\H'=upd H T (.tup [.int i,y])/\∀ xs,SqL K H a xs->xs[i]?=some y,fun i H=>∃ xs,SqL K H a xs/\xs.length<=i⟩
theorem Inv.two {tk:Nat} (I:Inv X pins σ H s) (g:FpOk X pins H e) (f:FpOk X pins H it) (k:∀ b o,b ≠ e->b ≠ it->s.heap.get? b=some o->h'.get? b=some o):Inv X pins σ H { s with heap:=h',toks:=tk }:=by
 have p:∀ b u,H b=some u->b ≠ e/\b ≠ it:=fun b u q=>⟨aK q g.1,aK q f.1⟩
 have a:∀ b,b ∉ [e,it]->b ≠ e/\b ≠ it:=fun b h=>⟨fun z=>h (by simp [z]),fun z=>h (by simp [z])⟩
 refine I.step (g':=s.gens) (d':=s.drawn) (ch:=[e,it]) (fun b h=>?_) (fun b o _ _ d q _=>k b o (a b d).1 (a b d).2 q) (fun b o _ _ d q _=>⟨o.slots,k b o (a b d).1 (a b d).2 q⟩) (fun _ _ _ _ n=>n)
  (fun b o d q=>⟨o,k b o (a b d).1 (a b d).2 q⟩) (fun _ _ q=>q) (fun _ _ _ q=>q) (fun b ps q=>⟨#[],by rw [q];simp⟩) (fun m hm=>?_) (fun b u q=>?_) I.bare
 ·have l:b=e\/b=it:=by simpa using h
  rcases l with rfl | rfl
  ·exact ⟨g.2.2.2.1,g.2.1,g.2.2.2.2.1,g.2.2.2.2.2⟩
  ·exact ⟨f.2.2.2.1,f.2.1,f.2.2.2.2.1,f.2.2.2.2.2⟩
 ·obtain ⟨o,es,i,j,r⟩:=hm
  exact ⟨o,es,i,k _ o (Ne.symm g.2.1) (Ne.symm f.2.1) j,r⟩
 ·refine (I.hok b u q).stay (fun c v d z=>?_) (fun _ z=>z) fun _ _ z=>z
  grind
theorem Inv.trackT (I:Inv X pins σ H s) (J:Inv X pins σ H s0) (f:s0.heap.objs.size<=T) (k:IsTupD s.heap T its.toArray) (A:Vals xs its) (hz:xs.length<=sizeLine):Inv X pins σ (upd H T (.tup xs)) s:=by
 have m:H T=none:=J.hok.fresh f
 obtain ⟨e1,z,D,a,E,t,r,y,C,i,g⟩:=id I
 have d:∀ b,H b=none->∀ o,s0.heap.get? b=some o->upd H T (.tup xs) b=none:=fun b B o e=>by
  rw [av (DJ (DO (Dy e) f))];exact B
 have h:∀ b u,H b=some u->upd H T (.tup xs) b=some u:=fun b u e=>by rw [av (aK e m)];exact e
 have j:X.s₀.heap.objs.size<=T:=Ed J.sz f
 refine ⟨e1,z,D,⟨a.keep,a.slot,fun b o q n k=>?_,a.there,fun b ys q=>h _ _ (a.tups b ys q),fun b o u q=>h _ _ (a.frzs b o u q),fun b ps q=>?_⟩,E,t,?_,fun x c q=>?_,fun p l=>?_,?_,g⟩
 ·rw [av (DJ (DO (Dy q) j))];exact a.free b o q n k
 ·obtain ⟨more,F⟩:=a.tbls b ps q;exact ⟨more,h _ _ F⟩
 ·rw [av (DJ (DO J.lt f))];exact r
 ·obtain ⟨v,o,w,_⟩:=J.cell x c q
  exact d c (y x c q) o w
 ·obtain ⟨a1,a2,a3⟩:=C p l
  exact ⟨a1,d p.1 a2 p.2 (J.pin p l).1,a3⟩
 ·exact i.track m ⟨hz,its,A,k⟩
theorem sV {P:Program} {w:World} {K:FG} {elts:List Expr} {k:Nat} {pos:Pos} (a e it:Addr) (l:e ≠ it):Turn P w K (.Tuple elts k pos) (Ite K a) [e,it] e (fun i h=>(∃ old,IsEnum h e it i old)/\h.IsListIter it a i) where
 mem:=by simp
 obj:=fun i h st b g=>by
  obtain ⟨⟨old,he⟩,o,t,c,d⟩:=st
  have F:b=e\/b=it:=by simpa using g
  rcases F with rfl | rfl
  ·exact ⟨_,he,fun v z=>by cases z⟩
  ·exact ⟨o,t,fun v z=>by rw [d] at z;cases z⟩
 keep:=fun i h h' st k=>⟨let ⟨old,he⟩:=st.1;⟨old,k e (by simp) _ he⟩,st.2.at fun o q=>k it (by simp) o q⟩
 item:=by
  intro X B hw M O i pins s σ H E I hf st C
  subst B hw M
  obtain ⟨xs,x,A,N⟩:=C
  obtain ⟨its,D,p,hz⟩:=I.list A
  obtain ⟨u,hu,Q⟩:=D.get N
  obtain ⟨⟨old,he⟩,hit⟩:=st
  refine wpAny_pyNext_enum_item he hit p.isList (x:=u) (by simpa using hu) l fun h' L y Y hsz S=>?_
  refine ⟨_,rfl,wpAny_letOwnedTupleGo_enum L fun n m f=>?_⟩
  have j:e < s.heap.objs.size:=Dy he
  have R:Inv X pins σ H { s with heap:=n,toks:=s.toks+1 }:=I.two (hf e (by simp)) (hf it (by simp)) fun b o hb1 hb2 q=>(f.2 b hb1).trans (S b o hb1 hb2 q)
  have G:n.get? s.heap.objs.size=some { cls:=.type "tuple",data:=.seq #[.int i s.toks,u] }:=(f.2 _ (Nat.ne_of_gt j)).trans Y
  have V:=R.trackT (s0:=s) (T:=s.heap.objs.size) (xs:=[.int i,x]) (its:=[.int i s.toks,u]) I (DH _) ⟨_,G,rfl,_,rfl⟩ (.cons ⟨_,rfl⟩ (.cons Q .nil)) (by show 2<=sizeLine;decide)
  refine ⟨.ref s.heap.objs.size,_,V,rfl,⟨_,x,rfl,I.hok.fresh (DH _),rfl,fun ys hy=>by rw [I.list_inj hy A];exact N⟩,⟨⟨_,by simpa using m⟩,?_⟩,fun b g=>?_⟩
  ·obtain ⟨o,t,r⟩:=y
   exact ⟨o,(f.2 it (Ne.symm l)).trans t,r⟩
  ·have J:b < s.heap.objs.size:=by
    have F:b=e\/b=it:=by simpa using g
    rcases F with rfl | rfl
    ·exact j
    ·obtain ⟨o,t,r⟩:=hit;exact Dy t
   rw [av (DJ J)]
   exact (hf b g).1
 done:=by
  intro X B hw M O i pins s σ H E I hf st C
  subst B hw M
  obtain ⟨xs,A,N⟩:=C
  obtain ⟨its,D,p,hz⟩:=I.list A
  obtain ⟨⟨old,he⟩,hit⟩:=st
  have hl:=D.length
  obtain ⟨f0,f1,f2,Z,f4,W⟩:=hf it (by simp)
  exact wpAny_pyNext_enum_end (I.ok.hd O) he hit p.isList (by simp;lia) fun h' U=>⟨rfl,I.turned (t':=s.toks) (fun b o g q=>U b o g q) f0 f1 Z f4 W⟩
 self:=fun _ _ _ _ _ st h=>let ⟨_,he⟩:=st.1;wpAny_pyIter_enum he h
def AX (K:FG) (ta:TA):TI:=fun σ H R=>ta σ H fun b H1=>∃ a,b=[.ref a]/\(∃ xs,SqL K H1 a xs)/\R (Ite K a) H1
theorem zy {k:Nat} (l:Gl X "enumerate") (hm:X.mg "enumerate"=none) (n:PA X [a] ta) (i:starEach [a] X.env=[(false,eval a X.env)]:=by rfl):PI X (.Tuple elts k tp) (.Call (.Name "enumerate" p) [a] [] pos) (AX X.K ta):=by
 intro pins s σ H R I h
 refine Call_ (fK I l hm boot_enumerate (PyProof.Rows.callWith_type1 (thn (n pos pins s σ H _ I h) fun us s1 ⟨w,H1,d,f,o⟩=>?_) i rfl))
 obtain ⟨a,e,⟨xs,j⟩,q⟩:=o
 subst e
 obtain ⟨u,rfl,g⟩:=gi f
 cases g
 obtain ⟨its,t,pl,hz⟩:=d.list j
 refine call_enumerate_list pl.isList fun h' he hit hsz m=>?_
 refine wpAny_pyIter_enum he ?_
 have r:Inv X pins σ H1 { s1 with heap:=h' }:=d.kept (t':=s1.toks) m
 refine ⟨s1.heap.objs.size+1,[s1.heap.objs.size+1,s1.heap.objs.size],_,_,H1,rfl,r,sV a _ _ (Nat.succ_ne_self _),⟨⟨_,he⟩,hit⟩,fun b v=>?_,q⟩
 have c:s1.heap.objs.size<=b:=by
  grind
 exact d.fpOk c (d.hok.fresh c)
end
end L2
end
section
namespace L2
open PySem PySem.Spec PyProof.Rows
structure Callee (P:Program) (w:World) (K:FG) (mg:Str->Option Value) (base:Heap) (x:Str) (k:Nat) (ps:List Str) (sp:Sp):Prop where
 ex:∃ (f:Addr) (fd:FuncData),FnOk P w K mg base CX0 k f fd ps sp/\mg x=some (.ref f)/\PySem.W.keepIn K (.ref f)=true/\Binds K fd ps []
structure DefAt (K:FG) (mg:Str->Option Value) (x:Str) (st:Stmt) (f:Addr) (fd:FuncData):Prop where
 fn:Fun K x x st f fd
 mg:mg x=some (.ref f)
def Def (K:FG) (mg:Str->Option Value) (x:Str) (st:Stmt):Prop:=∃ f fd,DefAt K mg x st f fd
theorem Def.callee {K:FG} {st:Stmt} {k:Nat} (D:Def K mg x st) (b:∀ (kV doc pm:Value) (an:Option Addr) (a ct:Value) (us:List Value),us.length=ps.length->bindArgs (PySem.W.fnOf x x (aP st) (aH st) (ag st) .none kV doc pm an a ct) ⟨us,[]⟩=pure (ps.zip us)) (h:∀ f fd,Fun K x x st f fd->FnOk P w K mg base CX0 k f fd ps sp):Callee P w K mg base x k ps sp :=
 let ⟨f,fd,d⟩:=D
 ⟨f,fd,h f fd d.fn,d.mg,d.fn.kp,d.fn.binds b⟩
section
variable {X:Cx} {x:Str} {p pos:Pos} {e:Expr} {es:List Expr} {t:TA} {k:Nat} {ps:List Str} {sp:Sp}
def tFn (sp:Sp) (t:TA):TE:=fun σ H Q=>t σ H fun a H1=>sp a H1 Q E0
theorem pe_fn (c:Callee X.prog X.w X.K X.mg X.base x k ps sp) (m:Room k X.A) (i:PA X (e :: es) t) (l:Gl X x:=by rfl) (a:(x == ("__debug__":Str))=false:=by decide)
  (he:starEach (e :: es) X.env=(false,eval e X.env) :: starEach es X.env:=by rfl) (b:(backTo pos (starEach es X.env)).any (·.1)=false:=by rfl):PE X (.Call (.Name x p) (e :: es) [] pos) (tFn sp t):=by
 obtain ⟨f,fd,F,hm,g,j⟩:=c.ex
 have h:=zD (pos:=pos) (p:=p) (dvs:=[]) (E:=E0) F m l hm g j .nil pass0 i a he b
 intro pins s σ H Q I q
 refine h pins s σ H Q I ?_
 show t σ H fun d H1=>sp (d ++ []) H1 Q E0
 have n:t σ H (fun d H1=>sp d H1 Q E0):=q
 simpa using n
end
def But (p:Addr) (H H':Hp):Prop:=∀ b o,H b=some o->b ≠ p->H' b=some o
theorem But.trans (a:But p H H1) (b:But p H1 H2):But p H H2:=fun c o h n=>b c o (a c o h n) n
abbrev Pt:=Int × Int
def aR (p q r:Pt):Int:=(q.1 - p.1) * (r.2 - p.2) - (q.2 - p.2) * (r.1 - p.1)
def Small (p:Pt):Prop:=-(2 ^ 62) < p.1/\p.1 < 2 ^ 62/\-(2 ^ 62) < p.2/\p.2 < 2 ^ 62
def Rising (ps:List Pt):Prop:=∀ (i j:Nat) (p q:Pt),i < j->ps[i]?=some p->ps[j]?=some q->p.1 < q.1
def NoLine (ps:List Pt):Prop:=∀ (i j k:Nat) (p q r:Pt),i < j->j < k->ps[i]?=some p->ps[j]?=some q->ps[k]?=some r->aR p q r ≠ 0
structure GoodSh (ps:List Pt):Prop where
 pos:0 < ps.length
 most:ps.length<=24
 small:∀ p ∈ ps,Small p
 rising:Rising ps
 noline:NoLine ps
theorem Paired.take:∀ {l:List α} {m:List β} (n:Nat),Paired F l m->Paired F (l.take n) (m.take n)
 | _,_,0,_=>by simpa using Paired.nil
 | _,_,_+1,.nil=>by simpa using Paired.nil
 | _,_,n+1,.cons r t=>by simpa using Paired.cons r (Paired.take n t)
def jt:List Pt->List (Pt × Pt)
 | []=>[]
 | p :: r=>r.map (fun q=>(p,q)) ++ jt r
theorem lQ:∀ {ps:List Pt} {i j:Nat} {p q:Pt},i < j->ps[i]?=some p->ps[j]?=some q->(p,q) ∈ jt ps
 | [],_,_,_,_,_,h,_=>by simp at h
 | a :: r,0,0,_,_,h,_,_=>by lia
 | a :: r,0,j+1,p,q,_,h1,h2=>by
  simp at h1 h2;subst h1
  exact Du _ (DF.mpr ⟨q,DD h2,rfl⟩)
 | a :: r,i+1,0,_,_,h,_,_=>by lia
 | a :: r,i+1,j+1,p,q,h,h1,h2=>Dv _ (lQ (ps:=r) (i:=i) (j:=j) (by lia) (by simpa using h1) (by simpa using h2))
theorem oB:∀ {ps:List Pt} {p q:Pt},(p,q) ∈ jt ps->∃ i j:Nat,i < j/\ps[i]?=some p/\ps[j]?=some q
 | [],_,_,h=>by simp [jt] at h
 | a :: r,p,q,h=>by
  rcases Dz.mp h with h | h
  ·obtain ⟨z,hz,e⟩:=DF.mp h
   cases e
   obtain ⟨j,b,e⟩:=List.mem_iff_getElem.mp hz
   exact ⟨0,j+1,by lia,rfl,by simp [b,e]⟩
  ·obtain ⟨i,j,h0,h1,h2⟩:=oB h
   exact ⟨i+1,j+1,by lia,by simpa using h1,by simpa using h2⟩
theorem lN:∀ ps:List Pt,(jt ps).length<=ps.length * ps.length
 | []=>by simp [jt]
 | a :: r=>by
  have b:=lN r
  simp only [jt,DR,DB,DS]
  have:(r.length+1) * (r.length+1)=r.length * r.length+2 * r.length+1:=by
   rw [Nat.add_mul,Nat.mul_add];lia
  lia
def ye (ps:List Pt) (z:Pt):Prop:=∀ (i j:Nat) (p q:Pt),i < j->ps[i]?=some p->ps[j]?=some q->aR p q z ≠ 0
def above (ps:List Pt) (x y:Int):Nat:=((jt ps).filter fun pr=>decide (aR pr.1 pr.2 (x,y)<=0)).length
theorem xI {α:Type} {p q:α->Bool}:∀ {l:List α},(∀ a ∈ l,p a=true->q a=true)->(l.filter p).length<=(l.filter q).length
 | [],_=>by simp
 | a :: l,h=>by
  have d:=xI (l:=l) fun b f=>h b (Dr _ f)
  have g:=h a Dq
  cases c:p a with
  | true=>rw [List.filter_cons_of_pos c,List.filter_cons_of_pos (g c)];simpa using d
  | false =>
   rw [List.filter_cons_of_neg (by simp [c])]
   cases e:q a with
   | true=>rw [List.filter_cons_of_pos e];simp;lia
   | false=>rw [List.filter_cons_of_neg (by simp [e])];exact d
theorem xH {α:Type} {p q:α->Bool}:∀ {l:List α} {z:α},(∀ a ∈ l,p a=true->q a=true)->z ∈ l->q z=true->p z=false->(l.filter p).length < (l.filter q).length
 | [],_,_,hz,_,_=>by simp at hz
 | a :: l,z,h,hz,h1,h2=>by
  have e:∀ b ∈ l,p b=true->q b=true:=fun b g=>h b (Dr _ g)
  rcases Dw.mp hz with rfl | hz
  ·rw [List.filter_cons_of_neg (by simp [h2]),List.filter_cons_of_pos h1]
   have:=xI e
   simp;lia
  ·have d:=xH e hz h1 h2
   have i:=h a Dq
   cases c:p a with
   | true=>rw [List.filter_cons_of_pos c,List.filter_cons_of_pos (i c)];simpa using d
   | false =>
    rw [List.filter_cons_of_neg (by simp [c])]
    cases f:q a with
    | true=>rw [List.filter_cons_of_pos f];simp;lia
    | false=>rw [List.filter_cons_of_neg (by simp [f])];exact d
theorem sJ (p q:Pt) (x y:Int):aR p q (x,y+1)=aR p q (x,y)+(q.1 - p.1):=by
 unfold aR
 grind
theorem xY {x y:Int} (R:Rising ps) {i j:Nat} (a:i < j) (hi:ps[i]?=some p) (c:ps[j]?=some q) (h0:aR p q (x,y)=0):above ps x (y+1) < above ps x y:=by
 refine xH (z:=(p,q)) (fun pr b h=>?_) (lQ a hi c) (by simp [h0]) ?_
 ·obtain ⟨f,d,h',e1,e⟩:=oB (p:=pr.1) (q:=pr.2) b
  have:=R f d _ _ h' e1 e
  have h:=of_decide_eq_true h
  rw [sJ] at h
  exact DM (by lia)
 ·have:=R i j _ _ a hi c
  show decide (aR p q (x,y+1)<=0)=false
  rw [sJ,h0]
  exact DN (by lia)
theorem xZ (ps:List Pt) (x y:Int):above ps x y<=ps.length * ps.length:=Ed (List.length_filter_le _ _) (lN ps)
theorem cz {α:Type} {l:List α} {z a:α} {i:Nat} (h:(l ++ [z])[i]?=some a):(l[i]?=some a/\i < l.length)\/(a=z/\i=l.length):=by grind
theorem Rising.snoc (R:Rising ps) (h:∀ p ∈ ps,p.1 < z.1):Rising (ps ++ [z]):=fun i j p q a h1 h2=>by
 rcases cz h1 with ⟨a1,b1⟩ | ⟨rfl,b1⟩
 ·rcases cz h2 with ⟨a2,b2⟩ | ⟨rfl,b2⟩
  ·exact R i j p q a a1 a2
  ·exact h p (DD a1)
 ·rcases cz h2 with ⟨a2,b2⟩ | ⟨rfl,b2⟩
  ·lia
  ·lia
theorem NoLine.snoc (N:NoLine ps) (F:ye ps z):NoLine (ps ++ [z]):=fun i j k p q r a c h1 h2 h3=>by
 rcases cz h1 with ⟨a1,b1⟩ | ⟨rfl,b1⟩
 ·rcases cz h2 with ⟨a2,b2⟩ | ⟨rfl,b2⟩
  ·rcases cz h3 with ⟨a3,b⟩ | ⟨rfl,b⟩
   ·exact N i j k p q r a c a1 a2 a3
   ·exact F i j p q a a1 a2
  ·rcases cz h3 with ⟨a3,b⟩ | ⟨rfl,b⟩ <;> lia
 ·rcases cz h2 with ⟨a2,b2⟩ | ⟨rfl,b2⟩ <;> lia
def gJ (a b c:Int) (p:Pt):Pt:=(a * p.1+c,b * p.2)
theorem qX (a b c:Int) (p q r:Pt):aR (gJ a b c p) (gJ a b c q) (gJ a b c r)=(a * b) * aR p q r:=by
 unfold aR gJ
 grind
theorem Rising.scale {a b c:Int} (h:0 < a) (R:Rising ps):Rising (ps.map (gJ a b c)):=fun i j p q d h1 h2=>by
 rw [DG] at h1 h2
 obtain ⟨f,e1,rfl⟩:=Dt.mp h1
 obtain ⟨e,g,rfl⟩:=Dt.mp h2
 have:=R i j f e d e1 g
 have h3:a * f.1 < a * e.1:=Int.mul_lt_mul_of_pos_left this h
 show a * f.1+c < a * e.1+c
 lia
theorem NoLine.scale {a b c:Int} (n:0 < a) (o:0 < b) (N:NoLine ps):NoLine (ps.map (gJ a b c)):=fun i j k p q r e d h1 h2 h3=>by
 rw [DG] at h1 h2 h3
 obtain ⟨g,e1,rfl⟩:=Dt.mp h1
 obtain ⟨l,f,rfl⟩:=Dt.mp h2
 obtain ⟨m,h,rfl⟩:=Dt.mp h3
 rw [qX]
 exact Int.mul_ne_zero (Int.mul_ne_zero (by lia) (by lia)) (N i j k g l m e d e1 f h)
section InBlock
variable {X:Cx} {NY:List Str} {scope:Scope} {s:Shared} {H:Hp} {C:Addr} {fp:List Addr}
end InBlock
end L2
end
section
namespace L2
open PySem PySem.Spec PyProof.Rows
mutual
inductive DV (K:FG) (H:Hp):V->PyData->Prop
 | non:DV K H .non .none
 | bl (b:Bool):DV K H (.bl b) (.bool b)
 | int (i:Int):DV K H (.int i) (.int i)
 | str (x:Str):DV K H (.str x) (.str x)
 | tup {a:Addr} {xs:List V} {ds:List PyData}:SqT K H a xs->DVs K H xs ds->DV K H (.ref a) (.tuple ds)
 | lst {a:Addr} {xs:List V} {ds:List PyData}:SqL K H a xs->DVs K H xs ds->DV K H (.ref a) (.list ds)
inductive DVs (K:FG) (H:Hp):List V->List PyData->Prop
 | nil:DVs K H [] []
 | cons {x:V} {d:PyData} {xs:List V} {ds:List PyData}:DV K H x d->DVs K H xs ds->DVs K H (x :: xs) (d :: ds)
end
section
variable {X:Cx} {pins:List (Addr × Obj)} {σ:St} {H:Hp} {s:Shared}
mutual
theorem DV.reads (I:Inv X pins σ H s):∀ {v:V} {d:PyData} {u:Value},DV X.K H v d->RelV v u->∃ as,Reads s.heap u d as
 | _,_,u,.non,r=>by cases (show u=Value.none from r);exact ⟨_,.none⟩
 | _,_,u,.bl b,r=>by cases (show u=Value.bool b from r);exact ⟨_,.bool b⟩
 | _,_,u,.int i,r=>by obtain ⟨t,rfl⟩:=r;exact ⟨_,.int i t⟩
 | _,_,u,.str x,r=>by obtain ⟨t,rfl⟩:=r;exact ⟨_,.str x t⟩
 | _,_,u,.tup (a:=a) h rs,r=>by
  cases (show u=Value.ref a from r)
  obtain ⟨its,f,⟨o,e,c,n,d⟩,_⟩:=I.tuple h
  obtain ⟨as,q⟩:=DVs.reads I rs f
  exact ⟨_,.tuple e c d (by simpa using q)⟩
 | _,_,u,.lst (a:=a) h rs,r=>by
  cases (show u=Value.ref a from r)
  obtain ⟨its,f,⟨o,n,e,c,_,d⟩,_⟩:=I.list h
  obtain ⟨as,q⟩:=DVs.reads I rs f
  exact ⟨_,.list e c d (by simpa using q)⟩
theorem DVs.reads (I:Inv X pins σ H s):∀ {v:List V} {d:List PyData} {us:List Value},DVs X.K H v d->Vals v us->∃ as,ReadsAll s.heap us d as
 | _,_,_,.nil,.nil=>⟨_,.nil⟩
 | _,_,_,.cons h r,.cons q t=>by
  obtain ⟨as,e1⟩:=DV.reads I h q
  obtain ⟨bs,a⟩:=DVs.reads I r t
  exact ⟨_,.cons e1 a⟩
end
end
end L2
end
section
namespace L2
open PySem PySem.Spec PyProof.Rows
end L2
end
section
namespace L2
open PySem PySem.Spec PyProof.Rows
end L2
end
section
namespace L2
open PySem PySem.Spec PyProof.Rows
end L2
end
section
namespace L2
open PySem PySem.Spec PyProof.Rows
end L2
end
section
namespace L2
open PySem PySem.Spec PyProof.Rows
section
variable {X:Cx}
theorem Ab (r:Vals (ns.map V.int) us):∃ xs:Array (Int × Tok),us.toArray=intItems xs/\ns=xs.toList.map (·.1):=by
 induction ns generalizing us with
 | nil=>cases r;exact ⟨#[],by simp [intItems],rfl⟩
 | cons n ns ih =>
  cases r with
  | cons q t =>
   obtain ⟨k,rfl⟩:=q
   obtain ⟨xs,e1,b⟩:=ih t
   refine ⟨((n,k) :: xs.toList).toArray,?_,by simp [b]⟩
   have a:=congrArg Array.toList e1
   simp only [intItems,List.toList_toArray,Array.toList_map] at a
   simp [intItems,a]
theorem tQ {i:Nat} (h:i < xs.size):numAt xs i ∈ xs.toList.map (·.1):=by
 have e:(xs.toList.map (·.1))[i]?=some (numAt xs i):=by simp [numAt,h]
 exact DD e
theorem tX {n:Int} (h:n ∈ xs.toList.map (·.1)):∃ i,i < xs.size/\numAt xs i=n:=by
 obtain ⟨i,hi,e⟩:=List.mem_iff_getElem.mp h
 have a:i < xs.size:=by simpa using hi
 refine ⟨i,a,?_⟩
 rw [<- e]
 simp [numAt,a]
end
end L2
end
section
namespace L2
open PySem PySem.Spec PyProof.Rows
def AZ (b:Option (Int × Tok)):Array Value:=match b with | none=>#[] | some p=>#[.int p.1 p.2,.int p.1 p.2]
def nB (xs:Array (Int × Tok)) (j:Nat) (b:Option (Int × Tok)):Prop:=match b with
 | none=>j=0
 | some p=>(∃ i,i < j/\numAt xs i=p.1)/\∀ i,i < j->numAt xs i<=p.1
section
variable {prog:Program} {w:World} {A:Around} {R:Result->Shared->Prop}
theorem tY (W:A.handled=none) (E:l ≠ I) (m:S ≠ I) (J:S ≠ l) (xs:Array (Int × Tok)) (d:Value):∀ (k j:Nat) (s:Shared) (b:Option (Int × Tok)) (c:Nat),xs.size - j=k->j<=xs.size->s.heap.IsListIter I l j->s.heap.IsList l (intItems xs) ->
  s.heap.get? S=some { cls:=.type "list",dict:=none,data:=.seq (AZ b) c,slots:=#[] }->nB xs j b ->
  (∀ v h' tk,((xs.size=0/\v=d)\/∃ p:Int × Tok,v=.int p.1 p.2/\nB xs xs.size (some p))->(∀ a o,a ≠ I->a ≠ S->s.heap.get? a=some o->h'.get? a=some o)->R (.ok (.ret v)) { s with heap:=h',toks:=tk }) ->
  codeAny (model prog w) A (.builtin "max.loop" ⟨[.ref I,.none,.ref S],[("default",d)]⟩) R s:=by
 have nm:(toString "max" ++ toString ".loop":String) = "max.loop":=by decide
 intro k
 induction k with
 | zero =>
  intro j s b c V T hit C u y fin
  obtain rfl:j=xs.size:=by lia
  refine codeAny_builtin F.entry_max_loop ?_
  rw [Around.under_plainId F.plain_max_loop _]
  show wpAny _ A.in1 (seqItems? (.ref S) >>= _) _ _ s
  refine Dm (wpAny_seqItems u rfl ?_)
  show wpAny _ A.in1 (tryCatch (pyNext (.ref I)) _ >>= _) _ _ s
  refine Dm (wpAny_tryCatch (wpAny_pyNext_list_end (show A.in1.handled=none from W) hit C (by simp [intItems]) fun h' N=>?_))
  cases b with
  | none =>
   have h0:xs.size=0:=y
   show wpAny _ A.in1 (rule _ >>= fun _=>ret d) _ _ _
   exact Dm (wpAny_rule (Dn (fin d h' s.toks (.inl ⟨h0,rfl⟩) fun a o g _ e=>N a o g e)))
  | some p =>
   have f:=N S _ m u
   show wpAny _ A.in1 (updateSeq S (fun _=>#[]) >>= _) _ _ _
   refine Dm (wpAny_updateSeq f rfl (Dm (wpAny_letGo (Dn ?_))) (hz:=by show 2<=sizeLine;decide))
   exact fin _ _ s.toks (.inr ⟨p,rfl,y⟩) fun a o g B e=>(Ea _ _ (Ne.symm B)).trans (N a o g e)
 | succ k ih =>
  intro j s b c V T hit C u y fin
  have r:j < xs.size:=by lia
  obtain ⟨x,O⟩:∃ x,xs[j]?=some x:=⟨xs[j],by simp [r]⟩
  have Q:(intItems xs)[j]?=some (.int x.1 x.2):=by simp [intItems,O]
  have h:numAt xs j=x.1:=by simp [numAt,O]
  refine codeAny_builtin F.entry_max_loop ?_
  rw [Around.under_plainId F.plain_max_loop _]
  show wpAny _ A.in1 (seqItems? (.ref S) >>= _) _ _ s
  refine Dm (wpAny_seqItems u rfl ?_)
  show wpAny _ A.in1 (tryCatch (pyNext (.ref I)) _ >>= _) _ _ s
  refine Dm (wpAny_tryCatch (wpAny_pyNext_list_item hit C Q fun h' t sb=>?_))
  have f:h'.get? S=_:=(sb.2 S m).trans u
  have H:h'.IsList l (intItems xs):=C.at fun o e=>(sb.2 l E).trans e
  have on:∀ (h2:Heap) (tk:Nat) (z:Option (Int × Tok)) (D:Nat),(∀ a o,a ≠ S->h'.get? a=some o->h2.get? a=some o)->h2.get? S=some { cls:=.type "list",dict:=none,data:=.seq (AZ z) D,slots:=#[] }->nB xs (j+1) z ->
    codeAny (model prog w) A (.builtin "max.loop" ⟨[.ref I,.none,.ref S],[("default",d)]⟩) R { s with heap:=h2,toks:=tk }:=fun h2 tk z D k2 K L =>
   ih (j+1) _ z D (by lia) r (t.at fun o e=>k2 I o (Ne.symm m) e) (H.at fun o e=>k2 l o (Ne.symm J) e) K L fun v h3 M G k3=>fin v h3 M G fun a o g B e=>k3 a o g B (k2 a o B ((sb.2 a g).trans e))
  cases b with
  | none =>
   have h0:j=0:=y
   show wpAny _ A.in1 (updateSeq S (fun _=>#[.int x.1 x.2,.int x.1 x.2]) >>= _) _ _ _
   refine Dm (wpAny_updateSeq f rfl ?_)
   rw [nm]
   refine Dn ⟨plainId_quiet F.plain_max_loop _,on _ s.toks (some x) _ (fun a o g e=>(Ea _ _ (Ne.symm g)).trans e) (DQ _ f rfl) ⟨⟨j,by lia,h⟩,fun i hi=>?_⟩⟩
   obtain rfl:i=j:=by lia
   lia
  | some p =>
   obtain ⟨⟨U,X,P⟩,hle⟩:=y
   show wpAny _ A.in1 (tryCatch (holding [.int x.1 x.2,.int x.1 x.2] (richCompare .Gt (.int x.1 x.2) (.int p.1 p.2) >>= _)) _ >>= _) _ _ _
   refine Dm (wpAny_tryCatch (Dp (Dm ?_)))
   refine (gt_int (a:=x.1) (b:=p.1) ?_:wpAny (model prog w) A.in1 (compareOp .Gt (.int x.1 x.2) (.int p.1 p.2)) _ _ _)
   refine Dm (Dp (Ec (Dm (wpAny_letGo (Dn ?_)))))
   by_cases q:p.1 < x.1
   ·rw [DM q,if_pos rfl]
    refine Dm (wpAny_updateSeq f rfl (Dm (wpAny_letGo ?_)) (hz:=by show 2<=sizeLine;decide))
    rw [nm]
    refine Dn ⟨plainId_quiet F.plain_max_loop _,on _ s.toks (some x) _ (fun a o g e=>(Ea _ _ (Ne.symm g)).trans e) (DQ _ f rfl) ⟨⟨j,by lia,h⟩,fun i hi=>?_⟩⟩
    by_cases n:i=j
    ·subst n;lia
    ·have:=hle i (by lia);lia
   ·rw [DN q,if_neg DI]
    refine Dm (wpAny_letGo ?_)
    rw [nm]
    refine Dn ⟨plainId_quiet F.plain_max_loop _,on h' s.toks (some p) c (fun a o _ e=>e) f ⟨⟨U,by lia,P⟩,fun i hi=>?_⟩⟩
    by_cases n:i=j
    ·subst n;lia
    ·exact hle i (by lia)
end
end L2
end
section
namespace L2
open PySem PySem.Spec PyProof.Rows
end L2
end
section
namespace L2
open PySem PySem.Spec PyProof.Rows
end L2
end
section
namespace L2
open PySem PySem.Spec PyProof.Rows
section
variable {prog:Program} {w:World} {A:Around} {E:Value->Shared->Prop} {s:Shared}
theorem gh {id:String} (h:builtinKind id=none) (i:plainId id=true) (g:entryFor table id=some b) (d:argsOk id ⟨args,kw⟩) (c:wpAny (model prog w) A.in1 (b ⟨args,kw⟩) (fun fin s'=>match fin with
   | .done f=>(match (Except.ok f:Result) with | .ok (.ret v)=>Q v s' | .ok _=>False | .error e=>E e s')
   | .again c'=>c'.quiet=true/\codeAny (model prog w) A c' (fun r s'=>match r with | .ok (.ret v)=>Q v s' | .ok _=>False | .error e=>E e s') s') E s) :
  wpAny (model prog w) A (call (.builtin id) args kw) Q E s:=by
 refine wpAny_call (codeAny_call_builtin i g ?_)
 simp only [checkBuiltinCall,h]
 cases a:Manifest.signature? id with
 | none=>exact Dn c
 | some sig =>
  simp only [argsOk,a] at d
  have h2:Bind.checkArgs id sig ⟨args,kw⟩=pure ():=d
  show wpAny _ A.in1 (Bind.checkArgs id sig ⟨args,kw⟩) _ _ s
  rw [h2];exact Dn c
theorem uG (a d:Value):argsOk "max" ⟨[a],[("default",d)]⟩:=by unfold argsOk;kernel_rfl
theorem uA (j:A.handled=none) (g:s.heap.IsList l (intItems xs)) (h:∀ v h' tk,((xs.size=0/\v=d)\/∃ p:Int × Tok,v=.int p.1 p.2/\nB xs xs.size (some p))->(∀ b o,s.heap.get? b=some o->h'.get? b=some o)->Q v { s with heap:=h',toks:=tk }) :
  wpAny (model prog w) A (call (.builtin "max") [.ref l] [("default",d)]) Q E s:=by
 have a:(toString "max" ++ toString ".loop":String) = "max.loop":=by decide
 refine gh F.kind_max F.plain_max F.entry_max (uG _ _) ?_
 show wpAny _ A.in1 (Builtin.Builtins.bindParams "max" ["key","default"] 0 ⟨[],[("default",d)]⟩ >>= _) _ _ s
 refine Dm (wpAny_of_eq (show Builtin.Builtins.bindParams "max" ["key","default"] 0 ⟨[],[("default",d)]⟩=pure [none,some d] from rfl) ?_)
 refine Dm (Dn ?_)
 refine Dm (iter_intList g fun n e st m c=>?_)
 subst e
 refine Dm (wpAny_newObj_type ?_)
 rw [a]
 have f:l < s.heap.objs.size:=by obtain ⟨_,e,_⟩:=g;exact Dy e
 have hsz:(s.heap.push { cls:=.type "list_iterator",data:=.fields #[.ref l,.int 0 0] }).objs.size=s.heap.objs.size+1:=Eb _ _
 have a1:(s.heap.push { cls:=.type "list_iterator",data:=.fields #[.ref l,.int 0 0] }).objs.size ≠ s.heap.objs.size:=by rw [hsz];exact Nat.succ_ne_self _
 have a2:(s.heap.push { cls:=.type "list_iterator",data:=.fields #[.ref l,.int 0 0] }).objs.size ≠ l:=by rw [hsz];exact Nat.ne_of_gt (Nat.lt_succ_of_lt f)
 refine Dn ⟨plainId_quiet F.plain_max_loop _,tY (A:=A) j c a1 a2 xs d xs.size 0 _ none 0 (by lia) (by lia)
  (st.1.at fun o e=>Ds _ e) (st.2.at fun o e=>Ds _ e) (DA _ rfl) rfl fun v h' tk k i=>?_⟩
 refine h v h' tk k fun b o e=>i b o (fun q=>?_) (fun q=>?_) (Ds _ (Ds _ e))
 ·exact absurd q (DJ (Dy e))
 ·exact absurd (q.trans hsz) (DJ (Nat.lt_succ_of_lt (Dy e)))
end
section
variable {X:Cx}
theorem kS {xs:Array (Int × Tok)} (e:ns=xs.toList.map (·.1)):xs.size=0 ↔ ns=[]:=by
 rw [e];simp
def rM (K:FG) (P:List Int->Int->Prop) (x d:V) (H:Hp) (Q:VK):Prop:=∃ (l:Addr) (ns:List Int),x=.ref l/\SqL K H l (ns.map V.int)/\(ns=[]->Q d H)/\∀ m,m ∈ ns->P ns m->Q (.int m) H
theorem vx (k:X.calm=true) (I:Inv X pins σ H s) (g:RelV x u) (y:RelV d ud) (h:rM X.K (fun ns m=>∀ n ∈ ns,n<=m) x d H Q) :
  wpAny (model X.prog X.w) X.A (call (.builtin "max") [u] [("default",ud)]) (EP X pins σ Q) X.xe s:=by
 obtain ⟨l,ns,rfl,e,h0,h1⟩:=h
 cases (show u=Value.ref l from g)
 obtain ⟨its,t,p,hz⟩:=I.list e
 obtain ⟨ys,e1,a⟩:=Ab t
 have pl:=p.isList
 rw [e1] at pl
 refine uA (I.ok.hd k) pl fun v h' tk o b=>?_
 rcases o with ⟨c,rfl⟩ | ⟨q,rfl,⟨⟨i,hi,f⟩,hle⟩⟩
 ·exact ⟨d,H,I.kept b,y,h0 ((kS a).mp c)⟩
 ·refine ⟨.int q.1,H,I.kept b,⟨q.2,rfl⟩,h1 _ (by rw [a,<- f];exact tQ hi) fun n hm=>?_⟩
  rw [a] at hm
  obtain ⟨j,r,rfl⟩:=tX hm
  exact hle j r
def tKw1 (r:V->V->Hp->VK->Prop) (te a:TE):TE:=fun σ H Q=>te σ H fun x H1=>a σ H1 fun d H2=>r x d H2 Q
theorem Cg {id:String} (b:∀ {pins:List (Addr × Obj)} {s:Shared} {σ:St} {H:Hp} {x d:V} {u m:Value} {Q:VK},Inv X pins σ H s->RelV x u->RelV d m->r x d H Q->wpAny (model X.prog X.w) X.A (call (.builtin id) [u] [("default",m)]) (EP X pins σ Q) X.xe s) (q:Gl X nm) (hm:X.mg nm=none) (t:bootBuiltins nm=some (.builtin id)) (he:PE X e te) (hd:PE X d td) (D:nm ≠ "__name__") (g:(nm == ("__debug__":Str))=false) (n:backTo pos (starEach [e] X.env)=(false,eval e X.env) :: backTo pos (starEach [] X.env)) (f:backTo pos (starEach [] X.env)=[]) (a:(backTo pos (starEach [e] X.env)).any (·.1)=false) (c:(backToKw pos (keywordEach [⟨some "default",d,kpos⟩] X.env)).all (·.1.isSome)=true) (i:(backToKw pos (keywordEach [⟨some "default",d,kpos⟩] X.env)).any (·.1.isNone)=false) (j:(backToKw pos (keywordEach [⟨some "default",d,kpos⟩] X.env)).filterMap (·.1)=(["default"]:List Str)) :
  PE X (.Call (.Name nm p) [e] [⟨some "default",d,kpos⟩] pos) (tKw1 r te td):=by
 intro pins s σ H Q I h
 refine wpAny_Call_Name_kw (fK I q hm t ?_ D g)
 refine PyProof.Rows.callWith_kw ?_ n a c i
 rw [n,f]
 refine Calls.spliced_cons (thn (he pins s σ H _ I h) fun u s1 ⟨x,H1,v,o,y⟩=>Calls.spliced_nil ?_)
 refine thn (zv (nm:=some "default") (kpos:=kpos) hd B7 pos pins s1 σ H1 (fun C H2=>match C with | [d]=>r x d H2 Q | _=>False) v y) fun us s2 ⟨xs,H2,B,l,k⟩=>?_
 match xs,k,l with
 | [d'],k,l =>
  rw [j]
  obtain ⟨m,rfl,z⟩:=gi l
  exact b B o z k
end
end L2
end
section
namespace L2
open PySem PySem.Spec PyProof.Rows
end L2
end
section
namespace PySem
open Sem (wp)
def RawAt (h:Heap) (d:Addr) (es:Array DictEntry) (a:Nat):Prop:=∃ o,h.get? d=some o/\o.ExactDict/\o.data=.dict es a
section
variable {prog:Program} {w:World} {A:Around} {E:Value->Shared->Prop} {s:Shared}
theorem RawAt.typeIs {a:Nat} (x:RawAt s.heap d es a):s.TypeIs (.ref d) "dict":=let ⟨o,c,b,_⟩:=x;⟨o,c,b.1⟩
theorem om {i a:Nat} (hit:s.heap.IsKeyIter it d i es.size a) (hm:RawAt s.heap d es a) (f:i < es.size) (e:∀ h',h'.IsKeyIter it d (i+1) es.size a->Heap.SameBut it s.heap h'->Q (some es[i].key) { s with heap:=h' }) :
  wpAny (model prog w) A (pyNext (.ref it)) Q E s:=by
 have ty:=hit.typeIs
 obtain ⟨⟨c1,d1,j,s1⟩,h1,e1,b⟩:=hit
 obtain ⟨⟨c2,d2,l,s2⟩,h2,_,c⟩:=hm
 obtain ⟨k,g,h,tk,os⟩:=s
 simp only at e1 b c
 subst e1 b c
 have hi:(if (i:Int) < 0 then none else es[(i:Int).toNat]?)=some es[i]:=by simp [f]
 unfold pyNext
 refine Dm (wpAny_attempt (wpAny_callSpecial?_slot ty F.slot_dict_keyiterator_next
  (wpAny_call_entry F.slot_dict_keyiterator_next ty F.entry_dict_keyiterator_next ?_ (F.args_dict_keyiterator_next_1 _))))
 wp_walk
 rw [hi]
 wp_walk
 exact ⟨_,rfl,Dn (e _ ⟨_,DQ _ h1 rfl,rfl,rfl⟩ (Heap.SameBut.update ..))⟩
theorem qf {i c:Nat} (h:A.handled=none) (hit:s.heap.IsKeyIter it d i es.size c) (hm:RawAt s.heap d es c) (k:es.size<=i) (j:∀ h',Heap.ExtBut it s.heap h'->Q none { s with heap:=h' }):wpAny (model prog w) A (pyNext (.ref it)) Q E s:=by
 have ty:=hit.typeIs
 obtain ⟨⟨c1,d1,m,s1⟩,h1,e1,e⟩:=hit
 obtain ⟨⟨c2,d2,o,s2⟩,h2,_,f⟩:=hm
 obtain ⟨n,g,l,tk,os⟩:=s
 simp only at e1 e f
 subst e1 e f
 have hi:(if (i:Int) < 0 then none else es[(i:Int).toNat]?)=none:=by simp [k]
 have a:A.in1.handled=none:=h
 unfold pyNext
 refine Dm (wpAny_attempt (wpAny_callSpecial?_slot ty F.slot_dict_keyiterator_next
  (wpAny_call_entry F.slot_dict_keyiterator_next ty F.entry_dict_keyiterator_next ?_ (F.args_dict_keyiterator_next_1 _))))
 wp_walk
 rw [hi]
 wp_walk
 refine wpAny_raiseNew_none a ?_
 refine Dm (wpAny_isInstance (v:=.ref _) (T:="StopIteration") (b:=true) ?_ isSubtype_stop ?_)
 ·exact ⟨_,DA _ rfl,rfl⟩
 ·exact Dn (j _ (((Heap.SameBut.update ..).extBut.push _).push _))
theorem mI {a:Nat} (hd:(d == sysModules)=false) (hm:RawAt s.heap d es a) (e:Q (.ref s.heap.objs.size) { s with heap:=s.heap.push { cls:=.type "dict_keyiterator",data:=.fields #[.ref d,.int 0 0,.int es.size 0,.int a 0] } }) :
  wpAny (model prog w) A (pyIter (.ref d)) Q E s:=by
 have ty:=hm.typeIs
 obtain ⟨⟨c2,d2,j,s2⟩,h2,f,b⟩:=hm
 obtain ⟨i,g,h,tk,os⟩:=s
 obtain ⟨c,_⟩:=f
 simp only at b c
 subst b c
 refine wpAny_pyIter_slot ty F.slot_dict_iter (wpAny_call_entry F.slot_dict_iter ty F.entry_dict_iter ?_ (F.args_dict_iter_1 _))
 wp_walk
 exact ⟨_,rfl,"dict_keyiterator",_,⟨_,DA _ rfl,rfl⟩,F.slot_dict_keyiterator_next.lookup,e⟩
end
end PySem
end
section
namespace L2
open PySem PySem.Spec PyProof.Rows
theorem kh:∀ {c:List α} {d:List β},Paired F c d->∀ {i:Nat} {a:α},c[i]?=some a->∃ b,d[i]?=some b/\F a b
 | _,_,.nil,i,a,h=>by simp at h
 | _,_,.cons r t,0,a,h=>by
  simp only [List.getElem?_cons_zero,Option.some.injEq] at h
  subst h
  exact ⟨_,rfl,r⟩
 | _,_,.cons r t,i+1,a,h=>by
  simp only [List.getElem?_cons_succ] at h
  exact kh t h
theorem Rd.dT_inj (h:Rd H a (.dT x)) (h':Rd H a (.dT y)):x=y:=by
 rcases h with h | ⟨o,h⟩ <;> rcases h' with h' | ⟨o',h'⟩ <;> rw [h] at h' <;> cases h' <;> rfl
section
variable {P:Program} {w:World} {H:Hp} {h:Heap} {a:Addr}
theorem qK (ok:HOk P w H h) (e:Rd H a (.dT kvs)):(a == sysModules)=false/\∃ es:Array DictEntry,RawAt h a es es.size/\es.size=kvs.length /\
  ∀ i (hi:i < es.size) c,kvs[i]?=some c->∃ b,es[i].key=.ref b/\H b=some (.tup (c.1.map kV))/\RelV c.2 es[i].val:=by
 obtain ⟨z,y,xs,r,o,es,m,h1,h2,h3,f,p,n,rfl⟩:=qJ ok e
 have k:es.size=xs.length:=by rw [<- Array.length_toList,f,DB]
 refine ⟨y,es,⟨o,h1,h2,h3⟩,by rw [k,<- Paired.length r],fun i hi c g=>?_⟩
 obtain ⟨q,l,f1,f2,j⟩:=kh r g
 have s:es.toList[i]?=some (entryOfKey (tupleKind (aY P w)) q):=by rw [f,DG,l];rfl
 have d:es[i]=entryOfKey (tupleKind (aY P w)) q:=by
  grind
 rw [d]
 exact ⟨q.2.1,rfl,f2,j⟩
end
def Itk (a:Addr) (n:Nat):It:=⟨fun i H=>∃ kvs,Rd H a (.dT kvs)/\kvs.length=n/\i < n,
 fun i H x H'=>H'=H/\∀ kvs c,Rd H a (.dT kvs)->kvs[i]?=some c->∃ b,x=.ref b/\H b=some (.tup (c.1.map kV)),fun i H=>∃ kvs,Rd H a (.dT kvs)/\kvs.length=n/\n<=i⟩
theorem sU {P:Program} {w:World} {K:FG} {tg:Expr} (a it:Addr) (n:Nat):Turn P w K tg (Itk a n) [it] it (fun i h=>h.IsKeyIter it a i n n) where
 mem:=by simp
 obj:=fun i h st b f=>by
  have e:b=it:=by simpa using f
  subst e
  obtain ⟨o,e,c,d⟩:=st
  exact ⟨o,e,fun v z=>by rw [d] at z;cases z⟩
 keep:=fun i h h' st k=>st.at fun o e=>k it (by simp) o e
 item:=by
  intro X p hw t C i pins s σ H E I hf st q
  subst p hw t
  obtain ⟨kvs,m,J,hi⟩:=q
  obtain ⟨y,es,raw,sz,ent⟩:=qK I.hok m
  obtain rfl:n=es.size:=by lia
  obtain ⟨f0,f1,f2,u,f4,A⟩:=hf it (by simp)
  obtain ⟨r,g⟩:∃ r,kvs[i]?=some r:=⟨kvs[i]'(by lia),Dx _⟩
  obtain ⟨b,b1,b2,L⟩:=ent i hi r g
  refine om st raw hi fun h' j sb=>?_
  have D:Inv X pins σ H { s with heap:=h' }:=I.turned (t':=s.toks) (fun b o f e=>(sb.2 b f).trans e) f0 f1 u f4 A
  obtain ⟨o,e,c,d⟩:=id j
  refine ⟨_,rfl,sk (s:={ s with heap:=h' }) e c d (by decide) ⟨.ref b,H,D,b1,⟨rfl,fun B G x l=>?_⟩,j,fun b f=>(hf b f).1⟩⟩
  rw [x.dT_inj m,g] at l
  cases l
  exact ⟨b,rfl,b2⟩
 done:=by
  intro X p hw t C i pins s σ H E I hf st q
  subst p hw t
  obtain ⟨kvs,m,J,hi⟩:=q
  obtain ⟨y,es,raw,sz,ent⟩:=qK I.hok m
  obtain rfl:n=es.size:=by lia
  obtain ⟨f0,f1,f2,u,f4,A⟩:=hf it (by simp)
  exact qf (I.ok.hd C) st raw hi fun h' F=>⟨rfl,I.turned (t':=s.toks) (fun b o f e=>F b o f e) f0 f1 u f4 A⟩
 self:=fun _ _ _ _ _ st h=>wpAny_pyIter_keyiter st h
def AW (tl:TE):TI:=fun σ H R=>tl σ H fun x H1=>∃ a kvs,x=.ref a/\Rd H1 a (.dT kvs)/\R (Itk a kvs.length) H1
theorem zx (f:PE X l tl):PI X tg l (AW tl):=by
 intro pins s σ H R I h
 exact thn (f pins s σ H _ I h) fun v s1 ⟨x,H1,c,d,i⟩=>by
  obtain ⟨a,kvs,e,g,q⟩:=i
  subst e
  cases d
  obtain ⟨y,es,raw,sz,ent⟩:=qK c.hok g
  refine mI y raw ?_
  refine ⟨s1.heap.objs.size,[s1.heap.objs.size],_,_,H1,rfl,c.kept (t':=s1.toks) fun b o e=>Ds _ e,sU a _ kvs.length,⟨_,DA _ rfl,rfl,by rw [sz];rfl⟩,fun b j=>?_,q⟩
  have e:b=s1.heap.objs.size:=by simpa using j
  subst e
  exact c.fpOk (DH _) (c.hok.fresh (DH _))
end L2
end
section
namespace L2
open PySem PySem.Spec PyProof.Rows
def IsPair (h:Heap) (b:Addr) (n:Int × Int):Prop:=∃ o t u m,h.get? b=some o/\o.cls=.type "tuple"/\o.data=.seq #[.int n.1 t,.int n.2 u] m
end L2
end
section
namespace L2
open PySem PySem.Spec PyProof.Rows
end L2
end
section
namespace PyProof.Rows
open PySem
end PyProof.Rows
end
section
namespace L2
open PySem PySem.Spec PyProof.Rows
theorem ik:∀ {us:List Value} {ns:List Int},IntsAre us ns->Vals (ns.map V.int) us
 | _,_,.nil=>.nil
 | _,_,.cons n t h=>.cons ⟨t,rfl⟩ (ik h)
end L2
end
section
namespace L2
open PySem PySem.Spec PyProof.Rows
end L2
end
section
namespace L2
open PySem PySem.Spec PyProof.Rows
def IsNts (h:Heap) (b:Addr) (n:List Int):Prop:=∃ it:Array Value,IsTup h b it/\IntsAre it.toList n
end L2
end
section
namespace L2
open PySem PySem.Spec PyProof.Rows
abbrev aO (f:Bool):SortKind:=(sortPriv% PySem.Builtin.KeyKind.tuples) f
section
variable {prog:Program} {w:World} {A:Around} {E:Value->Shared->Prop} {s:Shared}
theorem qo (f:Bool) {a b:Int} (h:Q (decide (a < b)) s):wpAny (model prog w) A (oneLt' f (.int a t) (.int b u)) Q E s:=by
 cases f with
 | true=>exact oneLt_int h
 | false =>
  rw [oneLt'_eq]
  simp only [DY,if_false]
  refine Dm (HT.rcLt_int A s a t b u prog w E _ ?_)
  exact Ec h
theorem lS (f:Bool) (n m:Nat) {k:Option Bool × Unit->Sem Bool} (l:∀ p q i c,g ((p,q),i) c=(do
          let b <- eqBool p q
          if (!b)=true then do
            let r <- oneLt' (f && i == 0) p q
            pure (ForInStep.done (some r,()))
          else pure (ForInStep.yield (none,())))) (h:∀ b,k (some b,())=pure b) (d:k (none,())=pure (decide (n < m))):∀ (j ws:List Value) (ns ms:List Int) (i:Nat),IntsAre j ns->IntsAre ws ms->ns.length+m=ms.length+n->Q (HT.lexLt ns ms) s ->
    wpAny (model prog w) A (forIn ((j.zip ws).zipIdx i) ((none,()):Option Bool × Unit) g) (fun r s'=>wpAny (model prog w) A (k r) Q E s') E s
  | [],ws,ns,ms,i,h1,h2,hl,q=>by
    cases h1
    have e:HT.lexLt [] ms=decide (n < m):=by
      cases ms with
      | nil=>simp at hl;rw [HT.lexLt_nil_nil];exact (DN (by lia)).symm
      | cons a ms=>simp at hl;rw [HT.lexLt_nil_cons];exact (DM (by lia)).symm
    rw [e] at q
    rw [List.zip_nil_left]
    simp only [List.zipIdx_nil,List.forIn_nil]
    refine Dn ?_
    rw [d]
    exact Dn q
  | v :: j,[],ns,ms,i,h1,h2,hl,q=>by
    cases h2
    cases h1 with
    | cons a t h1 =>
    rename_i ns
    have e:HT.lexLt (a :: ns) []=decide (n < m):=by
      simp at hl;rw [HT.lexLt_cons_nil];exact (DN (by lia)).symm
    rw [e] at q
    rw [List.zip_nil_right]
    simp only [List.zipIdx_nil,List.forIn_nil]
    refine Dn ?_
    rw [d]
    exact Dn q
  | v :: j,u :: ws,ns,ms,i,h1,h2,hl,q=>by
    cases h1 with
    | cons a t h1 =>
    cases h2 with
    | cons b t2 h2 =>
    rename_i ns ms
    rw [List.zip_cons_cons,List.zipIdx_cons,List.forIn_cons,l]
    rw [HT.lexLt_cons] at q
    refine Dm (Dm ((intKind prog w).eqBool (a:=a) (b:=b) (by simp [intKind,Value.isInt]) (by simp [intKind,Value.isInt]) ?_))
    by_cases e:a=b
    · rw [if_pos e] at q
      rw [DM e]
      simp only [Bool.not_true,DY,if_false]
      refine Dn ?_
      exact lS f n m l h d j ws ns ms (i+1) h1 h2 (by simp at hl;lia) q
    · rw [if_neg e] at q
      rw [DN e]
      simp only [Bool.not_false,if_true]
      refine Dm (qo _ (Dn (Dn ?_)))
      rw [h]
      exact Dn q
theorem t9 (m:IsNts s.heap a x) (k:IsNts s.heap b y) (h:Q (HT.lexLt x y) s):wpAny (model prog w) A (keyLt' (aO f) (.ref a) (.ref b)) Q E s:=by
 obtain ⟨c,⟨o,e1,c1,p,d1⟩,g⟩:=m
 obtain ⟨d,⟨n,j,c2,q,d2⟩,e⟩:=k
 refine Dm (listItems_at e1 d1 ?_)
 refine Dm (listItems_at j d2 ?_)
 refine Dm ?_
 have l:x.length=c.size:=by rw [<- g.length];simp
 have i:y.length=d.size:=by rw [<- e.length];simp
 exact lS f c.size d.size (fun _ _ _ _=>rfl) (fun _=>rfl) rfl c.toList d.toList x y 0 g e (by lia) h
end
end L2
end
section
namespace L2
open PySem PySem.Spec PyProof.Rows
end L2
end
section
namespace L2
open PySem PySem.Spec PyProof.Rows
section
variable {prog:Program} {w:World} {A:Around} {E:Value->Shared->Prop} {s:Shared}
theorem qH (v:Value):firstOfTuple' v=(do
  if (<- typeOf v) != .type "tuple" then return none
  return (<- Builtin.List.listItems v)[0]?):=rfl
theorem l5 (f:IsNts s.heap b n) (h0:n ≠ []) (h:∀ i t,Q (some (.int i t)) s):wpAny (model prog w) A (firstOfTuple' (.ref b)) Q E s:=by
 obtain ⟨it,⟨o,e,c,k,d⟩,j⟩:=f
 rw [qH]
 refine Dm (wpAny_typeOf (T:="tuple") ⟨o,e,c⟩ ?_)
 rw [if_neg (by decide)]
 refine Dm (listItems_at e d ?_)
 cases a:it.toList with
 | nil=>rw [a] at j;cases j;exact absurd rfl h0
 | cons v vs =>
  rw [a] at j
  cases j with
  | cons i t j =>
   have:it[0]?=some (.int i t):=by rw [<- Array.getElem?_toList,a];rfl
   rw [this]
   exact Dn (h i t)
theorem kJ:∀ (bs:List Addr),(∀ b ∈ bs,∃ n,n ≠ []/\IsNts s.heap b n)->(∀ (a:List Value) (ns:List Int),IntsAre a ns->a.length=bs.length->Q (a.map some) s) ->
  wpAny (model prog w) A ((bs.map Value.ref).mapM firstOfTuple') Q E s
 | [],_,q=>by
  simp only [List.map_nil,List.mapM_nil]
  exact Dn (q [] [] .nil rfl)
 | b :: bs,h,q=>by
  rw [DL,List.mapM_cons]
  obtain ⟨n,h0,e⟩:=h b Dq
  refine Dm (l5 e h0 fun i t=>?_)
  refine Dm (kJ bs (fun c d=>h c (Dr _ d)) fun a ns hi f=>?_)
  exact Dn (q (.int i t :: a) (i :: ns) (.cons i t hi) (by simp [f]))
theorem wW (h2:bs ≠ []) (d:∀ b ∈ bs,∃ n,n ≠ []/\IsNts s.heap b n) (h:Q (aO true) s):wpAny (model prog w) A (keyKind' (bs.map Value.ref).toArray) Q E s:=by
 rw [keyKind'_eq,List.mapM_toArray]
 refine Dm ?_
 rw [map_eq_pure_bind]
 refine Dm (kJ bs d fun a ns hi f=>Dn ?_)
 have e:(a.map some).toArray.all (·.isSome)=true:=by simp
 rw [if_pos e]
 refine Dm (wpAny_rule ?_)
 have hf:(a.map some).toArray.filterMap id=a.toArray:=by simp
 rw [hf,oneTypeOnly'_eq,List.mapM_toArray,mapM_typeOf_ints hi]
 simp only [map_pure,pure_bind]
 cases a with
 | nil=>exact absurd (Ej.mp f.symm) h2
 | cons v a =>
  have c:((List.map (fun _=>Value.type "int") (v :: a)).toArray.all fun x=>x == Value.type "int")=true:=by
   simp only [List.all_toArray,List.all_map,List.all_eq_true]
   intro _ _
   rfl
  have h0:(List.map (fun _=>Value.type "int") (v :: a)).toArray[0]?=some (Value.type "int"):=by simp
  rw [h0]
  simp only [c,if_true,pure_bind,Option.any_some]
  exact Dn h
end
end L2
end
section
namespace L2
open PySem PySem.Spec PyProof.Rows
theorem IsNts.at (x:IsNts h b n) (e:∀ o,h.get? b=some o->h'.get? b=some o):IsNts h' b n:=by
 obtain ⟨it,⟨o,e1,r⟩,j⟩:=x
 exact ⟨it,⟨o,e o e1,r⟩,j⟩
structure NRow (h:Heap) (bs:List Addr) (ns:List (List Int)):Prop where
 len:ns.length=bs.length
 at':∀ (i:Nat) (b:Addr) (n:List Int),bs[i]?=some b->ns[i]?=some n->IsNts h b n/\n ≠ []
 asc:∀ (i:Nat) (x y:List Int),ns[i]?=some y->ns[i+1]?=some x->HT.lexLt x y=false
theorem NRow.keep (r:NRow h bs ns) (k:∀ b ∈ bs,∀ o,h.get? b=some o->h'.get? b=some o):NRow h' bs ns :=
 ⟨r.len,fun i b n e1 a=>⟨(r.at' i b n e1 a).1.at (k b (DD e1)),(r.at' i b n e1 a).2⟩,r.asc⟩
end L2
end
section
namespace L2
open PySem PySem.Spec PyProof.Rows
end L2
end
section
namespace L2
open PySem PySem.Spec PyProof.Rows
end L2
end
section
namespace L2
open PySem PySem.Spec PyProof.Rows
theorem ig:∀ bs:List Addr,Vals (bs.map V.ref) (bs.map Value.ref)
 | []=>.nil
 | _ :: bs=>.cons rfl (ig bs)
end L2
end
section
namespace L2
open PySem
abbrev Up (xs:Array Nat):Prop:=xs.toList.Pairwise (· < ·)
theorem Up.at (h:Up xs) {i k:Nat} (a:i < k) (b:k < xs.size):xs[i]'(by omega) < xs[k]:=by
 have:=List.pairwise_iff_getElem.mp h i k (by simp;lia) (by simpa using b) a
 simpa using this
theorem xR (h:Up xs) (j:Nat):∀ (fuel lo hi:Nat),hi - lo<=fuel->lo<=hi->hi<=xs.size ->
  (∀ i (z:i < xs.size),i < lo->xs[i] < j)->(∀ i (z:i < xs.size),hi<=i->j<=xs[i]) ->
  (∀ i (z:i < xs.size),i < SetTable.below.go xs j fuel lo hi->xs[i] < j)/\(∀ i (z:i < xs.size),SetTable.below.go xs j fuel lo hi<=i->j<=xs[i])/\SetTable.below.go xs j fuel lo hi<=xs.size:=by
 intro fuel
 induction fuel with
 | zero =>
  intro lo hi f l z a b
  have e:lo=hi:=by lia
  subst e
  unfold SetTable.below.go
  exact ⟨a,b,z⟩
 | succ fuel ih =>
  intro lo hi f l z a b
  unfold SetTable.below.go
  by_cases k:lo < hi
  ·rw [if_pos k]
   have hm:(lo+hi) / 2 < xs.size:=by lia
   have m:xs.getD ((lo+hi) / 2) j=xs[(lo+hi) / 2]:=by simp [Array.getD,hm]
   dsimp only
   rw [m]
   by_cases c:xs[(lo+hi) / 2] < j
   ·rw [if_pos c]
    refine ih _ _ (by lia) (by lia) z (fun i g d=>?_) b
    by_cases e:i=(lo+hi) / 2
    ·subst e;exact c
    ·exact Nat.lt_trans (h.at (show i < (lo+hi) / 2 by lia) hm) c
   ·rw [if_neg c]
    refine ih _ _ (by lia) (by lia) (by lia) a (fun i g d=>?_)
    by_cases e:i=(lo+hi) / 2
    ·subst e;lia
    ·have:=h.at (show (lo+hi) / 2 < i by lia) g;lia
  ·rw [if_neg k]
   have e:lo=hi:=by lia
   subst e
   exact ⟨a,b,z⟩
theorem kR (h:Up xs) (j:Nat):(∀ i (z:i < xs.size),i < SetTable.below xs j->xs[i] < j)/\(∀ i (z:i < xs.size),SetTable.below xs j<=i->j<=xs[i])/\SetTable.below xs j<=xs.size :=
 xR h j xs.size 0 xs.size (by lia) (by lia) (DH _) (fun i z c=>by lia) (fun i z c=>by lia)
theorem qZ (h:Up xs) {i:Nat} (hi:i < xs.size):SetTable.below xs (xs[i]+1)=i+1:=by
 obtain ⟨a,b,c⟩:=kR h (xs[i]+1)
 generalize SetTable.below xs (xs[i]+1)=r at *
 by_cases l:r<=i
 ·have:=b i hi l;lia
 ·by_cases g:i+1 < r
  ·have h1:=a (i+1) (by lia) g
   have h2:=h.at (show i < i+1 by lia) (by lia)
   lia
  ·lia
theorem qY (h:Up xs):SetTable.below xs 0=0:=by
 obtain ⟨a,b,c⟩:=kR h 0
 by_cases l:0 < SetTable.below xs 0
 ·have:=a 0 (by lia) l;lia
 ·lia
theorem sS (h:Up xs) {j:Nat} (m:(xs[SetTable.below xs j]? == some j)=false):Up (SetTable.insertAt xs (SetTable.below xs j) j):=by
 obtain ⟨a,b,c⟩:=kR h j
 show (SetTable.insertAt xs (SetTable.below xs j) j).toList.Pairwise _
 rw [SetTable.toList_insertAt]
 generalize SetTable.below xs j=r at *
 have f:∀ x ∈ xs.toList.take r,x < j:=fun x d=>by
  obtain ⟨i,hi,rfl⟩:=List.mem_take_iff_getElem.mp d
  simp at hi
  exact a i (by lia) (by lia)
 have g:∀ x ∈ xs.toList.drop r,j < x:=fun x d=>by
  obtain ⟨i,hi,rfl⟩:=List.mem_drop_iff_getElem.mp d
  simp at hi
  have h1:=b (r+i) (by lia) (by lia)
  have h2:xs[r]'(by lia) ≠ j:=by
   intro e
   rw [Array.getElem?_eq_getElem (by lia),e] at m
   simp at m
  simp only [Array.getElem_toList]
  rcases Nat.eq_zero_or_pos i with e | e
  ·subst e
   simp only [Nat.add_zero] at h1 ⊢
   lia
  ·have h3:=h.at (show r < r+i by lia) (by lia)
   have n:=b r (by lia) (DH _)
   lia
 have l:(xs.toList.take r ++ xs.toList.drop r).Pairwise (· < ·):=by rw [List.take_append_drop];exact h
 rw [List.pairwise_append] at l ⊢
 refine ⟨l.1,List.pairwise_cons.mpr ⟨g,l.2.1⟩,fun x d y k=>?_⟩
 rcases Dw.mp k with rfl | k
 ·exact f x d
 ·exact Nat.lt_trans (f x d) (g y k)
theorem sZ {t:SetTable} {j:Nat} (h:∀ i,t.slot j ≠ .live i):(t.place[SetTable.below t.place j]? == some j)=false:=by
 cases e:(t.place[SetTable.below t.place j]? == some j) with
 | false=>rfl
 | true =>
  refine absurd ?_ (h (SetTable.below t.place j))
  unfold SetTable.slot
  simp only [e,if_true]
theorem wb {h:Int} {j:Nat}:∀ (n:Nat) (p:SetTable.Probe),(∀ x,p.dummy=some x->∀ i,t.slot x ≠ .live i) ->
  SetTable.probe.go t f h n p=some (.empty j d)->∀ i,t.slot (d.getD j) ≠ .live i:=by
 intro n
 induction n with
 | zero=>intro p _ e;simp [SetTable.probe.go] at e
 | succ n ih =>
  intro p g e
  have a:∀ q:SetTable.Probe,(t.advance q).dummy=q.dummy:=fun q=>by unfold SetTable.advance;split <;> rfl
  unfold SetTable.probe.go at e
  split at e
  ·rename_i c
   simp only [Option.some.injEq,SetTable.Met.empty.injEq] at e
   obtain ⟨e1,k⟩:=e
   cases hd:p.dummy with
   | none=>rw [<- k,hd,Option.getD_none,<- e1,c];exact fun i z=>by cases z
   | some x=>rw [<- k,hd,Option.getD_some];exact g x hd
  ·rename_i c
   refine ih _ (fun x b=>?_) e
   rw [a] at b
   simp only [Option.some.injEq] at b
   rw [<- b,c]
   exact fun i z=>by cases z
  ·split at e
   ·simp at e
   ·exact ih _ (fun x b=>g x (by rw [<- b,a])) e
theorem uh {t:SetTable} {h:Int} {j:Nat} (e:t.freeSlot h=some (j,b)):∀ i,t.slot j ≠ .live i:=by
 unfold SetTable.freeSlot at e
 split at e
 ·rename_i f d a
  simp only [Option.some.injEq,Prod.mk.injEq] at e
  rw [<- e.1]
  exact wb _ _ (fun x c=>by simp [SetTable.probeStart] at c) a
 ·cases e
structure Tab (b:Bool) (t:SetTable):Prop where
 up:Up t.place
 led:t.led=b
theorem uL (n:Nat):Up (Array.range n):=by
 show (Array.range n).toList.Pairwise _
 rw [Array.toList_range]
 exact List.pairwise_lt_range
theorem Tab.stand (h:Tab b t) (n:Nat):Tab b (t.standIn n):=⟨uL n,h.led⟩
theorem Tab.or (h:Tab b t) (n:Nat):Tab b (t.orStandIn n):=by
 unfold SetTable.orStandIn
 split
 ·exact h
 ·exact h.stand n
theorem Tab.new (h:Tab b t) (es:Array (Int × Value)) (k:Int) (x:Value):Tab b (layNew t es k x).2.1:=by
 unfold layNew
 split
 ·rename_i j d e
  have z:Tab b (t.put j).1:=⟨sS h.up (sZ (uh e)),h.led⟩
  exact z.or _
 ·exact h.stand _
theorem Tab.all (h:Tab b t) (es:Array (Int × Value)) (n:Nat):Tab b (relayAll t es n).2.1:=by
 unfold relayAll
 split
 ·rename_i t' order e
  dsimp only
  split
  ·unfold SetTable.relaid SetTable.laid at e
   simp only [Option.bind_eq_bind,DW,Option.pure_def,Option.some.injEq,Prod.mk.injEq] at e
   obtain ⟨k,_,e1,_⟩:=e
   subst e1
   refine ⟨?_,h.led⟩
   have aux:∀ (f:Nat->Option Nat) (m:Nat),((List.filterMap (fun j=>(f j).map (j,·)) (List.range m)).map (·.1)).Pairwise (· < ·):=fun f m=>by
    rw [List.pairwise_map,List.pairwise_filterMap]
    refine List.pairwise_lt_range.imp fun {a c} d x i y g=>?_
    rw [Dt] at i g
    obtain ⟨_,_,rfl⟩:=i
    obtain ⟨_,_,rfl⟩:=g
    exact d
   exact aux _ _
  ·exact h.stand _
 ·exact h.stand _
theorem Tab.off (h:Tab b t) (c:Bool):Tab b (if c=true then t else { t with plain:=false }):=by
 cases c
 ·exact ⟨h.up,h.led⟩
 ·exact h
end L2
end
section
namespace L2
open PySem PyProof.Rows
abbrev fJ (w:World):Bool:=!w.params.followText "set-order"
def SetL (prog:Program) (w:World) (h:Heap) (a:Addr) (ns:List Int):Prop :=
 ∃ o es b t ms,h.get? a=some o/\o.ExactSet/\o.data=.set es b t/\ElemsOf (intKind prog w) es.toList/\IntsAre (es.toList.map (·.2)) ms/\ms.Perm ns/\es.size < scanBound/\t.fits es.size=true/\Tab (fJ w) t
theorem SetL.keep (x:SetL prog w h a ns) (k:∀ o,h.get? a=some o->h'.get? a=some o):SetL prog w h' a ns :=
 let ⟨o,es,b,t,ms,e,r⟩:=x;⟨o,es,b,t,ms,k o e,r⟩
theorem SetL.typeIs {s:Shared} (x:SetL prog w s.heap a ns):s.TypeIs (.ref a) "set" :=
 let ⟨o,_,_,_,_,e,c,_⟩:=x;⟨o,e,c.1⟩
def met (ns:List Int) (k:Int):List Int:=if k ∈ ns then ns else ns ++ [k]
theorem dO:∀ {l:List (Int × Value)},ElemsOf (intKind prog w) l->∃ ms,IntsAre (l.map (·.2)) ms
 | [],_=>⟨[],.nil⟩
 | e :: l,h=>by
  obtain ⟨ms,hm⟩:=dO h.tail
  obtain ⟨⟨k,a,_⟩,_⟩:=h.head
  obtain ⟨t,b⟩:=Value.isInt_shape a
  refine ⟨k :: ms,?_⟩
  rw [DL,b]
  exact .cons k t hm
theorem jb (p:List.Perm vs ws) (a:IntsAre vs ns) (b:IntsAre ws ms):ns.Perm ms:=by
 rw [<- a.nums,<- b.nums]
 exact p.map _
section
variable {prog:Program} {w:World} {A:Around} {E:Value->Shared->Prop} {s:Shared}
theorem ui {l:List (Int × Value)} {k:Int} (hi:IntsAre (l.map (·.2)) ms):(l.findIdx? (fun e=>(intKind prog w).is k e.2)).isSome=true ↔ k ∈ ms:=by
 induction l generalizing ms with
 | nil=>cases hi;simp
 | cons e l ih =>
  obtain ⟨h0,v⟩:=e
  rw [DL] at hi
  cases hi with
  | cons n t hr =>
   rw [List.findIdx?_cons]
   by_cases c:k=n
   ·subst c
    rw [if_pos (intKind_is prog w k t)]
    simp
   ·have:(intKind prog w).is k (Value.int n t)=false:=by
     cases z:(intKind prog w).is k (Value.int n t) with
     | false=>rfl
     | true=>exact absurd ((intKind prog w).inj _ _ _ z (intKind_is prog w n t)) c
    rw [this]
    simp only [DY,if_false,Option.isSome_map,Dw,c,false_or]
    exact ih hr
theorem vm {k:Int} (hS:SetL prog w s.heap a ns) (O:ns.length+1 < scanBound) (h:∀ b h',Heap.SameBut a s.heap h'->SetL prog w h' a (met ns k)->Q b { s with heap:=h' }):wpAny (model prog w) A (setAddHashed a (.int k tk) (hashInt k)) Q E s:=by
 obtain ⟨o,es,J,t,ms,B,hex,hd,i,hi,y,W,hf,V⟩:=hS
 have hn:es.size=ns.length:=by rw [<- y.length_eq,<- hi.length,DB,Array.length_toList]
 have C:=ui (prog:=prog) (w:=w) (k:=k) hi
 unfold setAddHashed setAddHashedIn
 refine Dp (Dm (wpAny_setState_of B hd hf ?_))
 dsimp only
 rw [if_pos (byScan_of (x:=.int k tk) rfl W i)]
 refine Dm (Dm (wpAny_rule (Dm (wpAny_setScan_of (knd:=intKind prog w) (intKind_is prog w k tk) B hd hf i ?_))))
 cases T:List.findIdx? (fun e=>(intKind prog w).is k e.2) es.toList with
 | some j =>
  rw [T] at C
  have H:k ∈ ns:=y.mem_iff.mp (C.mp rfl)
  refine Dn (Dn ?_)
  have:=h false s.heap (Heap.SameBut.refl a s.heap) ⟨o,es,J,t,ms,B,hex,hd,i,hi,by rw [met,if_pos H];exact y,W,hf,V⟩
  exact this
 | none =>
  rw [T] at C
  have H:k ∉ ns:=fun z=>by have:=C.mpr (y.mem_iff.mpr z);simp at this
  have p:=layNew_perm t es (hashInt k) (.int k tk)
  have f1:=layNew_fits t es (hashInt k) (.int k tk)
  have t1:=V.new es (hashInt k) (.int k tk)
  generalize layNew t es (hashInt k) (.int k tk)=L at p f1 t1 ⊢
  obtain ⟨d,u,wd,R⟩:=L
  dsimp only at p f1 t1 ⊢
  rw [Array.toList_push] at p
  have m:ElemsOf (intKind prog w) d.toList:=(i.push (intKind_is prog w k tk) rfl).perm p
  obtain ⟨I,U⟩:=dO m
  have b1:d.size=es.size+1:=by have:=p.length_eq;simpa using this
  have Z:I.Perm (met ns k):=by
   have i0:IntsAre ((es.toList ++ [(hashInt k,Value.int k tk)]).map (·.2)) (ms ++ [k]):=by
    rw [List.map_append]
    exact hi.append (.cons k tk .nil)
   rw [met,if_neg H]
   exact (jb (p.map _) U i0).trans (y.append_right [k])
  have done:∀ (h1:Heap) (g:Obj) (f:Array (Int × Value)) (n:Nat) (l:SetTable),h1.get? a=some g->g.ExactSet->g.data=.set f n l->f.toList.Perm d.toList->l.fits f.size=true->Tab (fJ w) l->Heap.SameBut a s.heap h1->Q true { s with heap:=h1 }:=by
   intro h1 g f n l g1 g2 g3 D g5 g6 X
   obtain ⟨G,S⟩:=dO (m.perm D)
   exact h true h1 X ⟨g,f,n,l,G,g1,g2,g3,m.perm D,S,(jb (D.map _) S U).trans Z,by have:=D.length_eq;simp at this;lia,g5,g6⟩
  have P:∀ (b:Bool) {K:Shared} {N:Unit->Shared->Prop},N () K->wpAny (model prog w) A (match b with | true=>rule "set.scan.the-table-gave-way" | false=>pure ()) N E K:=fun b K N q=>by
   cases b
   ·exact Dn q
   ·exact wpAny_rule q
  have two:∀ (c:Bool),wpAny (model prog w) A (do
    storeSet a d (if c=true then u else { u with plain:=false })
    if (!wd && (if c=true then u else { u with plain:=false }).tooFull)=true then do
     let r:=relayAll (if c=true then u else { u with plain:=false }) d (SetTable.grown d.size)
     (match r.2.2 with | true=>rule "set.scan.the-table-gave-way" | false=>pure ())
     storeSet a r.1 r.2.1
     pure (some true)
    else pure (some true)) (fun r s'=>r=some true/\Q true s') E s:=by
   intro c
   have l:=t1.off c
   have f2:(if c=true then u else { u with plain:=false }).fits d.size=true:=by cases c <;> exact f1
   generalize (if c=true then u else { u with plain:=false })=v at l f2 ⊢
   refine Dm (wpAny_storeSet_of (hz:=fits_of_scanBound (by lia)) B hd ?_)
   have g:(s.heap.update a (Obj.putSet d v)).get? a=some { o with data:=.set d (J+1) v }:=by
    have:=DQ (Obj.putSet d v) B (by rw [putSet_of d v hd];rfl)
    rw [putSet_of d v hd] at this
    exact this
   split
   ·have F:=relayAll_perm v d (SetTable.grown d.size)
    have M:=relayAll_fits v d (SetTable.grown d.size)
    have t3:=l.all d (SetTable.grown d.size)
    generalize relayAll v d (SetTable.grown d.size)=r at F M t3 ⊢
    obtain ⟨f,v2,g2⟩:=r
    dsimp only at F M t3 ⊢
    have b3:f.size=d.size:=by have:=F.length_eq;simpa using this
    refine Dm (P _ (Dm (wpAny_storeSet_of (hz:=fits_of_scanBound (by lia)) g rfl (Dn ⟨rfl,?_⟩))))
    have Y:((s.heap.update a (Obj.putSet d v)).update a (Obj.putSet f v2)).get? a=some { o with data:=.set f (J+1+1) v2 }:=by
     have:=DQ (Obj.putSet f v2) g (by rw [putSet_of f v2 rfl];rfl)
     rw [putSet_of f v2 rfl] at this
     exact this
    exact done _ _ f _ v2 Y hex rfl F M t3 ((Heap.SameBut.update _ a _).trans (Heap.SameBut.update _ a _))
   ·refine Dn ⟨rfl,?_⟩
    exact done _ _ d _ v g hex rfl (List.Perm.refl _) f2 l (Heap.SameBut.update _ a _)
  have fin:∀ (r:Option Bool) (s':Shared) {x:Sem Bool},r=some true/\Q true s'->wpAny (model prog w) A (match r with | some b=>pure b | none=>x) Q E s':=fun r s' x z=>by
   obtain ⟨rfl,q⟩:=z
   exact Dn q
  refine Dm (P _ ?_)
  split
  ·refine Dm (wpAny_of_eq (a:=true) rfl ?_)
   exact wpAny_mono (two true) (fun r s' z=>fin r s' z) fun _ _ z=>z
  ·refine Dm (Dn ?_)
   exact wpAny_mono (two true) (fun r s' z=>fin r s' z) fun _ _ z=>z
end
end L2
end
section
namespace L2
open PySem PyProof.Rows
theorem rY (ns:List Int) (k:Int):(met ns k).length<=ns.length+1:=by
 unfold met
 split <;> simp
theorem oH:∀ (ks ns:List Int),(ks.foldl met ns).length<=ns.length+ks.length
 | [],ns=>DH _
 | k :: ks,ns=>by
  have a:=oH ks (met ns k)
  have b:=rY ns k
  simp only [List.foldl_cons,DS]
  lia
section
variable {prog:Program} {w:World} {A:Around} {E:Value->Shared->Prop}
theorem vf (B:A.handled=none) (h:I ≠ S) (y:l ≠ S) (C:l ≠ I) :
  ∀ (k i:Nat) (s:Shared) (ns ms:List Int),items.size - i=k->s.heap.IsTupleIter I l i->s.heap.IsTuple l items->IntsAre (items.toList.drop i) ms->SetL prog w s.heap S ns->ns.length+ms.length+1 < scanBound ->
   (∀ h' tk,SetL prog w h' S (ms.foldl met ns)->(∀ b o,b ≠ S->b ≠ I->s.heap.get? b=some o->h'.get? b=some o)->R (.ok (.ret .none)) { s with heap:=h',toks:=tk }) ->
   codeAny (model prog w) A (.builtin "set.update.loop" ⟨[.ref S,.ref I],[]⟩) R s:=by
 intro k
 induction k with
 | zero =>
  intro i s ns ms z hi d a j p g
  refine codeAny_builtin F.entry_set_update_loop ?_
  rw [Around.under_plainId F.plain_set_update_loop _]
  have e:ms=[]:=by
   rw [List.drop_eq_nil_of_le (by simp;lia)] at a
   cases a
   rfl
  subst e
  refine Dm (wpAny_pyNext_tuple_end (s:=s) B hi d (Array.getElem?_eq_none (by lia)) fun h' f=>?_)
  exact Dn (g h' s.toks (j.keep fun o e=>f _ _ (Ne.symm h) e) fun b o _ c e=>f _ _ c e)
 | succ k ih =>
  intro i s ns ms z hi d a j p g
  have lt:i < items.size:=by lia
  refine codeAny_builtin F.entry_set_update_loop ?_
  rw [Around.under_plainId F.plain_set_update_loop _]
  rw [List.drop_eq_getElem_cons (by simpa using lt)] at a
  generalize x:items.toList[i]=v at a
  have f:items[i]?=some v:=by rw [<- x,Array.getElem?_eq_getElem lt,Array.getElem_toList]
  cases a with
  | @cons n t _ ms' hr =>
   refine Dm (wpAny_pyNext_tuple_item (s:=s) hi d f fun h1 D s1=>?_)
   have q:SetL prog w h1 S ns:=j.keep fun o e=>s1.extBut _ _ (Ne.symm h) e
   have l1:h1.IsTuple l items:=d.extBut s1.extBut C
   refine Dm (Dp (Dp (Dm ((intKind prog w).pyHash (k:=n) (intKind_is prog w n t) ?_))))
   refine vm (s:={ s with heap:=h1,toks:=s.toks+1 }) q (by simp only [DS] at p;lia) fun b h2 s2 u=>?_
   refine Dn ⟨plainId_quiet F.plain_set_update_loop _,?_⟩
   have E:=rY ns n
   refine ih (i+1) { s with heap:=h2,toks:=s.toks+1 } (met ns n) ms' (by lia) (D.extBut s2.extBut h) (l1.extBut s2.extBut y) hr u (by simp only [DS] at p;lia) fun h3 m r k3=>?_
   exact g h3 m r fun b o c1 c2 e=>k3 b o c1 c2 (s2.extBut _ _ c1 (s1.extBut _ _ c2 e))
variable {s:Shared}
theorem zR (h:∀ o,o=({ cls:=.type "set",dict:=none,data:=.set #[] 0 (.fresh 0 0 (fJ w)) }:Obj)->Q (.ref s.heap.objs.size) { s with heap:=s.heap.push o }) :
  codeAny (model prog w) A (.call (.builtin "set.__new__") ⟨[.type "set",a],[]⟩) (wants Q E) s:=by
 refine codeAny_of_tree ?_
 refine Dm (wpAny_of_eq (F.newCall_set_1 a) (Dn ⟨plainId_quiet F.plain_set_new _,codeAny_builtin F.entry_set_new ?_⟩))
 rw [Around.under_plainId F.plain_set_new _]
 have sub:=sub_set_self
 obtain ⟨b,g,d,tk,os⟩:=s
 wp_walk
 refine wpAny_askSetting ?_
 wp_walk
 exact h _ rfl
theorem nc (C:A.handled=none) (q:s.heap.IsTuple l items) (hi:IntsAre items.toList ns) (H:items.size+1 < scanBound) (h:∀ h' tk,SetL prog w h' s.heap.objs.size (ns.foldl met [])->(∀ b o,s.heap.get? b=some o->h'.get? b=some o)->Q (.ref s.heap.objs.size) { s with heap:=h',toks:=tk }) :
  wpAny (model prog w) A (call (.type "set") [.ref l]) Q E s:=by
 obtain ⟨c,tl,t⟩:=F.called_set.mro
 have made:=F.called_set.made
 have below:=F.called_set.sub
 have j:=F.called_set.notType
 have B:=F.called_set.canCreate
 have one:=F.typeCall_set_1 (.ref l)
 obtain ⟨i,g,d,tk,os⟩:=s
 refine wpAny_call (codeAny_of_tree (Dn ⟨Code.quiet_builtin _ (by decide +kernel),codeAny_builtin F.entry_type_call ?_⟩))
 rw [Around.under_plain (weight_type_call_type "set" [.ref l] []) rfl]
 repeat (any_goals (first | assumption | wp_step))
 refine codeAny_mono (zR (E:=E) (Q:=fun v r=>v=.ref i.objs.size/\r=⟨i.push { cls:=.type "set",dict:=none,data:=.set #[] 0 (.fresh 0 0 (fJ w)) },g,d,tk,os⟩) fun o e=>by subst e;exact ⟨rfl,rfl⟩) ?_
 rintro (e | f) r n
 ·exact n
 cases f with
 | ret v =>
  obtain ⟨rfl,rfl⟩:=n
  have got:(i.push { cls:=.type "set",dict:=none,data:=.set #[] 0 (.fresh 0 0 (fJ w)) }).get? i.objs.size=some { cls:=.type "set",dict:=none,data:=.set #[] 0 (.fresh 0 0 (fJ w)) }:=DA _ rfl
  have ty:(⟨i.push { cls:=.type "set",dict:=none,data:=.set #[] 0 (.fresh 0 0 (fJ w)) },g,d,tk,os⟩:Shared).TypeIs (.ref i.objs.size) "set":=⟨_,got,rfl⟩
  have m:(i.push { cls:=.type "set",dict:=none,data:=.set #[] 0 (.fresh 0 0 (fJ w)) }).IsTuple l items:=q.push _
  refine Dm (wpAny_isInstance ty sub_set_self (wpAny_ite_false rfl ?_))
  refine Dm (Dp (wpAny_callSpecial?_slot ty F.called_set.init (wpAny_call (codeAny_call_builtin F.called_set.init.plain F.entry_set_init (check_set_init_1 ty ?_)))))
  obtain ⟨⟨c2,d2,I,s2⟩,h2,x,G,u⟩:=id m
  simp only at x u
  subst x u
  have y:=F.sub_tuple_set
  have D:=F.sub_tuple_frozenset
  wp_walk using wpAny_pyIter_tuple m
  have lt:l < i.objs.size:=by obtain ⟨_,e,_⟩:=q;exact Dy e
  refine vf (l:=l) (items:=items) (by simpa using C) (by rw [Eb];exact Nat.ne_of_gt (Nat.lt_succ_self _)) (DJ lt) (by rw [Eb];exact DJ (Nat.lt_succ_of_lt lt)) items.size 0 _ [] ns (by lia) ⟨_,DA _ rfl,rfl,rfl⟩ (m.push _) (by simpa using hi) ⟨_,#[],0,_,[],Ds _ got,⟨rfl,rfl,rfl⟩,rfl,(fun e he=>by simp at he),.nil,List.Perm.refl _,by decide,rfl,⟨List.Pairwise.nil,rfl⟩⟩ (by have:=hi.length;simp at this;simp;lia) fun h' p S k=>?_
  wp_walk
  exact h h' p S fun b o e=>k b o (fun z=>by subst z;exact absurd (Dy e) (Nat.lt_irrefl _)) (fun z=>by have a:=Dy e;rw [z,Eb] at a;exact absurd a (Nat.not_lt.mpr (Nat.le_succ _))) (Ds _ (Ds _ e))
 | _=>exact n.elim
end
end L2
end
section
namespace L2
open PySem PyProof.Rows
theorem zw (f:Nat->Nat):∀ (n k:Nat) (left:List α) (out:Array α),left.length<=n->(pickOrder.go f n k left out).toList.Perm (out.toList ++ left):=by
 intro n
 induction n with
 | zero =>
  intro k left out h
  obtain rfl:left=[]:=Ej.mp (by lia)
  simp [pickOrder.go]
 | succ n ih =>
  intro k left out h
  unfold pickOrder.go
  cases e:left[f k % left.length]? with
  | none =>
   have d:left.length<=f k % left.length:=List.getElem?_eq_none_iff.mp e
   have z:left.length=0:=by
    rcases Nat.eq_zero_or_pos left.length with z | z
    ·exact z
    ·have:=Nat.mod_lt (f k) z;lia
   obtain rfl:left=[]:=Ej.mp z
   simp
  | some x =>
   have b:f k % left.length < left.length:=(DC.mp e).1
   dsimp only
   refine (ih _ _ _ (by rw [List.length_eraseIdx];split <;> lia)).trans ?_
   rw [Array.toList_push,List.append_assoc]
   refine List.Perm.append_left _ ?_
   rw [List.eraseIdx_eq_take_drop_succ]
   have c:left=left.take (f k % left.length) ++ x :: left.drop (f k % left.length+1):=by
    rw [<- (DC.mp e).2,<- List.drop_eq_getElem_cons b,List.take_append_drop]
   have p:=(List.perm_middle (a:=x) (l₁:=left.take (f k % left.length)) (l₂:=left.drop (f k % left.length+1))).symm
   rw [<- c] at p
   exact p
theorem tJ (f:Nat->Nat) (xs:Array α):(pickOrder f xs).toList.Perm xs.toList:=by
 have:=zw f xs.size 0 xs.toList #[] (by simp)
 simpa [pickOrder] using this
section
variable {prog:Program} {w:World} {A:Around} {E:Value->Shared->Prop}
theorem l7:∀ (n:Nat) (xs:List α) (s:Shared) {Q:List α->Shared->Prop},xs.length<=n->(∀ ys d',ys.Perm xs->Q ys { s with drawn:=d' })->wpAny (model prog w) A (drawOrder n xs) Q E s
 | 0,xs,s,Q,h,hQ=>by
  obtain rfl:xs=[]:=Ej.mp (by lia)
  exact Dn (hQ [] s.drawn (List.Perm.refl _))
 | n+1,[],s,Q,h,hQ=>Dn (hQ [] s.drawn (List.Perm.refl _))
 | n+1,x :: xs,s,Q,h,hQ=>by
  unfold drawOrder
  refine Dm (fun Γ p hΓ=>?_)
  show Sem.wp _ _ (Sem.choose _ _ Sem.pure) _ _ _ _
  rw [Sem.wp_choose]
  refine ⟨by simp,?_⟩
  generalize hi:(model prog w).w.draws .order (s.drawn.get .order) % (x :: xs).length=i
  have lt:i < (x :: xs).length:=by rw [<- hi];exact Nat.mod_lt _ (by simp)
  refine (show wpAny (model prog w) A (pure i) _ E { s with drawn:=s.drawn.bump .order } from Dn ?_) Γ p hΓ
  obtain ⟨y,a⟩:∃ y,(x :: xs)[i]?=some y:=⟨_,Dx lt⟩
  rw [a]
  dsimp only
  refine Dm (l7 n ((x :: xs).eraseIdx i) _ (by rw [List.length_eraseIdx,if_pos lt];simp at h ⊢;lia) fun ys d' c=>?_)
  refine Dn (hQ (y :: ys) d' ?_)
  refine (c.cons y).trans ?_
  rw [List.eraseIdx_eq_take_drop_succ]
  have b:x :: xs=(x :: xs).take i ++ y :: (x :: xs).drop (i+1):=by
   rw [<- (DC.mp a).2,<- List.drop_eq_getElem_cons lt,List.take_append_drop]
  exact (List.perm_middle.symm).trans (by rw [<- b])
end
theorem slot_next:Slot "set_iterator" "__next__" "set_iterator.__next__" :=
 .of (owner:="set_iterator") (n:="__next__") (by rw [typeLookup_type,builtinLookup_eq_fast];kernel_rfl) (by decide +kernel) (by decide +kernel) (by decide +kernel) (by first | exact .inl (by decide +kernel) | exact .inr (by decide +kernel)) (by rw [isSubtype_type];kernel_rfl)
theorem kK:entryFor table "set_iterator.__next__"=some Builtin.«set_iterator.__next__»:=entryFor_of_tree (by kernel_rfl)
theorem wn:Manifest.owners.lookup (String.ofList (['r','o','t','a','r','e','t','i','_','t','e','s']:List Char).reverse)=some Manifest.sig_set_iterator:=by kernel_rfl
theorem mj (a:Value):argsOk "set_iterator.__next__" ⟨[a],[]⟩:=by
 unfold argsOk
 rw [signature?_of (id:="set_iterator.__next__") (n:=['_','_','t','x','e','n','_','_']) (o:=['r','o','t','a','r','e','t','i','_','t','e','s']) (by kernel_rfl) wn]
 kernel_rfl
theorem qI:entryFor table "set.__iter__"=some Builtin.«frozenset.__iter__»:=entryFor_alias (id':="frozenset.__iter__") (by kernel_rfl) rfl (by decide +kernel) (by kernel_rfl)
def SIt (w : World) (h : Heap) (I a : Addr) (es : Array (Int × Value)) (b : Nat) (t : SetTable) (ord : List Value) (i : Nat) : Prop :=
  ∃ first, h.get? I = some { cls := .type "set_iterator", dict := none, data := .fields #[first, rawInt i, .ref a, rawInt es.size, rawInt b], slots := #[] } /\
    ((w.params.followText "set-order" = true /\ first = rawInt 0 /\ ord = (pickOrder (w.params.setOrder a b) es).toList.map (·.2)) \/
     (w.params.followText "set-order" = false /\ (!t.plain && es.size > 1) = false /\ (∃ k : Nat, first = rawInt k /\ SetTable.below t.place k = i) /\ ord = es.toList.map (·.2)) \/
     (∃ (T : Addr) (ps : List Nat), first = .ref T /\ T ≠ I /\ h.get? T = some { cls := .type "tuple", data := .seq (ps.map fun (p : Nat) => rawInt p).toArray } /\ ps.Perm (List.range es.size) /\ ord = ps.filterMap fun p => es[p]?.map (·.2)))
structure SAt (w:World) (h:Heap) (a:Addr) (es:Array (Int × Value)) (ep:Nat) (t:SetTable):Prop where
 at':∃ o,h.get? a=some o/\o.data=.set es ep t
 fits:t.fits es.size=true
 tab:Tab (fJ w) t
section
variable {prog:Program} {w:World} {A:Around} {E:Value->Shared->Prop} {s:Shared}
theorem ve {c:Nat} {i:Nat} (J:SIt w s.heap I a es c t ord i) (H:SAt w s.heap a es c t) (d:ord[i]?=some v) (z:∀ h',SIt w h' I a es c t ord (i+1)->Heap.SameBut I s.heap h'->Q (some v) { s with heap:=h' }):wpAny (model prog w) A (pyNext (.ref I)) Q E s:=by
 obtain ⟨⟨o,f,hd⟩,hf,C⟩:=H
 obtain ⟨first,g1,m⟩:=J
 obtain ⟨n,g,F,tk,os⟩:=s
 have ty:(⟨n,g,F,tk,os⟩:Shared).TypeIs (.ref I) "set_iterator":=⟨_,g1,rfl⟩
 have led:=C.led
 unfold pyNext
 refine Dm (wpAny_attempt (wpAny_callSpecial?_slot ty slot_next (wpAny_call_entry slot_next ty kK ?_ (mj _))))
 rcases m with ⟨l,rfl,b⟩ | ⟨l,nd,⟨k,rfl,bk⟩,b⟩ | ⟨T,ps,rfl,D,gT,pp,b⟩
 ·have l2:(model prog w).w.params.followText "set-order"=true:=l
  have j:(pickOrder (w.params.setOrder a c) es)[i]?.map (·.2)=some v:=by rw [<- d,b];simp
  obtain ⟨x,N,ex⟩:=Dt.mp j
  have at2:Option.map (fun e:Int × Value=>(e.2,Int.toNat 0)) (pickOrder (({ program:=(model prog w).prog,params:=(model prog w).w.params }:Setting).params.setOrder a c) es)[(i:Int).toNat]?=some (v,0):=by
   refine (show Option.map _ (pickOrder (w.params.setOrder a c) es)[(i:Int).toNat]?=_ from ?_)
   rw [Int.toNat_natCast,N,<- ex];rfl
  wp_walk using wpAny_setState_of f hd hf,wpAny_askSetting
  rw [at2]
  wp_walk
  exact ⟨_,rfl,Dn (z _ ⟨rawInt 0,DQ _ (DQ _ g1 rfl) rfl,.inl ⟨l,rfl,b⟩⟩ ((Heap.SameBut.update ..).trans (Heap.SameBut.update ..)))⟩
 ·have l2:(model prog w).w.params.followText "set-order"=false:=l
  have B:t.led=true:=by rw [led];simp [fJ,l]
  have lt:i < es.size:=by
   have:=(DC.mp d).1
   rw [b] at this
   simpa using this
  have O:t.place.size=es.size:=by
   unfold SetTable.fits at hf
   rw [Bool.and_eq_true] at hf
   exact eq_of_beq hf.1
  have ev:es[i].2=v:=by
   rw [b,DG,Array.getElem?_toList,Array.getElem?_eq_getElem lt] at d
   simpa using d
  have y:SetTable.below t.place (k:Int).toNat=i:=bk
  wp_walk using wpAny_setState_of f hd hf,wpAny_askSetting
  refine wpAny_ite_false (show decide ((!t.plain && decide (es.size > 1))=true)=false by rw [nd];rfl) ?_
  wp_walk
  rw [y,Array.getElem?_eq_getElem lt,Array.getElem?_eq_getElem (show i < t.place.size by lia)]
  wp_walk
  subst ev
  exact ⟨_,rfl,Dn (z _ ⟨rawInt (t.place[i]+1:Nat),DQ _ (DQ _ g1 rfl) rfl,.inr (.inl ⟨l,nd,⟨_,rfl,qZ C.up (by lia)⟩,b⟩)⟩ ((Heap.SameBut.update ..).trans (Heap.SameBut.update ..)))⟩
 ·obtain ⟨p,x,r,u,ev⟩:∃ p x,ps[i]?=some p/\es[p]?=some x/\x.2=v:=by
   have all:∀ (l:List Nat),(∀ p ∈ l,p < es.size)->∀ i:Nat,(l.filterMap fun p=>es[p]?.map fun x:Int × Value=>x.2)[i]?=l[i]?.bind fun p=>es[p]?.map fun x:Int × Value=>x.2:=by
    intro l
    induction l with
    | nil=>intro _ i;simp
    | cons p l ih =>
     intro h i
     rw [List.filterMap_cons,Array.getElem?_eq_getElem (h p Dq)]
     cases i with
     | zero=>simp [Array.getElem?_eq_getElem (h p Dq)]
     | succ i=>simpa using ih (fun q G=>h q (Dr _ G)) i
   rw [b,all ps (fun p n=>List.mem_range.mp (pp.mem_iff.mp n))] at d
   obtain ⟨p,e1,L⟩:=DW.mp d
   obtain ⟨x,M,K⟩:=Dt.mp L
   exact ⟨p,x,e1,M,K⟩
  wp_walk using wpAny_setState_of f hd hf,wpAny_askSetting
  rw [show (List.map (fun p:Nat=>rawInt p) ps).toArray[(i:Int).toNat]?=some (rawInt p) by simp [r]]
  wp_walk using wpAny_setState_of f hd hf,wpAny_askSetting
  rw [show es[(p:Int).toNat]?=some x from u]
  wp_walk
  subst ev
  exact ⟨_,rfl,Dn (z _ ⟨.ref T,DQ _ g1 rfl,.inr (.inr ⟨T,ps,rfl,D,(Heap.SameBut.update ..).extBut _ _ D gT,pp,b⟩)⟩ (Heap.SameBut.update ..))⟩
theorem yN {h:Nat} {i:Nat} (H:A.handled=none) (G:SIt w s.heap I a es h t ord i) (F:SAt w s.heap a es h t) (d:ord.length<=i) (u:∀ h',Heap.ExtBut I s.heap h'->Q none { s with heap:=h' }):wpAny (model prog w) A (pyNext (.ref I)) Q E s:=by
 obtain ⟨⟨o,j,hd⟩,hf,D⟩:=F
 obtain ⟨first,g1,m⟩:=G
 obtain ⟨n,g,B,tk,os⟩:=s
 have ty:(⟨n,g,B,tk,os⟩:Shared).TypeIs (.ref I) "set_iterator":=⟨_,g1,rfl⟩
 have led:=D.led
 have c:A.in1.handled=none:=H
 unfold pyNext
 refine Dm (wpAny_attempt (wpAny_callSpecial?_slot ty slot_next (wpAny_call_entry slot_next ty kK ?_ (mj _))))
 rcases m with ⟨l,rfl,f⟩ | ⟨l,nd,⟨k,rfl,bk⟩,f⟩ | ⟨T,ps,rfl,J,gT,pp,f⟩
 ·have l2:(model prog w).w.params.followText "set-order"=true:=l
  have at2:Option.map (fun e:Int × Value=>(e.2,Int.toNat 0)) (pickOrder (({ program:=(model prog w).prog,params:=(model prog w).w.params }:Setting).params.setOrder a h) es)[(i:Int).toNat]?=none:=by
   refine (show Option.map _ (pickOrder (w.params.setOrder a h) es)[(i:Int).toNat]?=_ from ?_)
   rw [Int.toNat_natCast,Array.getElem?_eq_none (by rw [f] at d;simpa using d)];rfl
  wp_walk using wpAny_setState_of j hd hf,wpAny_askSetting
  rw [at2]
  wp_walk
  refine wpAny_raiseNew_none c ?_
  refine Dm (wpAny_isInstance (v:=.ref _) (T:="StopIteration") (b:=true) ?_ isSubtype_stop ?_)
  ·exact ⟨_,DA _ rfl,rfl⟩
  ·exact Dn (u _ (((Heap.SameBut.update ..).extBut.push _).push _))
 ·have l2:(model prog w).w.params.followText "set-order"=false:=l
  have z:t.led=true:=by rw [led];simp [fJ,l]
  have ge:es.size<=i:=by rw [f] at d;simpa using d
  have r:SetTable.below t.place (k:Int).toNat=i:=bk
  wp_walk using wpAny_setState_of j hd hf,wpAny_askSetting
  refine wpAny_ite_false (show decide ((!t.plain && decide (es.size > 1))=true)=false by rw [nd];rfl) ?_
  wp_walk
  rw [r,Array.getElem?_eq_none ge]
  wp_walk
  refine wpAny_raiseNew_none c ?_
  refine Dm (wpAny_isInstance (v:=.ref _) (T:="StopIteration") (b:=true) ?_ isSubtype_stop ?_)
  ·exact ⟨_,DA _ rfl,rfl⟩
  ·exact Dn (u _ (((Heap.SameBut.update ..).extBut.push _).push _))
 ·have len:∀ (l:List Nat),(∀ p ∈ l,p < es.size)->(l.filterMap fun p=>es[p]?.map fun x:Int × Value=>x.2).length=l.length:=by
   intro l
   induction l with
   | nil=>intro _;rfl
   | cons p l ih =>
    intro y
    rw [List.filterMap_cons,Array.getElem?_eq_getElem (y p Dq)]
    simpa using ih fun q C=>y q (Dr _ C)
  rw [f,len ps fun p n=>List.mem_range.mp (pp.mem_iff.mp n)] at d
  wp_walk using wpAny_setState_of j hd hf,wpAny_askSetting
  rw [show (List.map (fun p:Nat=>rawInt p) ps).toArray[(i:Int).toNat]?=none by simpa using d]
  wp_walk
  refine wpAny_raiseNew_none c ?_
  refine Dm (wpAny_isInstance (v:=.ref _) (T:="StopIteration") (b:=true) ?_ isSubtype_stop ?_)
  ·exact ⟨_,DA _ rfl,rfl⟩
  ·exact Dn (u _ ((((Heap.SameBut.update ..).trans (Heap.SameBut.update ..)).extBut.push _).push _))
end
end L2
end
section
namespace L2
open PySem PyProof.Rows
section
variable {prog:Program} {w:World} {A:Around} {E:Value->Shared->Prop} {s:Shared}
theorem vh {f:Nat} (m:SAt w s.heap a es f t) (d:s.TypeIs (.ref a) "set") (hz:es.size<=sizeLine) (h:∀ h' I d' ord,s.heap.objs.size<=I->ord.Perm (es.toList.map (·.2))->SIt w h' I a es f t ord 0->(∀ b o,s.heap.get? b=some o->h'.get? b=some o)->Q (.ref I) { s with heap:=h',drawn:=d' }) :
  wpAny (model prog w) A (pyIter (.ref a)) Q E s:=by
 obtain ⟨⟨o,c,hd⟩,hf,k⟩:=m
 obtain ⟨i,g,j,tk,os⟩:=s
 refine wpAny_pyIter_slot d F.slot_set_iter (wpAny_call_entry F.slot_set_iter d qI ?_ (F.args_set_iter_1 _))
 cases l:w.params.followText "set-order" with
 | true =>
  have l2:(model prog w).w.params.followText "set-order"=true:=l
  wp_walk using wpAny_setState_of c hd hf,wpAny_askSetting
  exact ⟨_,rfl,"set_iterator",_,⟨_,DA _ rfl,rfl⟩,slot_next.lookup,h _ i.objs.size j _ (DH _) ((tJ (w.params.setOrder a f) es).map _) ⟨rawInt 0,DA _ rfl,.inl ⟨l,rfl,rfl⟩⟩ fun b o e=>Ds _ e⟩
 | false =>
  have l2:(model prog w).w.params.followText "set-order"=false:=l
  cases nd:(!t.plain && decide (es.size > 1)) with
  | false =>
   wp_walk using wpAny_setState_of c hd hf,wpAny_askSetting
   refine wpAny_ite_false (show decide ((!w.params.followText "set-order" && (!t.plain && decide (es.size > 1)))=true)=false by rw [l,nd];rfl) ?_
   wp_walk using wpAny_setState_of c hd hf,wpAny_askSetting
   exact ⟨_,rfl,"set_iterator",_,⟨_,DA _ rfl,rfl⟩,slot_next.lookup,h _ i.objs.size j _ (DH _) (List.Perm.refl _) ⟨rawInt 0,DA _ rfl,.inr (.inl ⟨l,nd,⟨0,rfl,qY k.up⟩,rfl⟩)⟩ fun b o e=>Ds _ e⟩
  | true =>
   wp_walk using wpAny_setState_of c hd hf,wpAny_askSetting
   refine wpAny_ite_true (show decide ((!w.params.followText "set-order" && (!t.plain && decide (es.size > 1)))=true)=true by rw [l,nd];rfl) ?_
   refine Dm (l7 _ _ _ (by simp) fun ys d' pp=>?_)
   have n:ys.length=es.size:=by have:=pp.length_eq;simpa using this
   refine Dm (wpAny_newTuple ?_ (by simp;lia))
   refine Dm (Dm (wpAny_setState_of (Ds _ c) hd hf (Dn ?_)))
   wp_walk
   have pm:(ys.filterMap fun p=>es[p]?.map fun x:Int × Value=>x.2).Perm (es.toList.map (·.2)):=by
    refine (pp.filterMap _).trans ?_
    rw [<- filterMap_getElem?_range es,List.map_filterMap]
   refine ⟨_,rfl,"set_iterator",_,⟨_,DA _ rfl,rfl⟩,slot_next.lookup,h _ _ d' _ ?_ pm ⟨.ref i.objs.size,DA _ rfl,.inr (.inr ⟨_,ys,rfl,?_,Ds _ (DA _ rfl),pp,rfl⟩)⟩ fun b o e=>Ds _ (Ds _ e)⟩
   ·rw [Eb];exact Nat.le_succ _
   ·rw [Eb];exact DJ (Nat.lt_succ_self _)
theorem SAt.keep {b:Nat} (x:SAt w h a es b t) (k:∀ o,h.get? a=some o->h'.get? a=some o):SAt w h' a es b t :=
 let ⟨⟨o,e,d⟩,f,t⟩:=x;⟨⟨o,k o e,d⟩,f,t⟩
theorem SIt.keep {c:Nat} {i:Nat} (x:SIt w h I a es c t ord i) (n:I ≠ S) (l:∀ T ps,h.get? T=some { cls:=.type "tuple",data:=.seq ps }->T ≠ S) (k:∀ b o,b ≠ S->h.get? b=some o->h'.get? b=some o):SIt w h' I a es c t ord i:=by
 obtain ⟨f,g,m⟩:=x
 refine ⟨f,k _ _ n g,?_⟩
 rcases m with m | m | ⟨T,ps,e1,e,d,j⟩
 ·exact .inl m
 ·exact .inr (.inl m)
 ·exact .inr (.inr ⟨T,ps,e1,e,k _ _ (l _ _ d) d,j⟩)
theorem Aj (C:A.handled=none) (B:a ≠ I) (j:S ≠ I) (D:S ≠ a) {m:Nat} (hz:ord.length<=sizeLine) (res:Value) :
  ∀ (k i:Nat) (s:Shared) (c:Nat),ord.length - i=k->i<=ord.length->SIt w s.heap I a es m t ord i->SAt w s.heap a es m t ->
  s.heap.get? S=some { cls:=.type "list",dict:=none,data:=.seq (ord.take i).toArray c,slots:=#[] } ->
  (∀ h' u tk,h'.get? S=some { cls:=.type "list",dict:=none,data:=.seq ord.toArray u,slots:=#[] }->(∀ b o,b ≠ I->b ≠ S->s.heap.get? b=some o->h'.get? b=some o)->R (.ok (.ret res)) { s with heap:=h',toks:=tk }) ->
  codeAny (model prog w) A (.builtin "list.extend.loop" ⟨[.ref S,.ref I,res],[]⟩) R s:=by
 intro k
 induction k with
 | zero =>
  intro i s c y hi hit hm f fin
  obtain rfl:i=ord.length:=by lia
  refine codeAny_builtin F.entry_extend_loop ?_
  rw [Around.under_plainId F.plain_extend_loop _]
  refine Dm (yN (s:=s) (show A.in1.handled=none from C) hit hm (DH _) fun h' r=>?_)
  rw [List.take_length] at f
  exact Dn (fin h' c s.toks (r S _ j f) fun b o d _ e=>r b o d e)
 | succ k ih =>
  intro i s c y hi hit hm f fin
  have lt:i < ord.length:=by lia
  refine codeAny_builtin F.entry_extend_loop ?_
  rw [Around.under_plainId F.plain_extend_loop _]
  refine Dm (ve (s:=s) (v:=ord[i]) hit hm (Dx lt) fun h1 h s1=>?_)
  have g:=s1.extBut _ _ j f
  refine Dm (wpAny_updateSeq g rfl (Dn ⟨plainId_quiet F.plain_extend_loop _,?_⟩) (by simp;lia) (by simp;lia))
  obtain ⟨c2,q⟩:∃ c2,(h1.update S (Obj.mapSeq (·.push ord[i]))).get? S=some (seqObj "list" ((ord.take i).toArray.push ord[i]) c2):=⟨_,get?_update_seq g (·.push ord[i])⟩
  have up:∀ b o,b ≠ S->h1.get? b=some o->(h1.update S (Obj.mapSeq (·.push ord[i]))).get? b=some o:=fun b o n e=>(Heap.SameBut.update ..).extBut _ _ n e
  have tk:(ord.take i).toArray.push ord[i]=(ord.take (i+1)).toArray:=by
   rw [List.take_add_one,Dx lt]
   simp
  rw [tk] at q
  refine ih (i+1) { s with heap:=h1.update S (Obj.mapSeq (·.push ord[i])) } c2 (by lia) lt (h.keep (S:=S) (Ne.symm j) (fun T ps e z=>by subst z;rw [g] at e;simp at e) up) ((hm.keep fun o e=>s1.extBut _ _ B e).keep fun o e=>up _ _ (Ne.symm D) e) q fun h3 x l g3 k3=>?_
  exact fin h3 x l g3 fun b o d p e=>k3 b o d p (up _ _ p (s1.extBut _ _ d e))
theorem xj (ty:s.TypeIs (.ref d) "set") (h:Q false s):wpAny (model prog w) A (Builtin.List.listLengthHint (.ref d)) Q E s:=by
 unfold Builtin.List.listLengthHint
 refine Dm (wpAny_specialOf ty F.slot_set_len.lookup ?_)
 have cut:splitId "set.__len__"=some ("set","__len__"):=by kernel_rfl
 dsimp only
 simp only [cut]
 refine Dm (wpAny_isInstance ty (b:=true) sub_set_self (wpAny_ite_false rfl ?_))
 rw [if_pos (by kernel_rfl)]
 exact Dm (wpAny_typeOf ty (Dn h))
theorem pB {k:Nat} (O:A.handled=none) (D:SAt w s.heap a es k t) (ty:s.TypeIs (.ref a) "set") (hz:es.size<=sizeLine) (h:∀ h' d' tk ord,ord.Perm (es.toList.map (·.2))->s.heap.objs.size<=h'.objs.size->(∀ b o,s.heap.get? b=some o->h'.get? b=some o)->Q ord { s with heap:=h',drawn:=d',toks:=tk }):wpAny (model prog w) A (collect (.ref a)) Q E s:=by
 have lt:a < s.heap.objs.size:=by obtain ⟨⟨o,e,_⟩,_⟩:=D;exact Dy e
 obtain ⟨d,g,l,tk,os⟩:=s
 unfold collect
 refine Dm (wpAny_runValue (codeAny_builtin F.entry_proto_collect ?_))
 rw [Around.under_plainId F.plain_proto_collect _]
 refine Dm (wpAny_newObj_type (Dn ⟨plainId_quiet F.plain_list_iadd _,codeAny_builtin F.entry_list_iadd ?_⟩))
 rw [Around.under_plainId F.plain_list_iadd _]
 have J:(d.push { cls:=.type "list",data:=.seq ([]:List Value).toArray }).get? d.objs.size=some { cls:=.type "list",data:=.seq ([]:List Value).toArray }:=DA _ rfl
 have a1:SAt w (d.push { cls:=.type "list",data:=.seq ([]:List Value).toArray }) a es k t:=D.keep fun o e=>Ds _ e
 have i:(⟨d.push { cls:=.type "list",data:=.seq ([]:List Value).toArray },g,l,tk,os⟩:Shared).TypeIs (.ref a) "set":=let ⟨o,e,c⟩:=ty;⟨o,Ds _ e,c⟩
 have L:(d.push { cls:=.type "list",data:=.seq ([]:List Value).toArray }).objs.size=d.objs.size+1:=Eb ..
 have V:∀ b o,d.get? b=some o->(d.push { cls:=.type "list",data:=.seq ([]:List Value).toArray }).get? b=some o:=fun b o e=>Ds _ e
 refine (show wpAny _ A.in1 (Builtin.List.listExtendWith (.ref d.objs.size) (.ref a) (.ref d.objs.size)) _ _ ⟨d.push { cls:=.type "list",data:=.seq ([]:List Value).toArray },g,l,tk,os⟩ from ?_)
 generalize d.push { cls:=.type "list",data:=.seq ([]:List Value).toArray }=H1 at *
 unfold Builtin.List.listExtendWith
 refine Dm (wpAny_typeOf i ?_)
 rw [if_neg (by
  have e1:Builtin.List.listSameRef (.ref d.objs.size) (.ref a)=false:=beq_false_of_ne (Nat.ne_of_gt lt)
  have N:(Value.type "set" == Value.type "list")=false:=by decide
  have R:(Value.type "set" == Value.type "tuple")=false:=by decide
  rw [e1,N,R]
  decide)]
 refine Dm (vh (s:=⟨H1,g,l,tk,os⟩) a1 i hz fun h2 I d2 ord j pm x k2=>?_)
 have r:(⟨h2,g,d2,tk,os⟩:Shared).TypeIs (.ref a) "set":=let ⟨o,e,c⟩:=i;⟨o,k2 _ _ e,c⟩
 refine Dm (Dp (xj r ?_))
 have j:H1.objs.size<=I:=j
 rw [L] at j
 have H:d.objs.size ≠ I:=DJ j
 have M:a ≠ I:=DJ (Nat.lt_trans lt j)
 have ol:ord.length=es.size:=by have:=pm.length_eq;simpa using this
 have p:h2.get? d.objs.size=some (seqObj "list" #[] 0):=k2 _ _ J
 have a2:SAt w h2 a es k t:=a1.keep fun o e=>k2 _ _ e
 refine wpAny_ite_true (by kernel_rfl) ?_
 refine Dm (wpAny_rule ?_)
 refine Dm (Dm (listUpdate_at (s:=⟨h2,g,d2,tk,os⟩) p rfl ?_))
 obtain ⟨y,B⟩:∃ y,(h2.update d.objs.size (Obj.mapSeq (·.push Value.none))).get? d.objs.size=some (seqObj "list" (#[].push Value.none) y):=⟨_,get?_update_seq p (·.push Value.none)⟩
 refine listUpdate_at (s:=⟨h2.update d.objs.size (Obj.mapSeq (·.push Value.none)),g,d2,tk,os⟩) B rfl ?_
 obtain ⟨m,C⟩:∃ m,((h2.update d.objs.size (Obj.mapSeq (·.push Value.none))).update d.objs.size (Obj.mapSeq (·.pop))).get? d.objs.size=some (seqObj "list" (#[].push Value.none).pop m):=⟨_,get?_update_seq B (·.pop)⟩
 have f:∀ b o,b ≠ d.objs.size->h2.get? b=some o->((h2.update d.objs.size (Obj.mapSeq (·.push Value.none))).update d.objs.size (Obj.mapSeq (·.pop))).get? b=some o:=fun b o n e=>(Heap.SameBut.update ..).extBut _ _ n ((Heap.SameBut.update ..).extBut _ _ n e)
 have q:=x.keep (S:=d.objs.size) (Ne.symm H) (fun T ps e z=>by subst z;rw [p] at e;simp [seqObj] at e) f
 have a4:=a2.keep fun o e=>f _ _ (DJ lt) e
 have K:d.objs.size < ((h2.update d.objs.size (Obj.mapSeq (·.push Value.none))).update d.objs.size (Obj.mapSeq (·.pop))).objs.size:=Dy C
 generalize ((h2.update d.objs.size (Obj.mapSeq (·.push Value.none))).update d.objs.size (Obj.mapSeq (·.pop)))=H4 at *
 refine Dn ⟨plainId_quiet F.plain_extend_loop _,Aj (ord:=ord) O M H (Nat.ne_of_gt lt) (by lia) _ ord.length 0 ⟨H4,g,d2,tk,os⟩ m (by lia) (Nat.zero_le _) q a4 (by simpa [seqObj] using C) fun P W u G U=>?_⟩
 refine Dm (wpAny_load G ?_)
 refine Dn ?_
 have e:ord.toArray.toList=ord:=by simp
 refine e.symm ▸ h P d2 u ord pm ?_ fun b o e=>?_
 ·exact Nat.le_of_lt (Dy G)
 ·have v:=Dy e
  exact U b o (DJ (Nat.lt_trans v j)) (DJ v) (f _ _ (DJ v) (k2 _ _ (V _ _ e)))
end
end L2
end
section
namespace L2
open PySem PySem.Spec PyProof.Rows
section
variable {X:Cx}
abbrev yO (X:Cx) (p:Addr) (ns:List Int):HO:=.ext fun h=>SetL X.prog X.w h p ns
theorem Inv.drew (I:Inv X pins σ H s):Inv X pins σ H { s with drawn:=d } :=
 ⟨I.ok,I.os,I.bare,I.base,I.loc,I.cell,I.free,I.freeC,I.pin,I.hok,I.len⟩
def rSet (X:Cx):List V->Hp->VK->Prop:=fun xs H Q=>∃ (l:Addr) (ns:List Int),xs=[.ref l]/\SqT X.K H l (ns.map V.int)/\ns.length < 64/\∀ p,H p=none->Q (.ref p) (upd H p (yO X p (ns.foldl met [])))
theorem uy (f:X.calm=true):bM X (.type "set") (rSet X):=by
 intro pins s σ H xs us Q I g h
 obtain ⟨l,ns,rfl,d,b,q⟩:=h
 obtain ⟨u,rfl,c⟩:=gi g
 cases (show u=Value.ref l from c)
 obtain ⟨its,r,p,hz⟩:=I.tuple d
 have hlen:=r.length
 refine nc (I.ok.hd f) (show s.heap.IsTuple l its.toArray from p) (by simpa using kB r) (by simp at hlen ⊢;unfold scanBound;lia) fun h' tk S k=>?_
 exact ⟨.ref s.heap.objs.size,_,I.laid (a:=s.heap.objs.size) (o:=yO X s.heap.objs.size (ns.foldl met [])) (t':=tk) k (DH _) ⟨S,(let ⟨o,_,_,_,_,e,_⟩:=S;⟨o,e⟩),fun h1 h2 x k=>x.keep k⟩,rfl,q _ (I.hok.fresh (DH _))⟩
def vQ (X:Cx):List V->Hp->VK->Prop:=fun xs H Q=>∃ (p:Addr) (ns:List Int),xs=[.ref p]/\H p=some (yO X p ns)/\ns.length < 64/\∀ q,H q=none->∀ a:List Int,a.Perm ns->a.Pairwise (·<=·)->Q (.ref q) (upd H q (.lst (a.map V.int)))
theorem qN (y:X.calm=true):bM X (.builtin "sorted") (vQ X):=by
 intro pins s σ H xs us Q I B h
 obtain ⟨p,ns,rfl,C,i,q⟩:=h
 obtain ⟨u,rfl,w⟩:=gi B
 cases (show u=Value.ref p from w)
 obtain ⟨S,_,_⟩:=I.hok p _ C
 have ty:=S.typeIs (s:=s)
 obtain ⟨o,es,K,t,ms,x,hex,hd,D,hi,pm,G,hf,E⟩:=S
 have F:=I.ok.hd y
 have sz:es.size<=sizeLine:=fits_of_scanBound G
 refine Calls.call_function_entry kind_sorted plain_sorted entry_sorted (args_sorted1 _) (Dm (Dn (Dm (pB (show X.A.in1.handled=none from F) ⟨⟨o,x,hd⟩,hf,E⟩ ty sz fun h1 d1 m ord po j J=>?_))))
 obtain ⟨ks,f⟩:∃ ks,IntsAre ord ks:=by
  have:∀ v ∈ ord,∃ n t,v=Value.int n t:=fun v k=>by
   have:=po.mem_iff.mp k
   exact hi.all v this
  clear po
  induction ord with
  | nil=>exact ⟨[],.nil⟩
  | cons v ord ih =>
   obtain ⟨n,t,rfl⟩:=this v Dq
   obtain ⟨ks,h⟩:=ih fun v k=>this v (Dr _ k)
   exact ⟨n :: ks,.cons n t h⟩
 have l:ks.Perm ns:=(jb po f hi).trans pm
 have ol:ord.length < 64:=by rw [f.length,l.length_eq];exact i
 refine Dm (wpAny_newList ?_)
 have got:(h1.push (seqObj "list" ord.toArray 0)).get? h1.objs.size=some (seqObj "list" ord.toArray 0):=DA _ rfl
 refine Dm (Dp (wpAny_call_entry slot_list_sort ⟨_,got,rfl⟩ entry_list_sort (list_sort_tree got f ol fun out g a b c=>⟨_,rfl,Dn ⟨_,rfl,?_⟩⟩) (args_list_sort _)))
 obtain ⟨e,he⟩:=sortedHeap_at (out:=out) got
 have nl:g.length < 64:=by rw [b.length_eq,l.length_eq];exact i
 have keep:∀ (b:Addr) (u:Obj),s.heap.get? b=some u->(sortedHeap (h1.push (seqObj "list" ord.toArray 0)) h1.objs.size ord out).get? b=some u:=fun b u z=>by
  have r:=Dy z
  rw [sortedHeap_old (DJ (DO r j)) (by rw [Eb];exact Nat.lt_succ_of_lt (DO r j))]
  exact Ds _ (J _ _ z)
 refine ⟨.ref h1.objs.size,_,(I.drew (d:=d1)).laid (a:=h1.objs.size) (o:=.lst (g.map V.int)) (t':=m) keep j ⟨?_,out.toList,e,ik a,by rw [he]⟩,rfl,q _ (I.hok.fresh j) g (b.trans l) c⟩
 rw [DB]
 have:64<=sizeLine:=by decide
 lia
end
end L2
end
section
namespace L2
open PySem PySem.Spec PyProof.Rows
end L2
end
section
namespace L2
open PySem PySem.Spec PyProof.Rows
section
variable {prog:Program} {w:World} {K:Type} [DecidableEq K] {knd:HeapKind prog w K} {A:Around} {E:Value->Shared->Prop} {s:Shared}
def yj (xs ys:List (K × Addr × Value)):Prop:=xs.length=ys.length/\∀ (i:Nat) (x:K × Addr × Value),xs[i]?=some x->∃ (j:Nat) (y:K × Addr × Value) (n:Int) (t u:Tok),ys[j]?=some y/\y.1=x.1/\x.2.2=.int n t/\y.2.2=.int n u
theorem vn {id:String} {a b:Addr} {xs ys:List (K × Addr × Value)} {Q:Bool->Shared->Prop} (x:(a == sysModules)=false) (B:(b == sysModules)=false) (da:s.heap.DictOfH knd a xs) (db:s.heap.DictOfH knd b ys) (hu:knd.room A) (al:yj xs ys) (q:Q true s) :
  wpAny (model prog w) A (Builtin.Dict.samePairs id a b) Q E s:=by
 obtain ⟨I,es,H,g1,_,g2,g3,z,J⟩:=da
 obtain ⟨ob,fs,fp,f1,_,f2,d,f4,h⟩:=db
 have m:=size_of_entries g3
 have l:=size_of_entries d
 unfold Builtin.Dict.samePairs Builtin.Dict.showsAll
 rw [if_neg (by rw [x];exact DI),if_neg (by rw [B];exact DI)]
 refine Dm (Dn (Dm (Dn (Dm (wpAny_dictEntries g1 g2 (Dm (wpAny_dictEntries f1 f2 ?_)))))))
 rw [if_neg (by rw [m,l,al.1];simp)]
 refine Dm (wpAny_dictEpoch g1 g2 (Dm ?_))
 rw [Std.Legacy.Range.forIn_eq_forIn_range']
 simp only [Std.Legacy.Range.size,Nat.sub_zero,Nat.add_sub_cancel,Nat.div_one]
 refine wpAny_forIn_list _ (fun dI r s'=>s'=s/\r=(none,())/\∀ i ∈ dI,i < es.size) _ ?_ ?_ _ _ ⟨rfl,rfl,fun i hi=>by have:=List.mem_range'_1.mp hi;omega⟩
 ·rintro i dI r s' ⟨rfl,rfl,f⟩
  have lt:i < xs.length:=by have:=f i Dq;omega
  obtain ⟨e,y,n,t,u,e1,c,F,C⟩:=al.2 i _ (Dx lt)
  have ex:es[i]?=some (entryOfKey knd xs[i]):=by rw [entry_at g3,Dx lt];rfl
  have v:fs[e]?=some (entryOfKey knd y):=by rw [entry_at d,e1];rfl
  refine Dm (wpAny_dictEntries g1 g2 ?_)
  rw [ex]
  dsimp only
  refine Dm (Dp (Dm ?_))
  refine wpAny_dictFind_heap (s:=s') (a:=xs[i].2.1) (k:=xs[i].1) hu (z _ (List.getElem_mem lt)) f1 f2 d f4 h (fun no=>?_) fun j p o=>?_
  ·obtain ⟨G,g⟩:=y
   exact absurd e1 (by have:=no e g;rw [<- c] at this;exact this)
  ·have D:j=e:=by
    obtain ⟨G,g⟩:=y
    dsimp only at c
    subst c
    exact idxH_unique h o e1
   subst D
   refine Dm (wpAny_dictEntries f1 f2 ?_)
   rw [v]
   dsimp only
   have v1:(entryOfKey knd xs[i]).val=.int n t:=F
   have v2:(entryOfKey knd y).val=.int n u:=C
   rw [v1,v2]
   refine Dp ((intKind prog w).eqBool (a:=n) (b:=n) (intKind_is prog w n t) (intKind_is prog w n u) ?_)
   refine wpAny_ite_false (by simp) (Dm (wpAny_dictEpoch g1 g2 (wpAny_ite_false (by simp) (Dn ⟨rfl,rfl,fun i hi=>f i (Dr _ hi)⟩))))
 ·rintro r s' ⟨rfl,rfl,_⟩
  exact Dn q
theorem wB {a b:Addr} {xs ys:List (K × Addr × Value)} {Q:Value->Shared->Prop} (e:(a == sysModules)=false) (c:(b == sysModules)=false) (da:s.heap.DictOfH knd a xs) (db:s.heap.DictOfH knd b ys) (hu:A.units < cLine) (d:knd.room A.in1) (al:yj xs ys) (q:Q (.bool false) s) :
  wpAny (model prog w) A (compareOp .NotEq (.ref a) (.ref b)) Q E s:=by
 refine wpAny_richCompare_same_room (op:=.NotEq) da.typeIs db.typeIs PySem.F.slot_dict_ne (wpAny_call_entry PySem.F.slot_dict_ne da.typeIs PySem.F.entry_dict_ne ?_ (PySem.F.args_dict_ne_2 _ _)) hu
 refine Dm ?_
 refine Dm (wpAny_notOrdered_dict da.typeIs (Dn ?_))
 refine Dm (wpAny_isInstance db.typeIs PySem.F.sub_dict_dict (wpAny_ite_false rfl ?_))
 refine Dm (Dn (Dm (Dn (Dm (vn e c da db d al (Dn ⟨_,rfl,?_,?_⟩))))))
 ·exact fun x=>nomatch x
 ·exact q
end
end L2
end
section
namespace L2
open PySem PySem.Spec PyProof.Rows
section
variable {X:Cx}
theorem Inv.many {pins:List (Addr × Obj)} {s:Shared} {σ:St} {H:Hp} {h':Heap} {tk:Nat} {fp:List Addr} (I:Inv X pins σ H s) (e:∀ b ∈ fp,FpOk X pins H b) (k:∀ b o,b ∉ fp->s.heap.get? b=some o->h'.get? b=some o):Inv X pins σ H { s with heap:=h',toks:=tk }:=by
 have f:∀ b u,H b=some u->b ∉ fp:=fun b u q d=>by rw [(e b d).1] at q;cases q
 refine I.step (g':=s.gens) (d':=s.drawn) (ch:=fp) (fun b d=>?_) (fun b o _ _ a q _=>k b o a q) (fun b o _ _ a q _=>⟨o.slots,k b o a q⟩) (fun _ _ _ _ n=>n)
  (fun b o a q=>⟨o,k b o a q⟩) (fun _ _ q=>q) (fun _ _ _ q=>q) (fun b ps q=>⟨#[],by rw [q];simp⟩) (fun m hm=>?_) (fun b u q=>?_) I.bare
 ·exact ⟨(e b d).2.2.2.1,(e b d).2.1,(e b d).2.2.2.2.1,(e b d).2.2.2.2.2⟩
 ·obtain ⟨o,es,g,h,r⟩:=hm
  exact ⟨o,es,g,k _ o (fun d=>(e _ d).2.1 rfl) h,r⟩
 ·refine (I.hok b u q).stay (fun c v a z=>?_) (fun _ z=>z) fun _ _ z=>z
  rcases a with a | a
  ·rw [a] at z ⊢;exact k b v (f b u q) z
  ·exact k c v (f c _ a) z
def Itz (K:FG) (l1 l2:Addr):It:=⟨fun i H=>∃ xs ys v w,SqL K H l1 xs/\SqL K H l2 ys/\xs[i]?=some v/\ys[i]?=some w,
 fun i H x H'=>∃ t v w,x=.ref t/\H t=none/\(∀ xs,SqL K H l1 xs->xs[i]?=some v)/\(∀ ys,SqL K H l2 ys->ys[i]?=some w)/\H'=upd H t (.tup [v,w]),
 fun i H=>∃ xs ys,SqL K H l1 xs/\SqL K H l2 ys/\(xs.length<=i\/ys.length<=i)⟩
def Ay (z TI TO d c l1 l2:Addr) (i:Nat) (h:Heap):Prop:=PySem.IsZip h z TI TO .none/\PySem.IsPair h TI (.ref d) (.ref c)/\(∃ a b,PySem.IsPair h TO a b)/\h.IsListIter d l1 i/\h.IsListIter c l2 i
theorem lq {z TI TO d e l1 l2:Addr} {i:Nat} {h:Heap} (st:Ay z TI TO d e l1 l2 i h):∀ b ∈ [z,TI,TO,d,e],∃ o,h.get? b=some o/\∀ v,o.data ≠ .cell v:=by
 intro b f
 obtain ⟨h1,h2,⟨a,c,h3⟩,⟨n,k,_,j⟩,⟨m,g,_,l⟩⟩:=st
 simp only [Dw,List.not_mem_nil,or_false] at f
 rcases f with rfl | rfl | rfl | rfl | rfl
 ·exact ⟨_,h1,fun v z=>by cases z⟩
 ·exact ⟨_,h2,fun v z=>by cases z⟩
 ·exact ⟨_,h3,fun v z=>by cases z⟩
 ·exact ⟨_,k,fun v z=>by rw [j] at z;cases z⟩
 ·exact ⟨_,g,fun v z=>by rw [l] at z;cases z⟩
theorem uO {P:Program} {w:World} {K:FG} {elts:List Expr} {k:Nat} {pos:Pos} {z TI TO m l l1 l2:Addr} (D:ZipApart z TI TO m l l1 l2):Turn P w K (.Tuple elts k pos) (Itz K l1 l2) [z,TI,TO,m,l] z (Ay z TI TO m l l1 l2) where
 mem:=by simp
 obj:=fun i h st b d=>lq st b d
 keep:=fun i h h' st k=>⟨k z (by simp) _ st.1,k TI (by simp) _ st.2.1,let ⟨a,b,e⟩:=st.2.2.1;⟨a,b,k TO (by simp) _ e⟩,st.2.2.2.1.at fun o q=>k m (by simp) o q,st.2.2.2.2.at fun o q=>k l (by simp) o q⟩
 item:=by
  intro X G hw W Y i pins s σ H E I hf st J
  subst G hw W
  obtain ⟨xs,ys,v,w,r,g,hx,Z⟩:=J
  obtain ⟨its,N,p,hz⟩:=I.list r
  obtain ⟨U,j,M,F⟩:=I.list g
  obtain ⟨a1,a2,⟨a,b,a3⟩,a4,B⟩:=st
  obtain ⟨u,hu,ru⟩:=N.get hx
  obtain ⟨C,V,O⟩:=j.get Z
  refine wpAny_pyNext_zip_item D a1 a2 a3 a4 B p.isList M.isList (x:=u) (y:=C) (by rw [List.getElem?_toArray];exact hu) (by rw [List.getElem?_toArray];exact V) fun h' b1 b2 b3 b4 b5 b6 t=>?_
  refine ⟨_,rfl,wpAny_letOwnedTupleGo_zip b1 fun f c1 c2=>?_⟩
  have k2:∀ c o,c ≠ z->h'.get? c=some o->f.get? c=some o:=fun c o n e=>by rw [c2.2 c n];exact e
  have kk:∀ c o,c ∉ [z,TI,TO,m,l]->s.heap.get? c=some o->f.get? c=some o:=fun c o d e=>by
   simp only [Dw,List.not_mem_nil,or_false,not_or] at d
   exact k2 c o d.1 (t c o d.1 d.2.2.1 d.2.2.2.1 d.2.2.2.2 e)
  have I1:Inv X pins σ H { s with heap:=f }:=I.many (tk:=s.toks) hf kk
  have L:z < s.heap.objs.size:=Dy a1
  have R:IsTupD f s.heap.objs.size #[u,C]:=⟨_,k2 _ _ (Nat.ne_of_gt L) b5,rfl,_,rfl⟩
  have I2:=I1.trackT (s0:=s) (T:=s.heap.objs.size) (xs:=[v,w]) (its:=[u,C]) I (DH _) R (.cons ru (.cons O .nil)) (by show 2<=sizeLine;decide)
  refine ⟨.ref s.heap.objs.size,_,I2,rfl,⟨_,v,w,rfl,I.hok.fresh (DH _),fun zs S=>by rw [I.list_inj S r];exact hx,fun zs S=>by rw [I.list_inj S g];exact Z,rfl⟩,
   ⟨c1,k2 _ _ D.TIz (t _ _ D.TIz D.TITO D.TIi1 D.TIi2 a2),⟨u,C,k2 _ _ D.TOz b2⟩,b3.at fun o q=>k2 _ _ D.i1z q,b4.at fun o q=>k2 _ _ D.i2z q⟩,fun b d=>?_⟩
  have:b ≠ s.heap.objs.size:=fun q=>by
   obtain ⟨o,e,_⟩:=lq (i:=i) (h:=s.heap) (l1:=l1) (l2:=l2) ⟨a1,a2,⟨_,_,a3⟩,a4,B⟩ b d
   exact absurd (Dy e) (by rw [q];exact Nat.lt_irrefl _)
  rw [av this]
  exact (hf b d).1
 done:=by
  intro X G hw W Y i pins s σ H E I hf st J
  subst G hw W
  obtain ⟨xs,ys,r,g,hi⟩:=J
  obtain ⟨its,N,p,hz⟩:=I.list r
  obtain ⟨U,j,M,F⟩:=I.list g
  have e1:=N.length
  have e2:=j.length
  obtain ⟨a1,a2,⟨a,b,a3⟩,a4,B⟩:=st
  refine wpAny_pyNext_zip_end (I.ok.hd Y) D a1 a2 a3 a4 B p.isList M.isList (hi.imp (fun h=>by simp;omega) fun h=>by simp;omega) fun h' t=>⟨rfl,I.many (tk:=s.toks) hf fun c o d e=>?_⟩
  simp only [Dw,List.not_mem_nil,or_false,not_or] at d
  exact t c o d.1 d.2.2.1 d.2.2.2.1 d.2.2.2.2 e
 self:=fun A i s Q E st h=>wpAny_pyIter_zip st.1 h
def iZip (K:FG) (ta:TA):TI:=fun σ H R=>ta σ H fun c H1=>∃ a b,c=[.ref a,.ref b]/\(∃ xs,SqL K H1 a xs)/\(∃ ys,SqL K H1 b ys)/\R (Itz K a b) H1
theorem xQ:bootBuiltins "zip"=some (.type "zip"):=by decide +kernel
theorem B8 {a b:Expr} {ta:TA} {p pos:Pos} {elts:List Expr} {k:Nat} {L:Pos} (E:Gl X "zip") (hm:X.mg "zip"=none) (M:PA X [a,b] ta) (B:starEach [a,b] X.env=(false,eval a X.env) :: starEach [b] X.env) (i:((backTo pos (starEach [b] X.env)).any fun x=>x.fst)=false):PI X (.Tuple elts k L) (.Call (.Name "zip" p) [a,b] [] pos) (iZip X.K ta):=by
 intro pins s σ H R I h
 refine Call_ (fK I E hm xQ (PyProof.Rows.callWith_type1 (thn (M pos pins s σ H _ I h) fun us s1 ⟨P,H1,c,z,N⟩=>?_) B i))
 obtain ⟨a,b,e,⟨xs,C⟩,⟨ys,j⟩,q⟩:=N
 subst e
 obtain ⟨u,v,rfl,A,t⟩:=il z
 cases A
 cases t
 obtain ⟨its,t,pl,hz⟩:=c.list C
 obtain ⟨D,F,f,y⟩:=c.list j
 refine call_zip_2 pl.isList f.isList fun h' b1 b2 o w l G J=>?_
 refine wpAny_pyIter_zip b1 ?_
 have O:Inv X pins σ H1 { s1 with heap:=h' }:=c.kept (t':=s1.toks) J
 obtain ⟨_,g1,_⟩:=pl.isList
 obtain ⟨_,g2,_⟩:=f.isList
 have g:a < s1.heap.objs.size:=Dy g1
 have lt2:b < s1.heap.objs.size:=Dy g2
 have m:∀ b,s1.heap.objs.size<=b->FpOk X pins H1 b:=fun b d=>c.fpOk d (c.hok.fresh d)
 generalize s1.heap.objs.size=n at b1 b2 o w l G g lt2 m ⊢
 refine ⟨n+4,[n+4,n+2,n+3,n,n+1],_,_,H1,rfl,O,uO (l1:=a) (l2:=b) ?_,⟨b1,b2,⟨_,_,o⟩,w,l⟩,fun b r=>?_,q⟩
 ·constructor <;> (unfold Addr at *;omega)
 ·simp only [Dw,List.not_mem_nil,or_false] at r
  rcases r with rfl | rfl | rfl | rfl | rfl <;> exact m _ (by unfold Addr at *;omega)
end
end L2
end
section
namespace L2
open PySem PySem.Spec PyProof.Rows
theorem KT.at {H:Hp}:∀ {ns:List (List Key × Int)} {xs:List (List Key × Addr × Value)},KT H (ns.map fun p=>(p.1,V.int p.2)) xs->xs.length=ns.length/\∀ (i:Nat) (p:List Key × Int),ns[i]?=some p->∃ (x:List Key × Addr × Value) (t:Tok),xs[i]?=some x/\x.1=p.1/\x.2.2=.int p.2 t
 | [],_,r=>by
  cases r
  exact ⟨rfl,fun i x e=>by simp at e⟩
 | p :: ns,_,r=>by
  rw [DL] at r
  cases r with
  | cons h1 t1 =>
   obtain ⟨l,al⟩:=KT.at t1
   refine ⟨by simp [l],fun i x e=>?_⟩
   cases i with
   | zero =>
    cases e
    obtain ⟨t,e1⟩:=h1.2.2
    exact ⟨_,t,rfl,h1.1.symm,e1⟩
   | succ i=>exact al i x e
theorem xW {H:Hp} {ns ms:List (List Key × Int)} {xs ys:List (List Key × Addr × Value)} (b:KT H (ns.map fun p=>(p.1,V.int p.2)) xs) (d:KT H (ms.map fun p=>(p.1,V.int p.2)) ys) (h:ns.length=ms.length) (hm:∀ p ∈ ns,p ∈ ms):yj xs ys:=by
 obtain ⟨l1,a1⟩:=KT.at b
 obtain ⟨l2,a2⟩:=KT.at d
 refine ⟨by omega,fun i x e=>?_⟩
 have hi:i < ns.length:=by rw [<- l1];exact (DC.mp e).1
 obtain ⟨k,t,e1,a,f⟩:=a1 i _ (Dx hi)
 rw [e] at e1
 cases e1
 obtain ⟨j,g⟩:=List.mem_iff_getElem?.mp (hm _ (List.getElem_mem hi))
 obtain ⟨y,u,f1,f2,c⟩:=a2 j _ g
 exact ⟨j,y,_,t,u,f1,f2.trans a.symm,f,c⟩
section
variable {X:Cx}
def rNeP:R2:=fun x y H Q=>∃ (a b:Addr) (ns ms:List (List Key × Int)),x=.ref a/\y=.ref b/\Rd H a (.dT (ns.map fun p=>(p.1,V.int p.2)))/\Rd H b (.dT (ms.map fun p=>(p.1,V.int p.2)))/\ns.length=ms.length/\(∀ p ∈ ns,p ∈ ms)/\Q (.bl false) H
theorem Cm (hu:X.A.units+64 < cLine):OpR X (compareOp .NotEq) rNeP:=by
 intro pins s σ H x y v u Q I g j h
 obtain ⟨a,b,ns,ms,rfl,rfl,h1,h2,e,hm,q⟩:=h
 cases g
 cases j
 obtain ⟨_,d,xs,c,d1⟩:=pg I.hok h1
 obtain ⟨_,f,ys,i,d2⟩:=pg I.hok h2
 exact wB d f d1 d2 (by omega) (tupleKind_room_in1 (by omega)) (xW c i e hm) ⟨.bl false,H,I,rfl,q⟩
end
end L2
end
section
namespace L2
open PySem PySem.Spec PyProof.Rows
def pU (l:Array Value):Obj:=seqObj "tuple" l 0
def ev (cmp:Nat->Nat->Option Bool) {α:Type} (m:Sem α):Option Addr->Option (α × Option Addr):=by
 induction m with
 | pure a=>exact fun p=>some (a,p)
 | rule _ k ih=>exact ih ()
 | load b _ k ih=>exact fun p=>match p with
  | none=>ih (pU #[]) (some b)
  | some a=>match cmp a b with
   | some true=>ih (pU #[Value.none]) none
   | some false=>ih (pU #[]) none
   | none=>none
 | _=>exact fun _=>none
theorem sy (m:Sem α) (f:α->Sem β):∀ p,ev cmp (m.bind f) p=(ev cmp m p).bind fun r=>ev cmp (f r.1) r.2:=by
 induction m with
 | pure a=>exact fun p=>rfl
 | rule _ k ih=>exact ih ()
 | load b _ k ih =>
  intro p
  cases p with
  | none=>exact ih _ _
  | some a =>
   show (match cmp a b with
    | some true=>ev cmp ((k (pU #[Value.none])).bind f) none
    | some false=>ev cmp ((k (pU #[])).bind f) none
    | none=>none)=Option.bind (match cmp a b with
    | some true=>ev cmp (k (pU #[Value.none])) none
    | some false=>ev cmp (k (pU #[])) none
    | none=>none) _
   grind
 | _=>exact fun _=>rfl
def qp (k:SortKind):Prop:=k=aO true\/k=oneType'
structure Fol (φ:Keyed->Keyed) (st ps:SortSt):Prop where
 kind:qp (kindOf st)
 kind':kindOf ps=aO true
 arr:arrOf st=(arrOf ps).map φ
 pend:pendingOf st=pendingOf ps
 mg:gallopOf st=gallopOf ps
 fail:failedOf st=none
 fail':failedOf ps=none
class EqRl (α:Type) where
instance:EqRl Nat:=⟨⟩
instance:EqRl Bool:=⟨⟩
instance:EqRl PUnit:=⟨⟩
instance {α:Type} [EqRl α]:EqRl (Option α):=⟨⟩
instance {α:Type} [EqRl α]:EqRl (Array α):=⟨⟩
instance {α β:Type} [EqRl α] [EqRl β]:EqRl (α × β):=⟨⟩
instance {α:Type} [EqRl α]:EqRl (ForInStep α):=⟨⟩
class Rl (φ:Keyed->Keyed) (α:Type) where
 rel:α->α->Prop
variable {φ:Keyed->Keyed}
instance rlO {α:Type} [Rl φ α]:Rl φ (Option α):=⟨fun x y=>match x,y with | none,none=>True | some a,some b=>Rl.rel φ a b | _,_=>False⟩
instance rlP {α β:Type} [Rl φ α] [Rl φ β]:Rl φ (α × β):=⟨fun x y=>Rl.rel φ x.1 y.1/\Rl.rel φ x.2 y.2⟩
instance rlF {α:Type} [Rl φ α]:Rl φ (ForInStep α):=⟨fun x y=>match x,y with | .done a,.done b=>Rl.rel φ a b | .yield a,.yield b=>Rl.rel φ a b | _,_=>False⟩
instance rlK:Rl φ Keyed:=⟨fun p i=>p = φ i⟩
instance rlA:Rl φ (Array Keyed):=⟨fun p i=>p=i.map φ⟩
instance rlS:Rl φ SortSt:=⟨Fol φ⟩
instance (priority:=high) rlE {α:Type} [EqRl α]:Rl φ α:=⟨Eq⟩
section
variable {prog:Program} {w:World} {A:Around} {E:Value->Shared->Prop} {s:Shared} {cmp:Nat->Nat->Option Bool} {α β:Type}
def Sim (prog:Program) (w:World) (A:Around) (E:Value->Shared->Prop) (s:Shared) (φ:Keyed->Keyed) (cmp:Nat->Nat->Option Bool) {α:Type} [Rl φ α] (m p:StateT SortSt Sem α):Prop :=
 ∀ st ps b c q,Fol φ st ps->ev cmp (p.run ps) none=some ((b,c),q)->∃ a d,Rl.rel φ a b/\Fol φ d c/\q=none/\∀ Q:α->SortSt->Prop,Q a d->wpS (model prog w) A E s m Q st
theorem aA [Rl φ α] {a b:α} (h:Rl.rel φ a b):Sim prog w A E s φ cmp (pure a) (pure b):=by
 intro st ps d c g f e
 cases e
 exact ⟨a,st,h,f,rfl,fun Q q=>wpS_pure q⟩
theorem bN [Rl φ α] [Rl φ β] {m p:StateT SortSt Sem α} {f g:α->StateT SortSt Sem β} (h:Sim prog w A E s φ cmp m p) (k:∀ a b,Rl.rel φ a b->Sim prog w A E s φ cmp (f a) (g b)):Sim prog w A E s φ cmp (m >>= f) (p >>= g):=by
 intro st ps o i t v e
 have e:ev cmp ((p.run ps).bind fun x=>(g x.1).run x.2) none=some ((o,i),t):=e
 rw [sy] at e
 obtain ⟨⟨⟨b,d⟩,y⟩,e1,u⟩:=DW.mp e
 obtain ⟨a,st1,r,l,rfl,h1⟩:=h st ps b d y v e1
 obtain ⟨c,j,z,n,rfl,h2⟩:=k a b r st1 d o i t l u
 exact ⟨c,j,z,n,rfl,fun Q q=>wpS_bind (h1 _ (h2 Q q))⟩
theorem aq [EqRl α] [Rl φ β] {f g:α->StateT SortSt Sem β} (h:Sim prog w A E s φ cmp m p) (k:∀ a,Sim prog w A E s φ cmp (f a) (g a)):Sim prog w A E s φ cmp (m >>= f) (p >>= g) :=
 bN h fun a b (r:a=b)=>r ▸ k a
theorem bh [EqRl α] [Rl φ β] {f g:Option α->StateT SortSt Sem β} (h:Sim prog w A E s φ cmp m p) (c:Sim prog w A E s φ cmp (f none) (g none)) (ks:∀ a,Sim prog w A E s φ cmp (f (some a)) (g (some a))):Sim prog w A E s φ cmp (m >>= f) (p >>= g) :=
 bN h fun a b (r:a=b)=>r ▸ (match a with | none=>c | some a=>ks a)
theorem bm [Rl φ α] [Decidable c] {m n p q:StateT SortSt Sem α} (h1:c->Sim prog w A E s φ cmp m p) (h2:¬ c->Sim prog w A E s φ cmp n q):Sim prog w A E s φ cmp (if c then m else n) (if c then p else q):=by grind
theorem u7 [Rl φ α] {m p:StateT SortSt Sem α} (h:∀ ps,ev cmp (p.run ps) none=none):Sim prog w A E s φ cmp m p:=fun st ps b a q f e=>by
 rw [h] at e
 cases e
theorem ci [Rl φ α]:Sim prog w A E s φ cmp m (unsupported t:Sem α):=u7 fun _=>rfl
theorem jp [Rl φ α] (h : ∀ i x y, Rl.rel φ x y -> @Sim prog w A E s φ cmp _ rlF (f i x) (g i y)) : ∀ (l : List Nat) (x y : α), Rl.rel φ x y -> Sim prog w A E s φ cmp (forIn l x f) (forIn l y g)
  | [], x, y, r => by rw [List.forIn_nil, List.forIn_nil]; exact aA r
  | i :: l, x, y, r => by
    rw [List.forIn_cons, List.forIn_cons]
    refine @bN _ _ _ _ _ _ _ _ _ rlF _ _ _ _ _ (h i x y r) fun a b c => ?_
    cases a <;> cases b <;> first | exact False.elim c | skip
    · exact aA c
    · exact jp h l _ _ c
theorem ee [Rl φ α] {a b:Nat} {x y:α} (r:Rl.rel φ x y) (h:∀ i x y,Rl.rel φ x y->@Sim prog w A E s φ cmp _ rlF (f i x) (g i y)):Sim prog w A E s φ cmp (forIn [a:b] x f) (forIn [a:b] y g):=by
 rw [Std.Legacy.Range.forIn_eq_forIn_range',Std.Legacy.Range.forIn_eq_forIn_range']
 exact jp h _ _ _ r
theorem fS [EqRl α] {a b:Nat} {x:α} (h:∀ i x,Sim prog w A E s φ cmp (f i x) (g i x)):Sim prog w A E s φ cmp (forIn [a:b] x f) (forIn [a:b] x g):=by
 refine ee rfl fun i x y r=>?_
 cases r
 intro st ps b d q k e
 obtain ⟨c,j,r,dI⟩:=h i x st ps b d q k e
 refine ⟨c,j,?_,dI⟩
 obtain rfl:c=b:=r
 cases c <;> exact (rfl:_=_)
theorem rp:Sim prog w A E s φ cmp (get:StateT SortSt Sem SortSt) get:=by
 intro st ps b a q f e
 cases e
 exact ⟨st,st,f,f,rfl,fun Q q=>wpS_get q⟩
theorem cZ (h:∀ st ps,Fol φ st ps->Fol φ (f st) (g ps)):Sim prog w A E s φ cmp (modify f:StateT SortSt Sem PUnit) (modify g):=by
 intro st ps b a q c e
 cases e
 exact ⟨_,_,rfl,h st ps c,rfl,fun Q q=>wpS_modify q⟩
theorem yJ (h:Fol φ c a):Sim prog w A E s φ cmp (set c:StateT SortSt Sem PUnit) (set a):=by
 intro st ps b a q d e
 cases e
 exact ⟨_,_,rfl,h,rfl,fun Q q=>Dn ⟨rfl,q⟩⟩
theorem cY:Sim prog w A E s φ cmp (liftM (PySem.rule r:Sem Unit):StateT SortSt Sem Unit) (liftM (PySem.rule r:Sem Unit)):=by
 intro st ps b a q c e
 cases e
 exact ⟨_,st,rfl,c,rfl,fun Q q=>wpS_lift (wpAny_rule ⟨rfl,q⟩)⟩
theorem vd {i:Nat}:Sim prog w A E s φ cmp (elem' (arr.map φ) i) (elem' arr i):=by
 rw [elem'_eq,elem'_eq]
 cases e:arr[i]? with
 | none=>exact ci
 | some x =>
  have:(arr.map φ)[i]?=some (φ x):=by rw [Array.getElem?_map,e];rfl
  rw [this]
  exact aA rfl
theorem bt [Rl φ α] {i:Nat} {f g:Keyed->StateT SortSt Sem α} (k:∀ u,Sim prog w A E s φ cmp (f (φ u)) (g u)):Sim prog w A E s φ cmp (elem' (arr.map φ) i >>= f) (elem' arr i >>= g) :=
 bN vd fun u u' (hu:u = φ u')=>hu ▸ k u'
end
def kM (bs:List Addr) (x:Keyed):Keyed:=match x.1 with
 | .ref i=>(.ref (bs.getD i 0),.ref (bs.getD i 0))
 | _=>(.none,.none)
def ay (ns:List (List Int)) (i j:Nat):Option Bool:=match ns[i]?,ns[j]? with
 | some x,some y=>some (HT.lexLt x y)
 | _,_=>none
section
variable {prog:Program} {w:World} {A:Around} {E:Value->Shared->Prop} {s:Shared} {bs:List Addr} {ns:List (List Int)}
theorem oX (h:∀ a,v ≠ .ref a):∃ t,Builtin.List.listItems v=Sem.unsupported t:=by
 cases v
 case ref a=>exact absurd rfl (h a)
 case builtin id =>
  by_cases b:(withoutEnding? id "#opaque").isSome=true
  ·have e:notAStandIn (.builtin id)=Sem.unsupported id:=if_pos b
   refine ⟨id,?_⟩
   show Sem.bind (Sem.bind (notAStandIn (.builtin id)) _) _=_
   rw [e]
   rfl
  ·have e:notAStandIn (.builtin id)=Sem.pure ():=if_neg b
   have c:Builtin.List.listItems (.builtin id)=Sem.bind (Sem.bind (notAStandIn (.builtin id)) _) _:=rfl
   rw [e] at c
   exact ⟨_,c⟩
 all_goals exact ⟨_,rfl⟩
theorem z7 (h:∀ a,v ≠ .ref a):∃ t,keyLt' (aO true) v y=Sem.unsupported t:=by
 obtain ⟨t,e⟩:=oX h
 obtain ⟨G,e1⟩:∃ G,keyLt' (aO true) v y=(Builtin.List.listItems v).bind G:=⟨_,rfl⟩
 exact ⟨t,by rw [e1,e];rfl⟩
theorem z6 (h:∀ a,v ≠ .ref a):∃ t,keyLt' (aO true) (.ref i) v=(Builtin.List.listItems (.ref i)).bind fun _=>Sem.unsupported t:=by
 obtain ⟨t,e⟩:=oX h
 obtain ⟨G,e1⟩:∃ G:Array Value->Array Value->Sem Bool,keyLt' (aO true) (.ref i) v=(Builtin.List.listItems (.ref i)).bind fun xs=>(Builtin.List.listItems v).bind (G xs):=⟨_,rfl⟩
 exact ⟨t,by rw [e1,e];rfl⟩
theorem tN (p:IsNts s.heap a x) (l:IsNts s.heap b y) (hu:A.units < cLine) (h:Q (HT.lexLt x y) s):wpAny (model prog w) A (oneLt' true (.ref a) (.ref b)) Q E s:=by
 obtain ⟨i,⟨⟨c1,e,g,f⟩,e1,c1,k,d1⟩,q⟩:=p
 obtain ⟨n,⟨⟨c2,c,m,d⟩,j,c2,r,d2⟩,o⟩:=l
 simp only at c1 d1 c2 d2
 subst c1 d1 c2 d2
 rw [oneLt'_eq]
 simp only [if_true]
 refine Dm (wpAny_cRoomFor hu ?_)
 refine Dm (wpAny_callSpecialIfBound?_slot (T:="tuple") ⟨_,e1,rfl⟩ PySem.F.slot_tuple_lt (call_meets PySem.F.slot_tuple_lt (T:="tuple") ⟨_,e1,rfl⟩ PySem.F.entry_tuple_lt (PySem.F.args_tuple_lt_2 _ _) (HT.tuple_lt_ints a b i n k r e c f d x y q o) ⟨e1,j,?_⟩))
 exact Ec h
theorem Bw (hu:A.units < cLine) (v:∀ (i:Nat) (n:List Int),ns[i]?=some n->IsNts s.heap (bs.getD i 0) n) (x y:Keyed):Sim prog w A E s (kM bs) (ay ns) (lt' (kM bs x) (kM bs y)) (lt' x y):=by
 intro st ps b c q f e
 obtain ⟨u,B⟩:=x
 obtain ⟨o,z⟩:=y
 have l:=f.kind'
 cases ps with
 | mk k a pd g fl =>
 have l:k=aO true:=l
 subst l
 by_cases d:∀ a,u ≠ .ref a
 ·obtain ⟨t,h⟩:=z7 (y:=o) d
  rw [lt'_eq] at e
  have e:ev (ay ns) (Sem.bind (Sem.bind (Sem.attempt (keyLt' (aO true) u o)) _) _) none=some ((b,c),q):=e
  rw [h] at e
  cases e
 ·by_cases r:∀ a,o ≠ .ref a
  ·obtain ⟨i,d⟩:=Classical.not_forall.mp d
   obtain rfl:u=.ref i:=Classical.not_not.mp d
   obtain ⟨t,h⟩:=z6 (i:=i) r
   rw [lt'_eq] at e
   have e:ev (ay ns) (Sem.bind (Sem.bind (Sem.attempt (keyLt' (aO true) (.ref i) o)) _) _) none=some ((b,c),q):=e
   rw [h] at e
   cases e
  ·obtain ⟨i,d⟩:=Classical.not_forall.mp d
   obtain rfl:u=.ref i:=Classical.not_not.mp d
   obtain ⟨j,r⟩:=Classical.not_forall.mp r
   obtain rfl:o=.ref j:=Classical.not_not.mp r
   have e:(match ay ns i j with
    | some true=>some ((some true,SortSt.mk' (aO true) a pd g fl),none)
    | some false=>some ((some false,SortSt.mk' (aO true) a pd g fl),none)
    | none=>none)=some ((b,c),q):=e
   unfold ay at e
   cases e1:ns[i]? with
   | none=>rw [e1] at e;cases e
   | some n =>
    cases p:ns[j]? with
    | none=>rw [e1,p] at e;cases e
    | some m =>
     rw [e1,p] at e
     have e:(match some (HT.lexLt n m) with
      | some true=>some ((some true,SortSt.mk' (aO true) a pd g fl),none)
      | some false=>some ((some false,SortSt.mk' (aO true) a pd g fl),none)
      | none=>none)=some ((b,c),q):=e
     have e:some ((some (HT.lexLt n m),SortSt.mk' (aO true) a pd g fl),(none:Option Addr))=some ((b,c),q):=by
      rw [<- e]
      cases HT.lexLt n m <;> rfl
     cases e
     refine ⟨_,st,rfl,f,rfl,fun Q q=>?_⟩
     rw [lt'_eq]
     refine wpS_bind (wpS_get ?_)
     rcases f.kind with l | l <;> rw [l]
     ·refine wpS_bind (wpS_lift (wpAny_attempt (t9 (v i n e1) (v j m p) ⟨rfl,?_⟩)))
      exact wpS_pure q
     ·rw [keyLt'_oneType]
      refine wpS_bind (wpS_lift (wpAny_attempt (tN (v i n e1) (v j m p) hu ⟨rfl,?_⟩)))
      exact wpS_pure q
end
end L2
end
section
namespace L2
open PySem PySem.Spec PyProof.Rows
def so:Bool->Keyed->Array Keyed->Nat->Nat->Nat->StateT SortSt Sem (Option Nat):=sortPriv% PySem.Builtin.gallop
def oI:Array Keyed->Array Keyed->StateT SortSt Sem (Array Keyed):=sortPriv% PySem.Builtin.mergeLo
def oJ:Array Keyed->Array Keyed->StateT SortSt Sem (Array Keyed):=sortPriv% PySem.Builtin.mergeHi
def vj:Nat->StateT SortSt Sem Unit:=sortPriv% PySem.Builtin.setMinGallop
section
variable {prog:Program} {w:World} {A:Around} {E:Value->Shared->Prop} {s:Shared} {φ:Keyed->Keyed} {cmp:Nat->Nat->Option Bool}
theorem lD {g:Nat}:Sim prog w A E s φ cmp (vj g) (vj g) :=
 cZ fun st ps f=>⟨f.kind,f.kind',f.arr,f.pend,rfl,f.fail,f.fail'⟩
theorem fT [EqRl γ] [EqRl δ] [Rl φ β] {m p:StateT SortSt Sem (Option γ × δ)} {f g:Option γ × δ->StateT SortSt Sem β} (h:Sim prog w A E s φ cmp m p) (a:∀ d,Sim prog w A E s φ cmp (f (none,d)) (g (none,d))) (ks:∀ c d,Sim prog w A E s φ cmp (f (some c,d)) (g (some c,d))):Sim prog w A E s φ cmp (m >>= f) (p >>= g) :=
 aq h fun x=>match x with
  | (none,d)=>a d
  | (some c,d)=>ks c d
theorem nW (a:∀ x y:Keyed,Sim prog w A E s φ cmp (lt' (φ x) (φ y)) (lt' x y)) {i j:Nat}:Sim prog w A E s φ cmp (ltAt' i j) (ltAt' i j):=by
 rw [ltAt'_eq]
 refine bN rp fun st ps f=>?_
 have e:arrOf st=(arrOf ps).map φ:=Fol.arr f
 dsimp only
 rw [e]
 exact bt fun u=>bt fun v=>a u v
theorem cI {β:Type} (p q:β->Nat):∀ (l:List β) (xs:Array Keyed),l.foldl (fun a k=>a.swapIfInBounds (p k) (q k)) (xs.map φ)=(l.foldl (fun a k=>a.swapIfInBounds (p k) (q k)) xs).map φ
 | [],xs=>rfl
 | k :: l,xs=>by
  rw [List.foldl_cons,List.foldl_cons,<- cI p q l]
  congr 1
  apply Array.ext_getElem?
  intro i
  rw [Array.getElem?_map]
  by_cases h1:p k < xs.size
  ·by_cases h2:q k < xs.size
   ·rw [getElem?_swapIB (by simpa using h1) (by simpa using h2),getElem?_swapIB h1 h2]
    simp only [Array.getElem?_map]
    repeat' split
    all_goals rfl
   ·rw [Array.swapIfInBounds_def,Array.swapIfInBounds_def,dif_pos (by simpa using h1),dif_neg (by simpa using h2),dif_pos h1,dif_neg h2,Array.getElem?_map]
  ·rw [Array.swapIfInBounds_def,Array.swapIfInBounds_def,dif_neg (by simpa using h1),dif_neg h1,Array.getElem?_map]
theorem rh {i j:Nat}:Sim prog w A E s φ cmp (reverseSlice' i j) (reverseSlice' i j):=by
 rw [reverseSlice'_eq]
 refine cZ fun st ps f=>⟨f.kind,f.kind',?_,f.pend,f.mg,f.fail,f.fail'⟩
 show mirror (arrOf st) _ _ _=(mirror (arrOf ps) _ _ _).map φ
 rw [f.arr]
 exact cI _ _ _ _
theorem nX {i j:Nat}:Sim prog w A E s φ cmp (moveDown' i j) (moveDown' i j):=by
 rw [moveDown'_eq]
 refine cZ fun st ps f=>⟨f.kind,f.kind',?_,f.pend,f.mg,f.fail,f.fail'⟩
 show bubble (arrOf st) _ _=(bubble (arrOf ps) _ _).map φ
 rw [f.arr]
 exact cI _ _ _ _
theorem yM (a:∀ x y:Keyed,Sim prog w A E s φ cmp (lt' (φ x) (φ y)) (lt' x y)) {lo n ok:Nat}:Sim prog w A E s φ cmp (binarySort' lo n ok) (binarySort' lo n ok):=by
 rw [binarySort'_eq]
 repeat' first
  | exact aA rfl
  | exact ci
  | refine bm (fun _=>?_) (fun _=>?_)
  | (refine bh (nW a) ?_ (fun u=>?_) <;> try dsimp only)
  | (refine aq rh (fun u=>?_);try dsimp only)
  | (refine aq nX (fun u=>?_);try dsimp only)
  | (refine aq cY (fun u=>?_);try dsimp only)
  | (refine fT (fS fun i x=>?_) (fun d=>?_) (fun c d=>?_) <;> try dsimp only)
  | (refine aq (fS fun i x=>?_) (fun x=>?_) <;> try dsimp only)
theorem yK (a:∀ x y:Keyed,Sim prog w A E s φ cmp (lt' (φ x) (φ y)) (lt' x y)) {lo n:Nat}:Sim prog w A E s φ cmp (countRun' lo n) (countRun' lo n):=by
 rw [countRun'_eq]
 repeat' first
  | exact aA rfl
  | exact ci
  | refine bm (fun _=>?_) (fun _=>?_)
  | (refine bh (nW a) ?_ (fun u=>?_) <;> try dsimp only)
  | (refine aq rh (fun u=>?_);try dsimp only)
  | (refine aq nX (fun u=>?_);try dsimp only)
  | (refine aq cY (fun u=>?_);try dsimp only)
  | (refine fT (fS fun i x=>?_) (fun d=>?_) (fun c d=>?_) <;> try dsimp only)
  | (refine aq (fS fun i x=>?_) (fun x=>?_) <;> try dsimp only)
end
end L2
end
section
namespace L2
open PySem PySem.Spec PyProof.Rows
section
variable {prog:Program} {w:World} {A:Around} {E:Value->Shared->Prop} {s:Shared} {φ:Keyed->Keyed} {cmp:Nat->Nat->Option Bool}
theorem d9 (a:∀ x y:Keyed,Sim prog w A E s φ cmp (lt' (φ x) (φ y)) (lt' x y)) {base n hint:Nat}:Sim prog w A E s φ cmp (so left (φ key) (arr.map φ) base n hint) (so left key arr base n hint):=by
 refine bh (bt fun u=>bm (fun _=>a _ _) (fun _=>aq (a _ _) fun r=>aA rfl)) (aA rfl) (fun u=>?_)
 dsimp only
 repeat' first
  | exact aA rfl
  | refine bm (fun _=>?_) (fun _=>?_)
  | (refine bh (bt fun u=>bm (fun _=>a _ _) (fun _=>aq (a _ _) fun r=>aA rfl)) ?_ (fun u=>?_) <;> try dsimp only)
  | (refine fT (fS fun i x=>?_) (fun d=>?_) (fun c d=>?_) <;> try dsimp only)
end
end L2
end
section
namespace L2
open PySem PySem.Spec PyProof.Rows
section
variable {prog:Program} {w:World} {A:Around} {E:Value->Shared->Prop} {s:Shared} {φ:Keyed->Keyed} {cmp:Nat->Nat->Option Bool}
theorem jq [EqRl α]:@Rl.rel φ α rlE a a:=rfl
theorem fB {X Y:Array Keyed} (h:X=Y.map φ):Rl.rel φ X Y:=h
theorem du [Rl φ α] {a b:α} (h:Rl.rel φ a b):@Rl.rel φ _ rlO (some a) (some b):=h
theorem dy [Rl φ α]:@Rl.rel φ _ rlO (none:Option α) none:=trivial
theorem dz [Rl φ α] {a b:α} (h:Rl.rel φ a b):@Rl.rel φ _ rlF (ForInStep.done a) (ForInStep.done b):=h
theorem cw [Rl φ α] {a b:α} (h:Rl.rel φ a b):@Rl.rel φ _ rlF (ForInStep.yield a) (ForInStep.yield b):=h
theorem dw [Rl φ α] [Rl φ β] {a b:α} {d c:β} (h:Rl.rel φ a b) (h':Rl.rel φ d c):@Rl.rel φ _ rlP (a,d) (b,c):=⟨h,h'⟩
theorem u9 [EqRl γ] {a b : Nat} {x y : Option (Array Keyed) × Array Keyed × γ} {f g : Nat -> Option (Array Keyed) × Array Keyed × γ -> StateT SortSt Sem (ForInStep (Option (Array Keyed) × Array Keyed × γ))} (r : Rl.rel φ x y) (h : ∀ i o d c, Sim prog w A E s φ cmp (f i (o.map (Array.map φ), d.map φ, c)) (g i (o, d, c))) : Sim prog w A E s φ cmp (forIn [a:b] x f) (forIn [a:b] y g) := by
  refine ee r fun i x y r => ?_
  obtain ⟨m, v, e⟩ := x
  obtain ⟨n, j, l⟩ := y
  obtain ⟨k, t, u⟩ := r
  obtain rfl : v = j.map φ := t
  obtain rfl : e = l := u
  cases m <;> cases n <;> first | exact False.elim k | skip
  · exact h i none j e
  · rename_i p q
    obtain rfl : p = q.map φ := k
    exact h i (some q) j e
theorem tf [EqRl γ] [Rl φ β] {m p : StateT SortSt Sem (Option (Array Keyed) × Array Keyed × γ)} {f g : Option (Array Keyed) × Array Keyed × γ -> StateT SortSt Sem β} (h : Sim prog w A E s φ cmp m p) (n : ∀ d c, Sim prog w A E s φ cmp (f (none, d.map φ, c)) (g (none, d, c))) (ks : ∀ r d c, Sim prog w A E s φ cmp (f (some (r.map φ), d.map φ, c)) (g (some r, d, c))) : Sim prog w A E s φ cmp (m >>= f) (p >>= g) := by
  refine bN h fun x y r => ?_
  obtain ⟨j, t, a⟩ := x
  obtain ⟨k, b, i⟩ := y
  obtain ⟨e, l, o⟩ := r
  obtain rfl : t = b.map φ := l
  obtain rfl : a = i := o
  cases j <;> cases k <;> first | exact False.elim e | skip
  · exact n b a
  · rename_i p q
    obtain rfl : p = q.map φ := e
    exact ks q b a
theorem cj [Rl φ β] {f g:SortSt->StateT SortSt Sem β} (k:∀ st ps,Fol φ st ps->Sim prog w A E s φ cmp (f st) (g ps)):Sim prog w A E s φ cmp (get >>= f) (get >>= g) :=
 bN rp fun st ps a=>k st ps a
theorem nR (f:∀ x y:Keyed,Sim prog w A E s φ cmp (lt' (φ x) (φ y)) (lt' x y)) (a b:Array Keyed):Sim prog w A E s φ cmp (oI (a.map φ) (b.map φ)) (oI a b):=by
 refine aq cY fun _=>?_
 refine bt fun y=>?_
 simp only [Array.size_map]
 refine bm (fun _=>aA (by (repeat' first | with_reducible exact dy | with_reducible apply dz | with_reducible apply cw | with_reducible apply du | (with_reducible apply fB;simp only [Array.map_append,Array.map_push,Array.map_extract,Array.map_reverse,List.map_toArray,DL,List.map_nil];done) | with_reducible apply dw | with_reducible exact jq))) fun _=>?_
 refine bm (fun _=>aA (by (repeat' first | with_reducible exact dy | with_reducible apply dz | with_reducible apply cw | with_reducible apply du | (with_reducible apply fB;simp only [Array.map_append,Array.map_push,Array.map_extract,Array.map_reverse,List.map_toArray,DL,List.map_nil];done) | with_reducible apply dw | with_reducible exact jq))) fun _=>?_
 refine cj fun st ps g=>?_
 have e:=g.mg
 simp only [gallopOf] at e
 rw [e]
 repeat' first
  | exact aA (by (repeat' first | with_reducible exact dy | with_reducible apply dz | with_reducible apply cw | with_reducible apply du | (with_reducible apply fB;simp only [Array.map_append,Array.map_push,Array.map_extract,Array.map_reverse,List.map_toArray,DL,List.map_nil];done) | with_reducible apply dw | with_reducible exact jq))
  | exact ci
  | refine bm (fun _=>?_) (fun _=>?_)
  | refine aq lD (fun _=>?_)
  | refine aq cY (fun _=>?_)
  | refine bt fun u=>?_
  | (refine bh (d9 f) ?_ (fun u=>?_) <;> try dsimp only)
  | (refine bh (f _ _) ?_ (fun u=>?_) <;> try dsimp only)
  | (refine tf (u9 (by (repeat' first | with_reducible exact dy | with_reducible apply dz | with_reducible apply cw | with_reducible apply du | (with_reducible apply fB;simp only [Array.map_append,Array.map_push,Array.map_extract,Array.map_reverse,List.map_toArray,DL,List.map_nil];done) | with_reducible apply dw | with_reducible exact jq)) fun i o d c=>?_) (fun d c=>?_) (fun r d c=>?_) <;> try dsimp only)
end
end L2
end
section
namespace L2
open PySem PySem.Spec PyProof.Rows
section
variable {prog:Program} {w:World} {A:Around} {E:Value->Shared->Prop} {s:Shared} {φ:Keyed->Keyed} {cmp:Nat->Nat->Option Bool}
theorem u8 [EqRl γ] {a b : Nat} {x y : Option (Array Keyed) × Nat × Nat × Array Keyed × γ} {f g : Nat -> Option (Array Keyed) × Nat × Nat × Array Keyed × γ -> StateT SortSt Sem (ForInStep (Option (Array Keyed) × Nat × Nat × Array Keyed × γ))} (r : Rl.rel φ x y) (h : ∀ i o m n d c, Sim prog w A E s φ cmp (f i (o.map (Array.map φ), m, n, d.map φ, c)) (g i (o, m, n, d, c))) : Sim prog w A E s φ cmp (forIn [a:b] x f) (forIn [a:b] y g) := by
  refine ee r fun i x y r => ?_
  obtain ⟨z, l, v, I, e⟩ := x
  obtain ⟨C, u, H, j, t⟩ := y
  obtain ⟨k, F, B, D, G⟩ := r
  obtain rfl : l = u := F
  obtain rfl : v = H := B
  obtain rfl : I = j.map φ := D
  obtain rfl : e = t := G
  cases z <;> cases C <;> first | exact False.elim k | skip
  · exact h i none _ _ j e
  · rename_i p q
    obtain rfl : p = q.map φ := k
    exact h i (some q) _ _ j e
theorem s9 [EqRl γ] [Rl φ β] {m p : StateT SortSt Sem (Option (Array Keyed) × Nat × Nat × Array Keyed × γ)} {f g : Option (Array Keyed) × Nat × Nat × Array Keyed × γ -> StateT SortSt Sem β} (h : Sim prog w A E s φ cmp m p) (z : ∀ m n d c, Sim prog w A E s φ cmp (f (none, m, n, d.map φ, c)) (g (none, m, n, d, c))) (ks : ∀ r m n d c, Sim prog w A E s φ cmp (f (some (r.map φ), m, n, d.map φ, c)) (g (some r, m, n, d, c))) : Sim prog w A E s φ cmp (m >>= f) (p >>= g) := by
  refine bN h fun x y r => ?_
  obtain ⟨o, i, l, F, a⟩ := x
  obtain ⟨u, k, D, b, j⟩ := y
  obtain ⟨e, B, t, v, C⟩ := r
  obtain rfl : i = k := B
  obtain rfl : l = D := t
  obtain rfl : F = b.map φ := v
  obtain rfl : a = j := C
  cases o <;> cases u <;> first | exact False.elim e | skip
  · exact z _ _ b a
  · rename_i p q
    obtain rfl : p = q.map φ := e
    exact ks q _ _ b a
theorem nU (e:∀ x y:Keyed,Sim prog w A E s φ cmp (lt' (φ x) (φ y)) (lt' x y)) (a b:Array Keyed):Sim prog w A E s φ cmp (oJ (a.map φ) (b.map φ)) (oJ a b):=by
 refine aq cY fun _=>?_
 simp only [Array.size_map]
 refine bt fun y=>?_
 refine bm (fun _=>aA (by (repeat' first | with_reducible exact dy | with_reducible apply dz | with_reducible apply cw | with_reducible apply du | (with_reducible apply fB;simp only [Array.map_append,Array.map_push,Array.map_extract,Array.map_reverse,List.map_toArray,DL,List.map_nil];done) | with_reducible apply dw | with_reducible exact jq))) fun _=>?_
 refine bm (fun _=>aA (by (repeat' first | with_reducible exact dy | with_reducible apply dz | with_reducible apply cw | with_reducible apply du | (with_reducible apply fB;simp only [Array.map_append,Array.map_push,Array.map_extract,Array.map_reverse,List.map_toArray,DL,List.map_nil];done) | with_reducible apply dw | with_reducible exact jq))) fun _=>?_
 refine cj fun st ps g=>?_
 have f:=g.mg
 simp only [gallopOf] at f
 rw [f]
 repeat' first
  | exact aA (by (repeat' first | with_reducible exact dy | with_reducible apply dz | with_reducible apply cw | with_reducible apply du | (with_reducible apply fB;simp only [Array.map_append,Array.map_push,Array.map_extract,Array.map_reverse,List.map_toArray,DL,List.map_nil];done) | with_reducible apply dw | with_reducible exact jq))
  | exact ci
  | refine bm (fun _=>?_) (fun _=>?_)
  | refine aq lD (fun _=>?_)
  | refine aq cY (fun _=>?_)
  | refine bt fun u=>?_
  | (refine bh (d9 e) ?_ (fun u=>?_) <;> try dsimp only)
  | (refine bh (e _ _) ?_ (fun u=>?_) <;> try dsimp only)
  | (refine s9 (u8 (by (repeat' first | with_reducible exact dy | with_reducible apply dz | with_reducible apply cw | with_reducible apply du | (with_reducible apply fB;simp only [Array.map_append,Array.map_push,Array.map_extract,Array.map_reverse,List.map_toArray,DL,List.map_nil];done) | with_reducible apply dw | with_reducible exact jq)) fun i o m n d c=>?_) (fun m n d c=>?_) (fun r m n d c=>?_) <;> try dsimp only)
end
end L2
end
section
namespace L2
open PySem PySem.Spec PyProof.Rows
section
variable {prog:Program} {w:World} {A:Around} {E:Value->Shared->Prop} {s:Shared} {φ:Keyed->Keyed} {cmp:Nat->Nat->Option Bool}
theorem lZ (b:∀ a p j,G (a.map φ) (φ p,j)=(G a (p,j)).map φ):∀ (l:List (Keyed × Nat)) (xs:Array Keyed),(l.map fun x=>(φ x.1,x.2)).foldl G (xs.map φ)=(l.foldl G xs).map φ
 | [],xs=>rfl
 | (p,j) :: l,xs=>by
  rw [DL,List.foldl_cons,List.foldl_cons,<- lZ b l]
  dsimp only
  rw [b]
theorem rj {f:SortSt->Array Keyed->SortSt} (hf:∀ st X,f st X=setArr st (X.toList.zipIdx.foldl G (arrOf st))) (c:∀ a p j,G (a.map φ) (φ p,j)=(G a (p,j)).map φ):Sim prog w A E s φ cmp (modify fun st=>f st (m.map φ)) (modify fun st=>f st m):=by
 refine cZ fun st ps b=>?_
 rw [hf,hf]
 refine ⟨b.kind,b.kind',?_,b.pend,b.mg,b.fail,b.fail'⟩
 show _=Array.map φ (m.toList.zipIdx.foldl G (arrOf ps))
 rw [<- lZ c,<- b.arr]
 show (m.map φ).toList.zipIdx.foldl G (arrOf st)=_
 congr 1
 rw [Array.toList_map,List.zipIdx_map]
 rfl
theorem lE [Rl φ β] {f g:Array Keyed->StateT SortSt Sem β} (h:Sim prog w A E s φ cmp m p) (k:∀ d,Sim prog w A E s φ cmp (f (d.map φ)) (g d)):Sim prog w A E s φ cmp (m >>= f) (p >>= g):=by
 refine bN h fun x y (r:x=y.map φ)=>?_
 rw [r]
 exact k y
theorem nV (e:∀ x y:Keyed,Sim prog w A E s φ cmp (lt' (φ x) (φ y)) (lt' x y)) (i:Nat):Sim prog w A E s φ cmp (mergeAt' i) (mergeAt' i):=by
 refine cj fun st ps c=>?_
 have h1:=c.arr
 have h2:=c.pend
 simp only [arrOf,pendingOf] at h1 h2
 rw [h2]
 generalize (pendingOf ps)[i]?=a
 generalize (pendingOf ps)[i+1]?=b
 cases a with
 | none=>exact ci
 | some a =>
 cases b with
 | none=>exact ci
 | some b =>
 obtain ⟨sa,na,h⟩:=a
 obtain ⟨sb,nb,g⟩:=b
 refine aq (yJ ⟨c.kind,c.kind',c.arr,rfl,c.mg,c.fail,c.fail'⟩) fun _=>?_
 rw [h1]
 refine bt fun u=>?_
 refine bh (d9 e) (aA rfl) fun k=>?_
 refine bm (fun _=>aA rfl) fun _=>?_
 refine bt fun u=>?_
 refine bh (d9 e) (aA rfl) fun k=>?_
 refine bm (fun _=>aA rfl) fun _=>?_
 simp only [<- Array.map_extract]
 refine bm (fun _=>?_) fun _=>?_
 ·refine lE (nR e _ _) fun d=>aq (rj (fun _ _=>rfl) fun _ _ _=>Array.map_setIfInBounds.symm) fun _=>cj fun st ps f=>aA ?_
  show (failedOf st).isNone=(failedOf ps).isNone
  rw [f.fail,f.fail']
 ·refine lE (nU e _ _) fun d=>aq (rj (fun _ _=>rfl) fun _ _ _=>Array.map_setIfInBounds.symm) fun _=>cj fun st ps f=>aA ?_
  show (failedOf st).isNone=(failedOf ps).isNone
  rw [f.fail,f.fail']
theorem nQ (F:Array (Nat × Nat × Nat)->Array (Nat × Nat × Nat)) (hf:∀ st,f st=setPending st (F (pendingOf st))):Sim prog w A E s φ cmp (modify f) (modify f) :=
 cZ fun st ps a=>by
  rw [hf,hf]
  exact ⟨a.kind,a.kind',a.arr,congrArg F a.pend,a.mg,a.fail,a.fail'⟩
theorem u6 (b:∀ x y:Keyed,Sim prog w A E s φ cmp (lt' (φ x) (φ y)) (lt' x y)):Sim prog w A E s φ cmp sortRuns' sortRuns':=by
 rw [sortRuns'_eq]
 refine cj fun st ps a=>?_
 have hsz:(arrOf st).size=(arrOf ps).size:=by rw [a.arr,Array.size_map]
 dsimp only
 rw [hsz]
 generalize (arrOf ps).size=n
 repeat' first
  | exact aA rfl
  | refine bm (fun _=>?_) (fun _=>?_)
  | (refine bh (yK b) ?_ (fun u=>?_) <;> try dsimp only)
  | (refine aq (yM b) (fun u=>?_);try dsimp only)
  | (refine aq (nV b _) (fun u=>?_);try dsimp only)
  | (refine aq cY (fun u=>?_);try dsimp only)
  | (refine aq (nQ (fun p=>p.push _) fun _=>rfl) (fun u=>?_);try dsimp only)
  | (refine aq (nQ (fun p=>p.modify (p.size - 1) _) fun _=>rfl) (fun u=>?_);try dsimp only)
  | (refine cj fun st ps a=>?_;rw [a.pend];generalize pendingOf ps=p;try dsimp only)
  | (refine fT (fS fun i x=>?_) (fun d=>?_) (fun c d=>?_) <;> try dsimp only)
  | (generalize Array.back? _=d;rcases d with _ | ⟨s1,e,x⟩ <;> dsimp only)
  | (generalize (if p.size > 1 then p[p.size - 2]? else none)=d;rcases d with _ | ⟨s1,e,x⟩ <;> dsimp only)
end
end L2
end
section
namespace L2
open PySem PySem.Spec PyProof.Rows
def lP (n:Nat):Array Keyed:=((List.range n).map fun i=>((Value.ref i,Value.ref i):Keyed)).toArray
def ki (x:Keyed):Option Nat:=match x.1 with
 | .ref i=>some i
 | _=>none
def aW (ns:List (List Int)):Option (List Nat) :=
 match ev (ay ns) (sortRuns'.run (SortSt.mk' (aO true) (lP ns.length) #[] 7 none)) none with
 | some ((_,st),_)=>(arrOf st).toList.mapM ki
 | none=>none
end L2
end
section
namespace L2
open PySem PySem.Spec PyProof.Rows
structure NRs (h:Heap) (bs:List Addr) (ns:List (List Int)):Prop where
 len:ns.length=bs.length
 at':∀ (i:Nat) (b:Addr) (n:List Int),bs[i]?=some b->ns[i]?=some n->IsNts h b n
theorem NRs.tail (r:NRs h (b :: bs) (n :: ns)):NRs h bs ns :=
 ⟨by simpa using r.len,fun i b n e1 a=>r.at' (i+1) b n (by simpa using e1) (by simpa using a)⟩
theorem NRs.keep (r:NRs h bs ns) (k:∀ b ∈ bs,∀ o,h.get? b=some o->h'.get? b=some o):NRs h' bs ns :=
 ⟨r.len,fun i b n e1 a=>(r.at' i b n e1 a).at (k b (DD e1))⟩
theorem NRs.mem (r:NRs h bs ns):∀ b ∈ bs,∃ n ∈ ns,IsNts h b n:=fun b c=>by
 obtain ⟨i,hi⟩:=List.getElem?_of_mem c
 have a:i < ns.length:=by rw [r.len];exact (DC.mp hi).1
 exact ⟨ns[i],List.getElem_mem _,r.at' i b _ hi (Dx a)⟩
def kOk (ns:List (List Int)):Prop:=(∀ n ∈ ns,n ≠ [])\/ns.head?=some []
theorem p8:aW []=some []:=by kernel_rfl
theorem p7 (n:List Int):aW [n]=some [0]:=by kernel_rfl
section
variable {prog:Program} {w:World} {A:Around} {E:Value->Shared->Prop} {s:Shared}
theorem xv (a:IsNts s.heap b []) (h:Q none s):wpAny (model prog w) A (firstOfTuple' (.ref b)) Q E s:=by
 obtain ⟨it,⟨o,e,c,k,d⟩,j⟩:=a
 refine Dm (wpAny_typeOf (T:="tuple") ⟨o,e,c⟩ ?_)
 rw [if_neg (by decide)]
 refine Dm (listItems_at e d ?_)
 have:it[0]?=none:=by
  rw [<- Array.getElem?_toList]
  generalize it.toList=l at j
  cases j
  rfl
 rw [this]
 exact Dn h
theorem ib:∀ (bs:List Addr) (ns:List (List Int)),NRs s.heap bs ns->(∀ os:List (Option Value),(ns.head?=some []->os.head?=some none)->Q os s) ->
  wpAny (model prog w) A ((bs.map Value.ref).mapM firstOfTuple') Q E s
 | [],[],_,q=>by
  simp only [List.map_nil,List.mapM_nil]
  exact Dn (q [] fun h=>by cases h)
 | [],_ :: _,r,_=>by have:=r.len;cases this
 | _ :: _,[],r,_=>by have:=r.len;cases this
 | b :: bs,n :: ns,r,q=>by
  rw [DL,List.mapM_cons]
  have a:=r.at' 0 b n rfl rfl
  cases n with
  | nil=>exact Dm (xv a (Dm (ib bs ns r.tail fun os _=>Dn (q (none :: os) fun _=>rfl))))
  | cons i n=>exact Dm (l5 a (by simp) fun j t=>Dm (ib bs ns r.tail fun os _=>Dn (q (some (.int j t) :: os) fun h=>by simp at h)))
theorem ly:∀ (bs:List Addr) (ns:List (List Int)),NRs s.heap bs ns->Q (bs.map fun _=>.type "tuple") s->wpAny (model prog w) A ((bs.map Value.ref).mapM typeOf) Q E s
 | [],_,_,q=>by
  simp only [List.map_nil,List.mapM_nil]
  exact Dn q
 | _ :: _,[],r,_=>by have:=r.len;cases this
 | b :: bs,n :: ns,r,q=>by
  rw [DL,List.mapM_cons]
  obtain ⟨it,⟨o,e,c,k,d⟩,j⟩:=r.at' 0 b n rfl rfl
  exact Dm (wpAny_typeOf (T:="tuple") ⟨o,e,c⟩ (Dm (ly bs ns r.tail (Dn q))))
theorem wX (h2:bs ≠ []) (r:NRs s.heap bs ns) (a:kOk ns) (h:∀ k,qp k->Q k s):wpAny (model prog w) A (keyKind' (bs.map Value.ref).toArray) Q E s:=by
 rcases a with a | a
 ·refine wW h2 (fun b e=>?_) (h _ (.inl rfl))
  obtain ⟨n,f,x⟩:=r.mem b e
  exact ⟨n,a n f,x⟩
 ·rw [keyKind'_eq,List.mapM_toArray]
  refine Dm ?_
  rw [map_eq_pure_bind]
  refine Dm (ib bs ns r fun os d=>Dn ?_)
  have d:=d a
  obtain ⟨os,rfl⟩:∃ l,os=none :: l:=by
   cases os with
   | nil=>cases d
   | cons x l=>cases d;exact ⟨l,rfl⟩
  rw [if_neg (by simp),if_neg (by simp),oneTypeOnly'_eq,List.mapM_toArray]
  refine Dm (Dm ?_)
  rw [map_eq_pure_bind]
  refine Dm (ly bs ns r (Dn ?_))
  have h0:(List.map (fun _:Addr=>Value.type "tuple") bs).toArray[0]?=some (Value.type "tuple"):=by
   cases bs with
   | nil=>exact absurd rfl h2
   | cons b bs=>simp
  have c:((List.map (fun _:Addr=>Value.type "tuple") bs).toArray.all fun x=>x == Value.type "tuple")=true:=by
   simp only [List.all_toArray,List.all_map,List.all_eq_true]
   intro _ _
   rfl
  rw [h0]
  dsimp only
  rw [if_pos c]
  exact Dn (Dn (h _ (.inr rfl)))
theorem tM (bs:List Addr):(bs.map Value.ref).toArray.zip (bs.map Value.ref).toArray=(lP bs.length).map (kM bs):=by
 apply Array.ext_getElem?
 intro i
 rw [List.zip_toArray,Array.getElem?_map]
 unfold lP
 simp only [List.getElem?_toArray,DG]
 by_cases hi:i < bs.length
 ·rw [List.getElem?_range hi]
  have e:bs[i]?=some bs[i]:=Dx hi
  have:((bs.map Value.ref).zip (bs.map Value.ref))[i]?=some (Value.ref bs[i],Value.ref bs[i]):=by
   simp [List.getElem?_zip_eq_some,e]
  rw [this]
  simp [kM,List.getD,e]
 ·grind
theorem oD:∀ {l:List Keyed} {is:List Nat},l.mapM ki=some is->l.map (fun x=>(kM bs x).2)=is.map fun i=>Value.ref (bs.getD i 0)
 | [],is,h=>by cases h;rfl
 | x :: l,is,h=>by
  rw [List.mapM_cons] at h
  obtain ⟨i,e1,h⟩:=DW.mp h
  obtain ⟨a,b,h⟩:=DW.mp h
  cases h
  rw [DL,DL,oD b]
  congr 1
  unfold ki at e1
  unfold kM
  cases c:x.1 <;> rw [c] at e1 <;> cases e1
  rfl
theorem tv (hu:A.units < cLine) (r:NRs s.heap bs ns) (g:qp k) (c:aW ns=some is) (h:∀ b,(arrOf b).map (·.2)=(is.map fun i=>Value.ref (bs.getD i 0)).toArray->failedOf b=none->Q () b) :
  wpS (model prog w) A E s sortRuns' Q (SortSt.mk' k ((bs.map Value.ref).toArray.zip (bs.map Value.ref).toArray) #[] 7 none):=by
 unfold aW at c
 cases e:ev (ay ns) (sortRuns'.run (SortSt.mk' (aO true) (lP ns.length) #[] 7 none)) none with
 | none=>rw [e] at c;cases c
 | some p =>
  obtain ⟨⟨u,ps⟩,q⟩:=p
  rw [e] at c
  have c:(arrOf ps).toList.mapM ki=some is:=c
  have j:∀ (i:Nat) (n:List Int),ns[i]?=some n->IsNts s.heap (bs.getD i 0) n:=fun i n e=>by
   have hi:i < bs.length:=by rw [<- r.len];exact (DC.mp e).1
   have d:bs[i]?=some bs[i]:=Dx hi
   rw [List.getD,d]
   exact r.at' i _ n d e
  obtain ⟨a,b,_,f,_,hw⟩:=u6 (Bw (prog:=prog) (w:=w) (E:=E) hu j) (SortSt.mk' k ((bs.map Value.ref).toArray.zip (bs.map Value.ref).toArray) #[] 7 none) (SortSt.mk' (aO true) (lP ns.length) #[] 7 none) u ps q
   ⟨g,rfl,by rw [r.len];exact tM bs,rfl,rfl,rfl,rfl⟩ e
  refine hw _ (h b ?_ f.fail)
  rw [f.arr,Array.map_map]
  apply Array.ext'
  rw [Array.toList_map]
  exact oD c
theorem u5 {n:Nat} (hu:A.units < cLine) (j:s.heap.get? a=some (seqObj "list" (bs.map Value.ref).toArray n)) (r:NRs s.heap bs ns) (q:kOk ns) (l:aW ns=some is) (hsz:bs.length<=sizeLine) (u:is.length<=sizeLine) (h:P (.done (.ret .none)) { s with heap:=sortedHeap s.heap a (bs.map Value.ref) (is.map fun i=>Value.ref (bs.getD i 0)).toArray }) :
  wpAny (model prog w) A (Builtin.«list.sort» ⟨[.ref a],[]⟩) P E s:=by
 rw [list_sort_plain]
 have D:a < s.heap.objs.size:=Dy j
 have hsz2:(bs.map Value.ref).toArray.size<=sizeLine:=by simpa using hsz
 have g:(is.map fun i=>Value.ref (bs.getD i 0)).toArray.size<=sizeLine:=by simpa using u
 have x:∀ b ∈ bs,b ≠ a:=fun b v z=>by
  obtain ⟨m,_,it,⟨o,e1,c,_⟩,_⟩:=r.mem b v
  rw [z,j] at e1
  cases e1
  have c:Value.type "list"=Value.type "tuple":=c
  injection c with c
  exact absurd c (by decide)
 refine Dm (listItems_at j rfl ?_)
 refine Dm (listUpdate_at j rfl ?_)
 obtain ⟨e1,p⟩:∃ e1,(s.heap.update a (Obj.mapSeq fun _=>#[])).get? a=some (seqObj "list" #[] e1):=⟨_,get?_update_seq j (fun _=>#[])⟩
 refine Dm (seqEpoch_at p rfl ?_)
 refine Dm (wpAny_newTuple ?_)
 refine Dm (wpAny_newList ?_)
 refine Dp ?_
 have f:(((s.heap.update a (Obj.mapSeq fun _=>#[])).push (seqObj "tuple" (bs.map Value.ref).toArray 0)).push (seqObj "list" #[] 0)).get? a=some (seqObj "list" #[] e1) :=
  Ds _ (Ds _ p)
 have y:NRs (((s.heap.update a (Obj.mapSeq fun _=>#[])).push (seqObj "tuple" (bs.map Value.ref).toArray 0)).push (seqObj "list" #[] 0)) bs ns:=r.keep fun b v o e =>
  Ds _ (Ds _ ((Ea _ _ (Ne.symm (x b v))).trans e))
 show wpAny (model prog w) A _ P E { s with heap:=((s.heap.update a (Obj.mapSeq fun _=>#[])).push (seqObj "tuple" (bs.map Value.ref).toArray 0)).push (seqObj "list" #[] 0) }
 dsimp only
 by_cases h2:(bs.map Value.ref).toArray.size < 2
 ·rw [if_pos h2,if_pos h2]
  refine Dm (Dn ?_)
  rw [StateT.run_pure]
  refine Dm (Dn ?_)
  dsimp only
  have out:((bs.map Value.ref).toArray.zip (bs.map Value.ref).toArray).map (·.2)=(is.map fun i=>Value.ref (bs.getD i 0)).toArray:=by
   have B:=r.len
   match bs,ns,B,h2 with
   | [],[],_,_=>rw [p8] at l;cases l;simp
   | [b],[n],_,_=>rw [p7] at l;cases l;simp [List.zip_toArray]
   | _ :: _ :: _,_,_,h2=>simp at h2;lia
  refine Dm (seqEpoch_at f rfl ?_)
  show wpAny _ _ (Builtin.List.listUpdate (.ref a) (fun _=>((bs.map Value.ref).toArray.zip (bs.map Value.ref).toArray).map (·.2)) >>= _) _ _ _
  rw [out]
  refine Dm (listUpdate_at f rfl ?_ (hsz2:=Nat.le_succ_of_le g))
  simp only [bne_self_eq_false,DY,if_false]
  exact Dn h
 ·rw [if_neg h2,if_neg h2]
  have t:bs ≠ []:=fun z=>by subst z;simp at h2
  refine Dm (wX t y q fun k q=>?_)
  refine Dm (wpAny_mono (tv (Q:=fun _ d=>(arrOf d).map (·.2)=(is.map fun i=>Value.ref (bs.getD i 0)).toArray/\failedOf d=none) hu y q l fun d a1 a2=>⟨a1,a2⟩) ?_ fun _ _ e=>e)
  rintro ⟨⟨⟩,d⟩ s' ⟨rfl,C,hf⟩
  dsimp only
  refine Dm (seqEpoch_at f rfl ?_)
  rw [C]
  refine Dm (listUpdate_at f rfl ?_ (hsz2:=Nat.le_succ_of_le g))
  rw [hf]
  simp only [bne_self_eq_false,DY,if_false]
  exact Dn h
end
end L2
end
section
namespace L2
open PySem PySem.Spec PyProof.Rows
section
variable {prog:Program} {w:World} {A:Around} {E:Value->Shared->Prop} {s:Shared}
theorem p6 (hu:A.units+2 < cLine) (k:s.heap.IsList l (bs.map Value.ref).toArray) (r:NRs s.heap bs ns) (g:kOk ns) (j:aW ns=some is) (hsz:bs.length<=sizeLine) (d:is.length<=sizeLine) (h:∀ h' p,s.heap.objs.size<=p->(∀ b o,s.heap.get? b=some o->h'.get? b=some o)->(∃ e,h'.get? p=some (seqObj "list" (is.map fun i=>Value.ref (bs.getD i 0)).toArray e))->Q (.ref p) { s with heap:=h' }) :
  wpAny (model prog w) A (call (.builtin "sorted") [.ref l]) Q E s:=by
 refine Calls.call_function_entry kind_sorted plain_sorted entry_sorted (args_sorted1 _) ?_
 unfold Builtin.«sorted»
 refine Dm (m:=checkCount "sorted" 1 1 _) (Dn ?_)
 refine Dm (collect_list k ?_ (by rw [DB];exact hsz))
 refine Dm (wpAny_newList ?_ (by rw [DB];exact hsz))
 obtain ⟨h1,f,n,e1⟩:∃ h1,(∀ b o,s.heap.get? b=some o->h1.get? b=some o)/\s.heap.objs.size<=h1.objs.size/\h1=(s.heap.push (seqObj "list" #[] 0)).update s.heap.objs.size (Obj.mapSeq (· ++ (bs.map Value.ref).toArray)):=by
  refine ⟨_,fun b o e=>?_,?_,rfl⟩
  ·exact (Ea _ _ (Nat.ne_of_gt (Dy e))).trans (Ds _ e)
  ·rw [Heap.size_update,Eb]
   exact Nat.le_succ _
 rw [<- e1]
 have a:(h1.push (seqObj "list" (bs.map Value.ref).toArray 0)).get? h1.objs.size=some (seqObj "list" (bs.map Value.ref).toArray 0):=DA _ rfl
 have k2:∀ b o,s.heap.get? b=some o->(h1.push (seqObj "list" (bs.map Value.ref).toArray 0)).get? b=some o:=fun b o e=>Ds _ (f b o e)
 show wpAny _ _ _ _ _ { s with heap:=h1.push (seqObj "list" (bs.map Value.ref).toArray 0) }
 refine Dm (Dp (wpAny_call_entry slot_list_sort ⟨_,a,rfl⟩ entry_list_sort (u5 (s:={ s with heap:=h1.push (seqObj "list" (bs.map Value.ref).toArray 0) }) ?_ a (r.keep fun b _ o e=>k2 b o e) g j hsz d ⟨_,rfl,?_⟩) (args_list_sort _)))
 ·exact hu
 refine Dn ⟨_,rfl,h _ h1.objs.size n (fun b o e=>?_) ?_⟩
 ·have hb1:b < h1.objs.size:=Dy (f b o e)
  unfold sortedHeap
  refine (Ea _ _ (Nat.ne_of_gt hb1)).trans (Ds _ (Ds _ ?_))
  exact (Ea _ _ (Nat.ne_of_gt hb1)).trans (k2 b o e)
 ·unfold sortedHeap
  obtain ⟨e1,c⟩:∃ e1,((h1.push (seqObj "list" (bs.map Value.ref).toArray 0)).update h1.objs.size (Obj.mapSeq fun _=>#[])).get? h1.objs.size=some (seqObj "list" #[] e1):=⟨_,get?_update_seq a (fun _=>#[])⟩
  exact ⟨_,get?_update_seq (Ds _ (Ds _ c)) (fun _=>(is.map fun i=>Value.ref (bs.getD i 0)).toArray)⟩
end
section
variable {X:Cx}
def vR (K:FG):List V->Hp->VK->Prop:=fun xs H Q=>∃ (l:Addr) (bs:List Addr) (ns:List (List Int)) (is:List Nat),xs=[.ref l]/\SqL K H l (bs.map V.ref)/\ns.length=bs.length/\(∀ (i:Nat) (b:Addr) (n:List Int),bs[i]?=some b->ns[i]?=some n->H b=some (.tup (n.map V.int))) /\
 kOk ns/\aW ns=some is/\ns.length<=sizeLine/\is.length<=sizeLine/\∀ p,H p=none->Q (.ref p) (upd H p (.lst (is.map fun i=>V.ref (bs.getD i 0))))
theorem rG:∀ {us:List Value} {bs:List Addr},Vals (bs.map V.ref) us->us=bs.map Value.ref
 | _,[],h=>by cases h;rfl
 | _,b :: bs,h=>by
  cases h with
  | cons r h =>
   cases (show _=Value.ref b from r)
   rw [DL,rG h]
theorem qO (hu:X.A.units+2 < cLine):bM X (.builtin "sorted") (vR X.K):=by
 intro pins s σ H xs us Q I t h
 obtain ⟨l,bs,ns,is,rfl,m,C,z,w,j,hz,c,q⟩:=h
 obtain ⟨u,rfl,g⟩:=gi t
 cases (show u=Value.ref l from g)
 obtain ⟨its,y,p,_⟩:=I.list m
 have v:=rG y
 subst v
 refine p6 hu (by simpa using p.isList) ⟨C,fun i b n e1 x=>?_⟩ w j (by lia) c fun h' p f k ⟨e,he⟩=>?_
 ·obtain ⟨its,r,p,_⟩:=I.tuple (SqT.of (z i b n e1 x))
  exact ⟨_,p,kB r⟩
 ·have B:(is.map fun i=>V.ref (bs.getD i 0))=(is.map fun i=>bs.getD i 0).map V.ref:=by rw [Eg];rfl
  have d:(is.map fun i=>Value.ref (bs.getD i 0))=(is.map fun i=>bs.getD i 0).map Value.ref:=by rw [Eg];rfl
  refine ⟨.ref p,_,I.laid (a:=p) (o:=.lst (is.map fun i=>V.ref (bs.getD i 0))) (t':=s.toks) (fun b o q=>k b o q) f ⟨by rw [DB];exact c,is.map (fun i=>Value.ref (bs.getD i 0)),e,?_,he⟩,rfl,q p (I.hok.fresh f)⟩
  rw [B,d]
  exact ig _
end
end L2
end
section
namespace L2
open PySem PySem.W PySem.Spec PyProof.Rows
abbrev excO (a:Addr) (cls:Value):HO:=.ext fun h=>∃ o,h.get? a=some o/\o.cls=cls
abbrev xx (ob:Obj) (a:Addr) (cls:Value):HO:=.frz ob (excO a cls)
structure ExcK (K:FG) (D:Addr):Prop where
 ga:findIn K (.ref D) "__getattribute__"=some (some (.builtin "BaseException.__getattribute__"))
 gt:findIn K (.ref D) "__getattr__"=some none
 cl:(clsIn K D).isSome=true
 ca:findIn K (.ref D) "__class__"=some (some (.builtin "object.__class__"))
 sp:specialIn K (.builtin "object.__class__") "__get__"=some (some (.builtin "getset_descriptor.__get__"))
 tk:takesIn K (.builtin "object.__class__")=some true
 ob:mroIn K D (.type "object")=some true
 be:mroIn K D (.type "BaseException")=some true
structure XName (K:FG) (c:String) (D:Addr):Prop where
 ns:nsIn K mainGlobals (Str.ofString c)=some (some (.ref D))
 ex:ExcK K D
theorem XName.inj {K:FG} (a:XName K c D) (b:XName K c D'):D=D':=by
 have:=a.ns.symm.trans b.ns
 cases this
 rfl
end L2
end
section
namespace L2
open PySem
section
variable {K:FG} {h:Heap} {mg:Str->Option Value}
theorem wR {h : Heap} {i : Nat} {p : Obj} {q : Nat × Obj} (a : h.objs[i]? = some p) (e : oW (i, p) = some q) : q.1 = i /\ h.get? i = some q.2 := by
  obtain ⟨c, d, x, y⟩ := p
  unfold Heap.get?
  rw [a]
  cases x <;> first | (cases e; exact ⟨rfl, rfl⟩) | cases e
theorem i6:∀ {is:List Nat} {l:List Obj} {a:Nat} {o:Obj},(∀ (j i:Nat) (p:Obj),is[j]?=some i->l[j]?=some p->h.objs[i]?=some p)->((is.zip l).filterMap oW).lookup a=some o->h.get? a=some o
 | [],_,_,_,_,e=>by cases e
 | _ :: _,[],_,_,_,e=>by cases e
 | b :: is,p :: l,a,o,hj,e=>by
  have k:=hj 0 b p rfl rfl
  have f:∀ (j i:Nat) (p:Obj),is[j]?=some i->l[j]?=some p->h.objs[i]?=some p:=fun j i p h1 h2=>hj (j+1) i p (by simpa using h1) (by simpa using h2)
  rw [List.zip_cons_cons,List.filterMap_cons] at e
  cases d:oW (b,p) with
  | none=>rw [d] at e;exact i6 f e
  | some q =>
   rw [d] at e
   obtain ⟨h1,h2⟩:=wR k d
   obtain ⟨g,m⟩:=q
   cases h1
   replace e:List.lookup a ((g,m) :: (is.zip l).filterMap oW)=some o:=e
   rw [List.lookup_cons] at e
   cases c:a == g with
   | true=>rw [c] at e;cases eq_of_beq c;cases e;exact h2
   | false=>rw [c] at e;exact i6 f e
theorem fragAt_in (h:Heap):(xt h).In h:=fun _ _ e=>i6 (fun j i p h1 h2=>by
 obtain ⟨a,rfl⟩:=DC.mp h1
 simpa using h2) e
def stPos (s:Stmt):Pos:=match s with
 | .FunctionDef _ _ _ _ _ _ _ _ _ p=>p
 | _=>⟨0,0,0,0⟩
theorem C4 (X:K.In h) (G:h.Ns mainGlobals mg) (e:pe K n=kI n st):Def K mg n st:=by
 unfold pe at e
 split at e
 ·rename_i f hf
  split at e
  ·rename_i c d fd sl a
   unfold kI at e
   obtain ⟨name,qual,params,body,scope,globals,closure,defaults,kw,doc,pm,an,cd,ct,bi⟩:=fd
   simp only [Option.some.injEq,Prod.mk.injEq] at e
   obtain ⟨rfl,rfl,rfl,rfl,rfl,rfl,rfl,rfl,rfl,b⟩:=e
   exact ⟨f,_,CZ (st:=st) a b (by unfold PySem.W.keepIn;simp only [a]),PySem.W.mg_of X G hf⟩
  ·cases e
 ·cases e
theorem qr {α β:Type} {f g:α->β} {l:List α} (e:l.map f=l.map g) (i:Nat) {a:α} (h:l[i]?=some a):f a=g a:=List.map_inj_left.mp e a (DD h)
theorem aL {ds:List (Str × Stmt)} (X:K.In h) (G:h.Ns mainGlobals mg) (e:ds.map (fun p=>pe K p.1)=ds.map (fun p=>kI p.1 p.2)) (i:Nat) (hi:ds[i]?=some (n,st)):Def K mg n st:=C4 X G (qr e i hi)
theorem bI {l:List Str} (X:K.In h) (G:h.Ns mainGlobals mg) (e:l.map (PySem.W.nsIn K mainGlobals)=l.map (fun _=>some none)) (i:Nat) (hi:l[i]?=some n):mg n=none:=PySem.W.mg_none_of X G (qr e i hi)
theorem qF {l:List (Str × Int)} {v:Int} (X:K.In h) (G:h.Ns mainGlobals mg) (e:l.map (fun p=>mZ K p.1)=l.map (fun p=>some p.2)) (i:Nat) (hi:l[i]?=some (n,v)):∃ t,mg n=some (.int v t):=by
 have e:=qr e i hi
 unfold mZ at e
 dsimp only at e
 split at e
 ·rename_i b t a;cases e;exact ⟨t,PySem.W.mg_of X G a⟩
 ·cases e
theorem walk_ofS {l:PySem.W.OpenLaw} {n k:Nat} {S:FG->Prop} {sp:FG->Sp} (M:l.most=some n) (t:n<=sizeLine) (j:d.params.defaults=[]) (D:Room k callerA) (N:∀ (w:World) (h:Heap),YP w h->∃ K:FG,K.In h/\S K) (F:∀ (w:World) (mg:Str->Option Value) (i:Addr) (h:Heap) (K:FG),S K->K.In h->h.Ns mainGlobals mg->mg d.name=some (.ref i) ->
   ∃ fd:FuncData,(∀ (s:Shared) (u:Value),BindsTo s fd ⟨[u],[]⟩ [(x,u)]) /\
    ∀ base:Heap,K.In base->base.Ns mainGlobals mg->FnOk l.prog w K mg base CX k i fd [x] (sp K)) (m:∀ (K:FG) (H:Hp) (a:Addr) (ns:List Int),ns.length<=n->Ax H->SqL K H a (ns.map V.int)->sp K [.ref a] H (fun v _=>v=.bl true) fun _ _ _=>False) (p:∀ (H:Hp) (s:Shared) (e:Value) (s':Shared),CX [] H s (fun _ _ _=>False) e s'->False) :
  PySem.W.WalkO q loose XP YP l.row.toRowW d [] (fun f A=>PySem.call f A):=by
 refine Att.attach_call M j fun w s₀ B mg mb i o pm cd doc a A ns G Y O hd L y c hints hlen C=>?_
 obtain ⟨K,z,r⟩:=N w _ Y
 obtain ⟨fd,J,E⟩:=F w mg i _ K r z G.T.g y
 exact wT z G.T.g G.T.b G.T.builtins G.T.nolimit C c hints (Ed hlen t) D E J (fun H I r=>m K H a ns hlen I r) fun H e s'=>p H B e s'
end
end L2
end
section
namespace L3
open PySem L2
theorem nsE {α:Type} {p:α} {P:Prop} (e:(none:Option α)=some p):P:=nomatch e
inductive D where
 | non | bl (b:Bool) | int (i:Int) | str (x:Str)
 | tup (xs:List D) | lst (xs:List D) | fls (xs:List D) | dk (kvs:List (Key × D)) | dt (kvs:List (List Key × D))
 | exc (c:String) (fs:List (String × D))
def iG:D->Bool
 | .lst _=>true
 | .dk _=>true
 | .dt _=>true
 | _=>false
def FzL (K:FG) (H:Hp) (a:Addr) (b:List V):Prop:=(∃ o,H a=some (.frz o (.lst b)))\/∃ (o:Obj) (its:Array Value) (n:Nat),K.lookup a=some o/\o.cls=.type "list"/\o.dict=none/\o.data=.seq its n/\its.size<=sizeLine/\Vals b its.toList
theorem FzL.sq (h:FzL K H a vs):SqL K H a vs:=h.elim (fun ⟨o,e⟩=>.inl (.inr ⟨o,e⟩)) .inr
inductive Reps (R:D->V->List Addr->Prop):List D->List V->List Addr->Prop where
 | nil:Reps R [] [] []
 | cons {d v L ds vs L'}:R d v L->Reps R ds vs L'->Reps R (d :: ds) (v :: vs) (L ++ L')
inductive Rep (K:FG) (H:Hp):D->V->List Addr->Prop where
 | non:Rep K H .non .non []
 | bl (b:Bool):Rep K H (.bl b) (.bl b) []
 | int (i:Int):Rep K H (.int i) (.int i) []
 | str (x:Str):Rep K H (.str x) (.str x) []
 | tup {xs a vs L}:H a=some (.tup vs)->Reps (Rep K H) xs vs L->Rep K H (.tup xs) (.ref a) L
 | lst {xs a vs L}:H a=some (.lst vs)->Reps (Rep K H) xs vs L->Rep K H (.lst xs) (.ref a) (a :: L)
 | lstF {xs a vs L}:FzL K H a vs->Reps (Rep K H) xs vs L->Rep K H (.fls xs) (.ref a) L
 | dK {kvs a ps L}:H a=some (.dK ps)->kvs.map (·.1)=ps.map (·.1)->Reps (Rep K H) (kvs.map (·.2)) (ps.map (·.2)) L->Rep K H (.dk kvs) (.ref a) (a :: L)
 | dT {kvs a ps L}:H a=some (.dT ps)->kvs.map (·.1)=ps.map (·.1)->Reps (Rep K H) (kvs.map (·.2)) (ps.map (·.2)) L->Rep K H (.dt kvs) (.ref a) (a :: L)
 | exc {c a D ob}:XName K c D->H a=some (xx ob a (.ref D))->Rep K H (.exc c []) (.ref a) []
 | excV {c a D ob n x v d od u}:XName K c D->H a=some (xx ob a (.ref D))->ob.dict=some d->H d=some (xx od d od.cls)->PySem.W.lookIn (Str.ofString n) od=some (some u)->RelV v u->PySem.W.notCls ob=true->Rep K H x v []->Rep K H (.exc c [(n,x)]) (.ref a) []
def PayX (K:FG) (H:Hp) (da:Option Addr):List (String × D)->Prop
 | []=>True
 | [(n,x)]=>∃ v d a u,da=some d/\H d=some (xx a d a.cls)/\PySem.W.lookIn (Str.ofString n) a=some (some u)/\RelV v u/\Rep K H x v []
 | _=>False
def RepV (K:FG) (H:Hp) (d:D) (v:V) (L:List Addr):Prop:=match d with
 | .non=>v=.non/\L=[]
 | .bl b=>v=.bl b/\L=[]
 | .int i=>v=.int i/\L=[]
 | .str x=>v=.str x/\L=[]
 | .tup xs=>∃ a e,v=.ref a/\H a=some (.tup e)/\Reps (Rep K H) xs e L
 | .lst xs=>∃ a e L',v=.ref a/\L=a :: L'/\H a=some (.lst e)/\Reps (Rep K H) xs e L'
 | .fls xs=>∃ a e,v=.ref a/\FzL K H a e/\Reps (Rep K H) xs e L
 | .dk kvs=>∃ a ps L',v=.ref a/\L=a :: L'/\H a=some (.dK ps)/\kvs.map (·.1)=ps.map (·.1)/\Reps (Rep K H) (kvs.map (·.2)) (ps.map (·.2)) L'
 | .dt kvs=>∃ a ps L',v=.ref a/\L=a :: L'/\H a=some (.dT ps)/\kvs.map (·.1)=ps.map (·.1)/\Reps (Rep K H) (kvs.map (·.2)) (ps.map (·.2)) L'
 | .exc c fs=>L=[]/\∃ a D ob,v=.ref a/\XName K c D/\H a=some (xx ob a (.ref D))/\PayX K H ob.dict fs/\(fs ≠ []->PySem.W.notCls ob=true)
theorem Rep.view (r:Rep K H d v L):RepV K H d v L:=by
 cases r with
 | non=>exact ⟨rfl,rfl⟩
 | bl b=>exact ⟨rfl,rfl⟩
 | int i=>exact ⟨rfl,rfl⟩
 | str x=>exact ⟨rfl,rfl⟩
 | tup h r=>exact ⟨_,_,rfl,h,r⟩
 | lst h r=>exact ⟨_,_,_,rfl,rfl,h,r⟩
 | lstF h r=>exact ⟨_,_,rfl,h,r⟩
 | dK h k r=>exact ⟨_,_,_,rfl,rfl,h,k,r⟩
 | dT h k r=>exact ⟨_,_,_,rfl,rfl,h,k,r⟩
 | exc n h=>exact ⟨rfl,_,_,_,rfl,n,h,trivial,fun z=>absurd rfl z⟩
 | excV n h1 h2 h3 h4 h5 h7 h6=>exact ⟨rfl,_,_,_,rfl,n,h1,⟨_,_,_,_,h2,h3,h4,h5,h6⟩,fun _=>h7⟩
def MutAt (H:Hp) (b:Addr):Prop:=(∃ xs,H b=some (.lst xs))\/(∃ ps,H b=some (.dK ps))\/∃ ps,H b=some (.dT ps)
theorem MutAt.ex (m:MutAt H b):∃ o,H b=some o:=by
 rcases m with ⟨_,h⟩ | ⟨_,h⟩ | ⟨_,h⟩ <;> exact ⟨_,h⟩
theorem MutAt.notup (m:MutAt H b) (h:H b=some (.tup vs)):False:=by
 rcases m with ⟨_,e⟩ | ⟨_,e⟩ | ⟨_,e⟩ <;> rw [e] at h <;> cases h
theorem MutAt.nofrz (m:MutAt H b) (h:H b=some (.frz o u)):False:=by
 rcases m with ⟨_,e⟩ | ⟨_,e⟩ | ⟨_,e⟩ <;> rw [e] at h <;> cases h
theorem FzL.keep {M:Addr->Prop} (h:FzL K H a vs) (k:∀ b o,H b=some o->¬ M b->H' b=some o) (hm:∀ b,M b->MutAt H b):FzL K H' a vs:=h.elim (fun ⟨o,e⟩=>.inl ⟨o,k a _ e fun z=>(hm a z).nofrz e⟩) .inr
section
variable {K:FG} {H H':Hp} {d:D} {v:V} {L:List Addr}
theorem Rep.inH (r:Rep K H d v L):∀ b ∈ L,MutAt H b:=by
 refine Rep.rec (motive_1:=fun _ _ L _=>∀ b ∈ L,MutAt H b) (motive_2:=fun _ _ L _=>∀ b ∈ L,MutAt H b) ?_ ?_ ?_ ?_ ?_ ?_ ?_ ?_ ?_ ?_ ?_ ?_ ?_ r
 ·intro b a;cases a
 ·intro _ b a;cases a
 ·intro _ b a;cases a
 ·intro _ b a;cases a
 ·intro _ _ _ _ _ _ c;exact c
 ·intro _ _ _ _ h _ c b a
  rcases Dw.mp a with e | a
  ·rw [e];exact .inl ⟨_,h⟩
  ·exact c b a
 ·intro _ _ _ _ _ _ c;exact c
 ·intro _ _ _ _ h _ _ c b a
  rcases Dw.mp a with e | a
  ·rw [e];exact .inr (.inl ⟨_,h⟩)
  ·exact c b a
 ·intro _ _ _ _ h _ _ c b a
  rcases Dw.mp a with e | a
  ·rw [e];exact .inr (.inr ⟨_,h⟩)
  ·exact c b a
 ·intro _ _ _ _ _ _ b a;cases a
 ·intros;rename_i a;cases a
 ·intro b a;cases a
 ·intro _ _ _ _ _ _ _ _ g f b a
  rcases Dz.mp a with h | h
  ·exact g b h
  ·exact f b h
theorem Reps.inH (r:Reps (Rep K H) ds vs L):∀ b ∈ L,MutAt H b:=by
 induction r with
 | nil=>intro b a;cases a
 | cons r _ ih =>
  intro b a
  rcases Dz.mp a with h | h
  ·exact r.inH b h
  ·exact ih b h
theorem Rep.keep {M:Addr->Prop} (k:∀ b o,H b=some o->¬ M b->H' b=some o) (hm:∀ b,M b->MutAt H b) (r:Rep K H d v L):(∀ b ∈ L,¬ M b)->Rep K H' d v L:=by
 refine Rep.rec (motive_1:=fun d v L _=>(∀ b ∈ L,¬ M b)->Rep K H' d v L) (motive_2:=fun ds j L _=>(∀ b ∈ L,¬ M b)->Reps (Rep K H') ds j L) ?_ ?_ ?_ ?_ ?_ ?_ ?_ ?_ ?_ ?_ ?_ ?_ ?_ r
 ·intro _;exact .non
 ·intro b _;exact .bl b
 ·intro b _;exact .int b
 ·intro b _;exact .str b
 ·intro xs a j L h _ g f
  exact .tup (k a _ h fun z=>(hm a z).notup h) (g f)
 ·intro xs a j L h _ g f
  exact .lst (k a _ h (f a Dq)) (g fun b i=>f b (Dr _ i))
 ·intro xs a j L h _ g f
  exact .lstF (h.keep k hm) (g f)
 ·intro kvs a ps L h e _ g f
  exact .dK (k a _ h (f a Dq)) e (g fun b i=>f b (Dr _ i))
 ·intro kvs a ps L h e _ g f
  exact .dT (k a _ h (f a Dq)) e (g fun b i=>f b (Dr _ i))
 ·intro c a D ob n h _
  exact .exc n (k a _ h fun z=>(hm a z).nofrz h)
 ·intro c a D ob n x v d A u e1 l w m y q p _ g _
  exact .excV e1 (k a _ l fun z=>(hm a z).nofrz l) w (k d _ m fun z=>(hm d z).nofrz m) y q p (g fun _ h=>nomatch h)
 ·intro _;exact .nil
 ·intro d v L ds j L' _ _ s t f
  exact .cons (s fun b i=>f b (Du _ i)) (t fun b i=>f b (Dv _ i))
theorem Rep.same (r:Rep K H d v L) (s:Same H H'):Rep K H' d v L:=r.keep (M:=fun _=>False) (fun b o h _=>s b o h) (fun _ z=>z.elim) fun _ _ z=>z
theorem Reps.keep {M:Addr->Prop} (k:∀ b o,H b=some o->¬ M b->H' b=some o) (hm:∀ b,M b->MutAt H b) (r:Reps (Rep K H) ds vs L):(∀ b ∈ L,¬ M b)->Reps (Rep K H') ds vs L:=by
 induction r with
 | nil=>intro _;exact .nil
 | cons r _ ih=>intro c;exact .cons (r.keep k hm fun b a=>c b (Du _ a)) (ih fun b a=>c b (Dv _ a))
theorem Reps.same (r:Reps (Rep K H) ds vs L) (s:Same H H'):Reps (Rep K H') ds vs L:=r.keep (M:=fun _=>False) (fun b o h _=>s b o h) (fun _ z=>z.elim) fun _ _ z=>z
end
inductive Fl where
 | u | l | z
 deriving DecidableEq
structure It3 where
 d:D
 v:V
 L:List Addr
 f:Fl
abbrev Sto:=List (Option (D × Fl))
structure Gm where
 H0:Hp
 bw:Addr->Prop
 pr:Nat->Bool
 σ0:St
 orig:Hp
 src:Addr->Prop
 lv:Nat->Option V
def OwnOk (G:Gm) (x:It3):Prop:=iG x.d=true/\∃ a L',x.v=.ref a/\x.L=a :: L'/\a ∉ L'/\(x.f=.u->G.H0 a=none\/G.bw a)
structure ItOk (K:FG) (G:Gm) (H:Hp) (x:It3):Prop where
 rep:Rep K H x.d x.v x.L
 own:x.f ≠ .z->OwnOk G x
 src:∀ c ∈ x.L,G.H0 c=none\/G.src c
structure Fx (G:Gm) (H:Hp) (T:List It3) (g:Nat->Option It3):Prop where
 frT:∀ x ∈ T,x.f ≠ .z->∀ a,x.v=.ref a->G.orig a=none
 frS:∀ i x,g i=some x->G.pr i=false->x.f ≠ .z->∀ a,x.v=.ref a->G.orig a=none
 bin:∀ b,G.bw b->∃ o,H b=some o
 ob:∀ b o,G.orig b=some o->∃ o',H b=some o'
 lvS:∀ i x,g i=some x->x.f=.l->G.lv i=some x.v
def NoRoot (x y:It3):Prop:=x.f ≠ .z->∀ a,x.v=.ref a->a ∉ y.L
def Apart3 (x y:It3):Prop:=NoRoot x y/\NoRoot y x
structure Wf (K:FG) (G:Gm) (H:Hp) (σ:St) (ρ:Sto) (T:List It3) (g:Nat->Option It3):Prop where
 len:σ.length = ρ.length
 sl:∀ i,(g i).map (fun x=>(x.d,x.f))=(ρ[i]?).join
 sv:∀ i x,g i=some x->σ[i]?=some (some x.v)
 okS:∀ i x,g i=some x->ItOk K G H x
 okT:∀ x ∈ T,ItOk K G H x
 ss:∀ i j x y,i ≠ j->g i=some x->g j=some y->NoRoot x y
 st:∀ i x,g i=some x->∀ y ∈ T,Apart3 x y
 tt:T.Pairwise Apart3
 base:∀ b o,G.H0 b=some o->¬ G.bw b->H b=some o
 pro:∀ i,G.pr i=true->σ[i]?=G.σ0[i]?
 fx:Fx G H T g
structure Le (K:FG) (G:Gm) (W:D->Sto->Prop) (G0:Gm) (W0:D->Sto->Prop):Prop where
 pr:G.pr=G0.pr
 ex:∀ (H:Hp) (σ:St) (ρ:Sto) (T:List It3) (g:Nat->Option It3) (e:D),Wf K G H σ ρ T g->W e ρ->∃ ρ0 T0 g0,Wf K G0 H σ ρ0 T0 g0/\W0 e ρ0
theorem Le.refl (K:FG) (G:Gm) (W:D->Sto->Prop):Le K G W G W:=⟨rfl,fun _ _ ρ T g _ w h=>⟨ρ,T,g,w,h⟩⟩
theorem Le.trans (a:Le K G W G1 W1) (b:Le K G1 W1 G2 W2):Le K G W G2 W2:=⟨a.pr.trans b.pr,fun H σ ρ T g e w h=>by
 obtain ⟨ρ1,d,g1,c,h1⟩:=a.ex H σ ρ T g e w h
 exact b.ex H σ ρ1 d g1 e c h1⟩
section
variable {K:FG} {G:Gm} {H H':Hp} {σ:St} {ρ:Sto} {T T':List It3} {g:Nat->Option It3} {x y z:It3}
theorem ItOk.keep {M:Addr->Prop} (h:ItOk K G H x) (k:∀ b o,H b=some o->¬ M b->H' b=some o) (hm:∀ b,M b->MutAt H b) (a:∀ b ∈ x.L,¬ M b):ItOk K G H' x:=⟨h.rep.keep k hm a,h.own,h.src⟩
theorem ItOk.same (h:ItOk K G H x) (s:Same H H'):ItOk K G H' x:=⟨h.rep.same s,h.own,h.src⟩
theorem Fx.more (f:Fx G H T g) (s:∀ b o,H b=some o->∃ o',H' b=some o'):Fx G H' T g:=⟨f.frT,f.frS,fun b h=>let ⟨o,e⟩:=f.bin b h;s b o e,fun b o h=>let ⟨o',e⟩:=f.ob b o h;s b o' e,f.lvS⟩
theorem Fx.sub (f:Fx G H T g) (h:∀ x ∈ T',x ∈ T):Fx G H T' g:=⟨fun x a=>f.frT x (h x a),f.frS,f.bin,f.ob,f.lvS⟩
theorem Wf.grow (w:Wf K G H σ ρ T g) (s:Same H H'):Wf K G H' σ ρ T g :=
 ⟨w.len,w.sl,w.sv,fun i x e=>(w.okS i x e).same s,fun x a=>(w.okT x a).same s,w.ss,w.st,w.tt,fun b o e n=>s b o (w.base b o e n),w.pro,w.fx.more fun b o h=>⟨o,s b o h⟩⟩
theorem Wf.sub (w:Wf K G H σ ρ T g) (h:T'.Sublist T):Wf K G H σ ρ T' g :=
 ⟨w.len,w.sl,w.sv,w.okS,fun x a=>w.okT x (h.subset a),w.ss,fun i x e y b=>w.st i x e y (h.subset b),w.tt.sublist h,w.base,w.pro,w.fx.sub fun x a=>h.subset a⟩
def Itm (T:List It3) (g:Nat->Option It3) (y:It3):Prop:=(∃ i,g i=some y)\/y ∈ T
def cT (T:List It3) (g:Nat->Option It3) (c:Addr):Prop:=(∀ i z,g i=some z->z.f ≠ .z->z.v ≠ .ref c)/\∀ z ∈ T,z.f ≠ .z->z.v ≠ .ref c
theorem Wf.itm (w:Wf K G H σ ρ T g) (h:Itm T g y):ItOk K G H y:=by
 rcases h with ⟨i,e⟩ | h
 ·exact w.okS i y e
 ·exact w.okT y h
theorem mM {α:Type} {R:α->α->Prop} {l:List α} (p:l.Pairwise R) (h:∀ a b,R a b->R b a):∀ a ∈ l,∀ b ∈ l,a ≠ b->R a b:=by
 induction p with
 | nil=>intro a e;cases e
 | @cons c l hc _ ih =>
  intro a e b d n
  rcases Dw.mp e with g | e
  ·rcases Dw.mp d with f | d
   ·exact absurd (g.trans f.symm) n
   ·rw [g];exact hc b d
  ·rcases Dw.mp d with f | d
   ·rw [f];exact h _ _ (hc a e)
   ·exact ih a e b d n
theorem Apart3.symm (h:Apart3 x y):Apart3 y x:=⟨h.2,h.1⟩
theorem Wf.kid (w:Wf K G H σ ρ T g) (h:Itm T g y) (d:c ∈ y.L) (m:y.f ≠ .z->y.v ≠ .ref c):cT T g c:=by
 refine ⟨fun i z e hz a=>?_,fun z hm hz a=>?_⟩
 ·rcases h with ⟨j,b⟩ | k
  ·by_cases l:i=j
   ·subst l
    rw [e] at b
    cases b
    exact m hz a
   ·exact w.ss i j z y l e b hz c a d
  ·exact (w.st i z e y k).1 hz c a d
 ·rcases h with ⟨j,b⟩ | k
  ·exact (w.st j y b z hm).2 hz c a d
  ·by_cases e:z=y
   ·subst e;exact m hz a
   ·exact (mM w.tt (fun _ _=>Apart3.symm) z hm y k e).1 hz c a d
structure New (K:FG) (H H':Hp) (Ks:Addr->Prop) (x:It3):Prop where
 same:Same H H'
 rep:Rep K H' x.d x.v x.L
 sub:∀ c ∈ x.L,H c=none\/Ks c
 own:x.f ≠ .z->iG x.d=true/\∃ a L',x.v=.ref a/\x.L=a :: L'/\a ∉ L'/\H a=none
theorem Wf.h0none (w:Wf K G H σ ρ T g) (h:H a=none):G.H0 a=none:=by
 cases e:G.H0 a with
 | none=>rfl
 | some o =>
  by_cases b:G.bw a
  ·obtain ⟨o,e⟩:=w.fx.bin a b
   rw [h] at e;cases e
  ·have:=w.base a o e b
   rw [h] at this;cases this
theorem Wf.ornone (w:Wf K G H σ ρ T g) (h:H a=none):G.orig a=none:=by
 cases e:G.orig a with
 | none=>rfl
 | some o =>
  obtain ⟨o,e⟩:=w.fx.ob a o e
  rw [h] at e;cases e
theorem Wf.push (w:Wf K G H σ ρ T g) (n:New K H H' Ks x) (m:∀ c,Ks c->cT T g c/\(G.H0 c=none\/G.src c)):Wf K G H' σ ρ (x :: T) g:=by
 have d:=w.grow n.same
 have a1:∀ y:It3,ItOk K G H y->(∀ c,Ks c->y.f ≠ .z->y.v ≠ .ref c)->Apart3 y x:=fun y q b=>by
  refine ⟨fun hf a e hm=>?_,fun hf a e hm=>?_⟩
  ·obtain ⟨_,u,L',e1,j,_,_⟩:=q.own hf
   rw [e] at e1
   cases e1
   rcases n.sub a hm with h | h
   ·obtain ⟨o,k⟩:=(q.rep.inH a (by rw [j];exact Dq)).ex
    rw [h] at k;cases k
   ·exact b a h hf e
  ·obtain ⟨_,u,L',e1,j,_,h⟩:=n.own hf
   rw [e] at e1
   cases e1
   obtain ⟨o,k⟩:=(q.rep.inH a hm).ex
   rw [h] at k;cases k
 refine ⟨d.len,d.sl,d.sv,d.okS,?_,d.ss,?_,?_,d.base,d.pro,⟨fun y b hf a s=>?_,d.fx.frS,d.fx.bin,d.fx.ob,d.fx.lvS⟩⟩
 ·intro y b
  rcases Dw.mp b with rfl | b
  ·refine ⟨n.rep,fun hf=>?_,fun c l=>?_⟩
   ·obtain ⟨r,a,L',e1,j,t,p⟩:=n.own hf
    exact ⟨r,a,L',e1,j,t,fun _=>.inl (w.h0none p)⟩
   ·rcases n.sub c l with h | h
    ·exact .inl (w.h0none h)
    ·exact (m c h).2
  ·exact d.okT y b
 ·intro i z e y b
  rcases Dw.mp b with rfl | b
  ·exact a1 z (w.okS i z e) fun c l=>(m c l).1.1 i z e
  ·exact d.st i z e y b
 ·refine List.pairwise_cons.mpr ⟨fun y b=>(a1 y (w.okT y b) fun c l=>(m c l).1.2 y b).symm,d.tt⟩
 ·rcases Dw.mp b with h | b
  ·subst h
   obtain ⟨r,u,L',e1,j,t,p⟩:=n.own hf
   rw [s] at e1
   cases e1
   exact w.ornone p
  ·exact d.fx.frT y b hf a s
def cJ (ys:List It3) (c:Addr):Prop:=∃ y ∈ ys,c ∈ y.L/\(y.f ≠ .z->y.v ≠ .ref c)
theorem Wf.kids (w:Wf K G H σ ρ T g) (b:∀ y ∈ ys,Itm T g y) (h:cJ ys c):cT T g c/\(G.H0 c=none\/G.src c):=by
 obtain ⟨y,m,a,d⟩:=h
 exact ⟨w.kid (b y m) a d,(w.itm (b y m)).src c a⟩
structure Arg (K:FG) (H:Hp) (p:It3):Prop where
 rep:Rep K H p.d p.v p.L
 own:p.f ≠ .z->iG p.d=true/\∃ a L',p.v=.ref a/\p.L=a :: L'/\a ∉ L'
theorem ItOk.arg (h:ItOk K G H x):Arg K H x:=⟨h.rep,fun hf=>by
 obtain ⟨m,a,L',v1,v2,b,_⟩:=h.own hf
 exact ⟨m,a,L',v1,v2,b⟩⟩
end
end L3
end
section
namespace L3
open PySem L2
inductive R3 where
 | pl (i:Nat) | val (d:D) (f:Fl)
abbrev M3 (α:Type):=Sto->Option (Except D α × Sto)
abbrev EM:=M3 R3
noncomputable def ae {α β:Type} (m:M3 α) (k:α->M3 β):M3 β:=fun ρ=>match m ρ with
 | none=>none
 | some (.error e,ρ')=>some (.error e,ρ')
 | some (.ok a,ρ')=>k a ρ'
noncomputable def aJ {α:Type} (a:α):M3 α:=fun ρ=>some (.ok a,ρ)
noncomputable def aN {α:Type} (o:Option α):M3 α:=fun ρ=>o.map fun a=>(.ok a,ρ)
noncomputable def der (r:R3):M3 D:=fun ρ=>match r with
 | .pl i=>((ρ[i]?).join).map fun p=>(.ok p.1,ρ)
 | .val d _=>some (.ok d,ρ)
inductive Ar (σ:St):R3->V->List It3->Prop where
 | pl {i:Nat} {v:V}:σ[i]?=some (some v)->Ar σ (.pl i) v []
 | val (x:It3):Ar σ (.val x.d x.f) x.v [x]
def Got (K:FG) (G:Gm) (σ:St) (ρ:Sto) (T:List It3) (r:R3) (v:V) (H:Hp):Prop:=∃ Ts g,Wf K G H σ ρ (Ts ++ T) g/\Ar σ r v Ts
def tE (K:FG) (G0:Gm) (W0:D->Sto->Prop) (m:EM):TE:=fun σ H Q=>∃ G W,Le K G W G0 W0/\∃ ρ T g r ρ',Wf K G H σ ρ T g/\m ρ=some (r,ρ')/\match r with
 | .ok r=>∀ v H',Got K G σ ρ' T r v H'->Q v H'
 | .error e=>W e ρ'
def tT (K:FG) (G0:Gm) (W0:D->Sto->Prop) (m:M3 Bool):TT:=fun σ H Q=>∃ G W,Le K G W G0 W0/\∃ ρ T g r ρ',Wf K G H σ ρ T g/\m ρ=some (r,ρ')/\match r with
 | .ok b=>∀ H' g',Wf K G H' σ ρ' T g'->Q b H'
 | .error e=>W e ρ'
inductive Ars (σ:St):List R3->List V->List It3->Prop where
 | nil:Ars σ [] [] []
 | cons {r v Ts rs vs Us}:Ar σ r v Ts->Ars σ rs vs Us->Ars σ (r :: rs) (v :: vs) (Us ++ Ts)
def tA (K:FG) (G0:Gm) (W0:D->Sto->Prop) (m:M3 (List R3)):TA:=fun σ H Q=>∃ G W,Le K G W G0 W0/\∃ ρ T g r ρ',Wf K G H σ ρ T g/\m ρ=some (r,ρ')/\match r with
 | .ok rs=>∀ a H' Ts g',Wf K G H' σ ρ' (Ts ++ T) g'->Ars σ rs a Ts->Q a H'
 | .error e=>W e ρ'
inductive Flw where
 | nx | br | ct | rt (d:D) (f:Fl)
abbrev SM:=M3 Flw
def tS (K:FG) (G0:Gm) (W0:D->Sto->Prop) (m:SM):TS:=fun E σ H=>∃ G W,Le K G W G0 W0/\∃ ρ T g r ρ',Wf K G H σ ρ T g/\m ρ=some (r,ρ')/\match r with
 | .ok .nx=>∀ σ' H' g',Wf K G H' σ' ρ' T g'->E.nx σ' H'
 | .ok .br=>∀ σ' H' g',Wf K G H' σ' ρ' T g'->E.bk σ' H'
 | .ok .ct=>∀ σ' H' g',Wf K G H' σ' ρ' T g'->E.ct σ' H'
 | .ok (.rt d f)=>∀ x σ' H' g',Wf K G H' σ' ρ' (x :: T) g'->x.d=d->x.f=f->E.rt x.v H'
 | .error e=>W e ρ'
section
variable {K:FG} {G G0:Gm} {W W0:D->Sto->Prop} {H H':Hp} {σ:St} {ρ ρ':Sto} {T T':List It3} {g:Nat->Option It3} {x y z:It3} {α β:Type}
theorem aB (e:ae (der r) k ρ=some (o,ρ')):∃ d,der r ρ=some (.ok d,ρ)/\k d ρ=some (o,ρ'):=by
 cases r with
 | pl i =>
  have a:der (.pl i) ρ=((ρ[i]?).join).map fun p=>(.ok p.1,ρ):=rfl
  unfold ae at e
  rw [a] at e ⊢
  cases h:(ρ[i]?).join with
  | none=>rw [h] at e;exact nsE e
  | some p=>rw [h] at e;exact ⟨p.1,rfl,e⟩
 | val d f=>exact ⟨d,rfl,e⟩
theorem bp (e:aN o ρ=some (r,ρ')):∃ a,o=some a/\r=.ok a/\ρ' = ρ:=by
 unfold aN at e
 cases o with
 | none=>exact nsE e
 | some a=>cases e;exact ⟨a,rfl,rfl,rfl⟩
theorem Wf.slot (w:Wf K G H σ ρ T g) {i:Nat} (e:(ρ[i]?).join=some (d,f)):∃ y,g i=some y/\y.d=d/\y.f=f/\σ[i]?=some (some y.v):=by
 have h:=w.sl i
 rw [e] at h
 cases q:g i with
 | none=>rw [q] at h;exact nsE h
 | some y =>
  rw [q] at h
  cases h
  exact ⟨y,rfl,rfl,rfl,w.sv i y q⟩
theorem Ar.item (w:Wf K G H σ ρ T g) (a:Ar σ r v Ts) (k:∀ x ∈ Ts,x ∈ T) (e:der r ρ=some (.ok d,ρ)):∃ y,Itm T g y/\y.d=d/\y.v=v:=by
 cases a with
 | @pl i v h =>
  have j:der (.pl i) ρ=((ρ[i]?).join).map fun p=>(.ok p.1,ρ):=rfl
  rw [j] at e
  cases q:(ρ[i]?).join with
  | none=>rw [q] at e;exact nsE e
  | some p =>
   rw [q] at e
   obtain ⟨y,e1,c,m,b⟩:=w.slot (d:=p.1) (f:=p.2) q
   have l:p.1=d:=by cases e;rfl
   rw [h] at b
   refine ⟨y,.inl ⟨i,e1⟩,c.trans l,?_⟩
   cases b;rfl
 | val x=>cases e;exact ⟨x,.inr (k x (by simp)),rfl,rfl⟩
theorem Wf.done (w:Wf K G H σ ρ (Us ++ T) g) (a:∀ y ∈ ys,Itm (Us ++ T) g y) (n:New K H H' (cJ ys) x):Got K G σ ρ T (.val x.d x.f) x.v H' :=
 ⟨[x],g,(w.push n fun c h=>w.kids a h).sub (by simpa using List.Sublist.cons_cons x (DE Us T)),.val x⟩
theorem tE.seq (le:Le K G W G0 W0) (w:Wf K G H σ ρ T g) (e:ae ma k ρ=some (r,ρ')) (he:∀ x,r=.error x->W x ρ') (h:∀ ra ρ1,k ra ρ1=some (r,ρ')->∀ v H1,Got K G σ ρ1 T ra v H1->P v H1):tE K G0 W0 ma σ H P:=by
 unfold ae at e
 cases q:ma ρ with
 | none=>rw [q] at e;exact nsE e
 | some p =>
  obtain ⟨o,ρ1⟩:=p
  rw [q] at e
  cases o with
  | error x=>cases e;exact ⟨G,W,le,ρ,T,g,.error x,ρ',w,q,he x rfl⟩
  | ok ra=>exact ⟨G,W,le,ρ,T,g,.ok ra,ρ1,w,q,h ra ρ1 e⟩
theorem tT.seq (le:Le K G W G0 W0) (w:Wf K G H σ ρ T g) (e:ae ma k ρ=some (r,ρ')) (he:∀ x,r=.error x->W x ρ') (h:∀ b ρ1,k b ρ1=some (r,ρ')->∀ H1 g1,Wf K G H1 σ ρ1 T g1->P b H1):tT K G0 W0 ma σ H P:=by
 unfold ae at e
 cases q:ma ρ with
 | none=>rw [q] at e;exact nsE e
 | some p =>
  obtain ⟨o,ρ1⟩:=p
  rw [q] at e
  cases o with
  | error x=>cases e;exact ⟨G,W,le,ρ,T,g,.error x,ρ',w,q,he x rfl⟩
  | ok ra=>exact ⟨G,W,le,ρ,T,g,.ok ra,ρ1,w,q,h ra ρ1 e⟩
theorem tA.seq (le:Le K G W G0 W0) (w:Wf K G H σ ρ T g) (e:ae ma k ρ=some (r,ρ')) (he:∀ x,r=.error x->W x ρ') (h:∀ rs ρ1,k rs ρ1=some (r,ρ')->∀ a H1 Ts g1,Wf K G H1 σ ρ1 (Ts ++ T) g1->Ars σ rs a Ts->P a H1):tA K G0 W0 ma σ H P:=by
 unfold ae at e
 cases q:ma ρ with
 | none=>rw [q] at e;exact nsE e
 | some p =>
  obtain ⟨o,ρ1⟩:=p
  rw [q] at e
  cases o with
  | error x=>cases e;exact ⟨G,W,le,ρ,T,g,.error x,ρ',w,q,he x rfl⟩
  | ok ra=>exact ⟨G,W,le,ρ,T,g,.ok ra,ρ1,w,q,h ra ρ1 e⟩
def EndE (K:FG) (G:Gm) (W:D->Sto->Prop) (σ:St) (T:List It3) (ρ':Sto) (Q:VK):Except D R3->Prop
 | .ok r=>∀ v H',Got K G σ ρ' T r v H'->Q v H'
 | .error e=>W e ρ'
theorem EndE.err (h:EndE K G W σ T ρ' Q r):∀ x,r=.error x->W x ρ':=by
 intro x e;subst e;exact h
theorem tE.open (h:tE K G0 W0 m σ H Q):∃ G W,Le K G W G0 W0/\∃ ρ T g r ρ',Wf K G H σ ρ T g/\m ρ=some (r,ρ')/\EndE K G W σ T ρ' Q r:=by
 obtain ⟨G,W,le,ρ,T,g,r,ρ',w,e,q⟩:=h
 refine ⟨G,W,le,ρ,T,g,r,ρ',w,e,?_⟩
 cases r with
 | ok r=>exact q
 | error x=>exact q
theorem tE.use (h:tE K G0 W0 m σ H Q) {P:Prop} (k:∀ G W,Le K G W G0 W0->∀ ρ T g r ρ',Wf K G H σ ρ T g->m ρ=some (r,ρ')->EndE K G W σ T ρ' Q r->P):P:=by
 obtain ⟨G,W,le,ρ,T,g,r,ρ',w,e,q⟩:=h.open
 exact k G W le ρ T g r ρ' w e q
theorem tE.mk (le:Le K G W G0 W0) (w:Wf K G H σ ρ T g) (e:m ρ=some (r,ρ')) (h:EndE K G W σ T ρ' Q r):tE K G0 W0 m σ H Q:=by
 refine ⟨G,W,le,ρ,T,g,r,ρ',w,e,?_⟩
 cases r with
 | ok r=>exact h
 | error x=>exact h
def af (i:Nat):EM:=fun ρ=>((ρ[i]?).join).map fun _=>(.ok (.pl i),ρ)
theorem Bk {i:Nat} (h:tE K G0 W0 (af i) σ H Q):pW i σ H Q:=by
 refine h.use fun G W le ρ T g r ρ' w e q=>?_
 unfold af at e
 cases h:(ρ[i]?).join with
 | none=>rw [h] at e;exact nsE e
 | some p =>
  rw [h] at e
  cases e
  obtain ⟨y,_,_,_,a⟩:=w.slot (d:=p.1) (f:=p.2) h
  exact ⟨y.v,a,q y.v H ⟨[],g,w,.pl a⟩⟩
def mC (d:D):EM:=aJ (.val d .z)
theorem Wf.const (w:Wf K G H σ ρ T g) (r:Rep K H d v []):Got K G σ ρ T (.val d .z) v H :=
 Wf.done (Us:=[]) (ys:=[]) (x:=⟨d,v,[],.z⟩) w (fun _ h=>(by cases h)) ⟨Same.refl _,r,fun _ h=>(by cases h),fun h=>absurd rfl h⟩
theorem io (r:∀ H,Rep K H d v []) (h:tE K G0 W0 (mC d) σ H Q):tC v σ H Q:=by
 refine h.use fun G W le ρ T g o ρ' w e q=>?_
 cases e
 exact q v H (w.const (r H))
def ah (f:D->D->Option (D × Fl)) (ma mb:EM):EM:=ae ma fun ra=>ae mb fun rb=>ae (der ra) fun da=>ae (der rb) fun db=>aN ((f da db).map fun p=>R3.val p.1 p.2)
def OpD (K:FG) (r:R2) (f:D->D->Option (D × Fl)):Prop:=∀ (a b:It3) (H:Hp) (Q:VK) (p:D × Fl),Arg K H a->Arg K H b->f a.d b.d=some p ->
 (∀ w H',New K H H' (cJ [a,b]) w->w.d=p.1->w.f=p.2->Q w.v H')->r a.v b.v H Q
theorem l6 (w:Wf K G H σ ρ (Us ++ T) g) (c:∀ y ∈ ys,Itm (Us ++ T) g y) (q:EndE K G W σ T ρ Q (.ok (.val d f))) :
  ∀ a H',New K H H' (cJ ys) a->a.d=d->a.f=f->Q a.v H':=by
 intro a H' n e1 b
 subst e1 b
 exact q a.v H' (w.done c n)
theorem j3 (t:OpD K r f) (h:tE K G0 W0 (ah f ma mb) σ H Q):tOp r (tE K G0 W0 ma) (tE K G0 W0 mb) σ H Q:=by
 refine h.use fun G W le ρ T g o ρ' w e q=>?_
 refine tE.seq le w e q.err fun ra ρ1 e1 C H1 ⟨Ts,g1,v,a1⟩=>?_
 refine tE.seq le v e1 q.err fun rb ρ2 u D H2 ⟨Us,g2,a,a2⟩=>?_
 obtain ⟨da,d1,B⟩:=aB u
 obtain ⟨db,d2,A⟩:=aB B
 obtain ⟨p,b,rfl,rfl⟩:=bp A
 obtain ⟨m,i,f1,f2⟩:=a1.item a (fun x l=>Dv _ (Du _ l)) d1
 obtain ⟨n,k,z,f4⟩:=a2.item a (fun x l=>Du _ l) d2
 subst f1 f2 z f4
 cases c:f m.d n.d with
 | none=>rw [c] at b;exact nsE b
 | some s =>
  rw [c] at b
  cases b
  rw [<- List.append_assoc] at a i k
  refine t m n H2 Q s (a.itm i).arg (a.itm k).arg c (l6 a (fun y j=>?_) q)
  rcases Dw.mp j with h | j
  ·rw [h];exact i
  ·rw [DX.mp j];exact k
def mUn (f:D->Option (D × Fl)) (ma:EM):EM:=ae ma fun ra=>ae (der ra) fun da=>aN ((f da).map fun p=>R3.val p.1 p.2)
def UnD (K:FG) (r:V->Hp->VK->Prop) (f:D->Option (D × Fl)):Prop:=∀ (a:It3) (H:Hp) (Q:VK) (p:D × Fl),Arg K H a->f a.d=some p ->
 (∀ w H',New K H H' (cJ [a]) w->w.d=p.1->w.f=p.2->Q w.v H')->r a.v H Q
theorem AC (k:UnD K r f) (h:tE K G0 W0 (mUn f ma) σ H Q):tUn r (tE K G0 W0 ma) σ H Q:=by
 refine h.use fun G W le ρ T g o ρ' w e q=>?_
 refine tE.seq le w e q.err fun ra ρ1 e1 t H1 ⟨Ts,g1,b,a1⟩=>?_
 obtain ⟨da,d1,m⟩:=aB e1
 obtain ⟨p,a,rfl,rfl⟩:=bp m
 obtain ⟨j,i,f1,f2⟩:=a1.item b (fun x n=>Du _ n) d1
 subst f1 f2
 cases c:f j.d with
 | none=>rw [c] at a;exact nsE a
 | some s =>
  rw [c] at a
  cases a
  exact k j H1 Q s (b.itm i).arg c (l6 b (fun y l=>by rw [DX.mp l];exact i) q)
def ai:M3 (List R3):=aJ []
def ad (m:EM) (ms:M3 (List R3)):M3 (List R3):=ae m fun r=>ae ms fun rs=>aJ (r :: rs)
def EndA (K:FG) (G:Gm) (W:D->Sto->Prop) (σ:St) (T:List It3) (ρ':Sto) (Q:List V->Hp->Prop):Except D (List R3)->Prop
 | .ok rs=>∀ a H' Ts g',Wf K G H' σ ρ' (Ts ++ T) g'->Ars σ rs a Ts->Q a H'
 | .error e=>W e ρ'
theorem EndA.err (h:EndA K G W σ T ρ' Q r):∀ x,r=.error x->W x ρ':=by
 intro x e;subst e;exact h
theorem tA.open (h:tA K G0 W0 m σ H Q):∃ G W,Le K G W G0 W0/\∃ ρ T g r ρ',Wf K G H σ ρ T g/\m ρ=some (r,ρ')/\EndA K G W σ T ρ' Q r:=by
 obtain ⟨G,W,le,ρ,T,g,r,ρ',w,e,q⟩:=h
 refine ⟨G,W,le,ρ,T,g,r,ρ',w,e,?_⟩
 cases r with
 | ok r=>exact q
 | error x=>exact q
theorem tA.use (h:tA K G0 W0 m σ H Q) {P:Prop} (k:∀ G W,Le K G W G0 W0->∀ ρ T g r ρ',Wf K G H σ ρ T g->m ρ=some (r,ρ')->EndA K G W σ T ρ' Q r->P):P:=by
 obtain ⟨G,W,le,ρ,T,g,r,ρ',w,e,q⟩:=h.open
 exact k G W le ρ T g r ρ' w e q
theorem Bt (h:tA K G0 W0 ai σ H Q):yy σ H Q:=by
 refine h.use fun G W le ρ T g r ρ' w e q=>?_
 cases e
 exact q [] H [] g w .nil
theorem yH (h:tA K G0 W0 (ad m ms) σ H Q):nN (tE K G0 W0 m) (tA K G0 W0 ms) σ H Q:=by
 refine h.use fun G W le ρ T g r ρ' w e q=>?_
 refine tE.seq le w e q.err fun ra ρ1 e1 b H1 ⟨Ts,g1,c,a1⟩=>?_
 refine tA.seq le c e1 q.err fun rs ρ2 a f H2 Us g2 d a2=>?_
 cases a
 refine q (b :: f) H2 (Us ++ Ts) g2 ?_ (.cons a1 a2)
 rw [List.append_assoc]
 exact d
def cb:List R3->M3 (List D)
 | []=>aJ []
 | r :: rs=>ae (der r) fun d=>ae (cb rs) fun ds=>aJ (d :: ds)
theorem sB:∀ {rs:List R3} {ρ ρ':Sto} {o:Except D (List D)},cb rs ρ=some (o,ρ')->∃ ds,o=.ok ds/\ρ' = ρ
 | [],ρ,ρ',o,e=>by cases e;exact ⟨[],rfl,rfl⟩
 | r :: rs,ρ,ρ',o,e=>by
  obtain ⟨d,e1,a⟩:=aB (k:=fun d=>ae (cb rs) fun ds=>aJ (d :: ds)) e
  unfold ae at a
  cases q:cb rs ρ with
  | none=>rw [q] at a;exact nsE a
  | some p =>
   obtain ⟨o',ρ1⟩:=p
   obtain ⟨ds,rfl,rfl⟩:=sB q
   rw [q] at a
   cases a
   exact ⟨d :: ds,rfl,rfl⟩
theorem bu (e:ae (cb rs) k ρ=some (o,ρ')):∃ ds,cb rs ρ=some (.ok ds,ρ)/\k ds ρ=some (o,ρ'):=by
 unfold ae at e
 cases q:cb rs ρ with
 | none=>rw [q] at e;exact nsE e
 | some p =>
  obtain ⟨o',ρ1⟩:=p
  obtain ⟨ds,rfl,rfl⟩:=sB q
  rw [q] at e
  exact ⟨ds,rfl,e⟩
theorem Ars.items:∀ {rs:List R3} {c:List V} {Ts:List It3} {ds:List D} ,Wf K G H σ ρ T g->Ars σ rs c Ts->(∀ x ∈ Ts,x ∈ T)->cb rs ρ=some (.ok ds,ρ)->∃ ys:List It3,(∀ y ∈ ys,Itm T g y)/\ys.map (·.d)=ds/\ys.map (·.v)=c
 | [],_,_,ds,w,.nil,_,e=>by cases e;exact ⟨[],fun _ h=>(by cases h),rfl,rfl⟩
 | r :: rs,_,_,ds,w,.cons a as,hs,e=>by
  obtain ⟨d,e1,i⟩:=aB (k:=fun d=>ae (cb rs) fun ds=>aJ (d :: ds)) e
  obtain ⟨n,o,l⟩:=bu i
  cases l
  obtain ⟨y,f,f1,f2⟩:=a.item w (fun x b=>hs x (Dv _ b)) e1
  obtain ⟨ys,m,j,f4⟩:=Ars.items w as (fun x b=>hs x (Du _ b)) o
  refine ⟨y :: ys,fun z hz=>?_,by simp [f1,j],by simp [f2,f4]⟩
  rcases Dw.mp hz with h | hz
  ·rw [h];exact f
  ·exact m z hz
def aw (f:List D->Option (D × Fl)) (ms:M3 (List R3)):EM:=ae ms fun rs=>ae (cb rs) fun ds=>aN ((f ds).map fun p=>R3.val p.1 p.2)
def cM (K:FG) (r:List V->Hp->VK->Prop) (f:List D->Option (D × Fl)):Prop:=∀ (ys:List It3) (H:Hp) (Q:VK) (p:D × Fl),(∀ y ∈ ys,Arg K H y)->f (ys.map (·.d))=some p ->
 (∀ w H',New K H H' (cJ ys) w->w.d=p.1->w.f=p.2->Q w.v H')->r (ys.map (·.v)) H Q
theorem j0 (k:cM K r f) (h:tE K G0 W0 (aw f ms) σ H Q):tCB r (tA K G0 W0 ms) σ H Q:=by
 refine h.use fun G W le ρ T g o ρ' w e q=>?_
 refine tA.seq le w e q.err fun rs ρ1 e1 n H1 Ts g1 b a1=>?_
 obtain ⟨ds,d1,j⟩:=bu e1
 obtain ⟨p,a,rfl,rfl⟩:=bp j
 obtain ⟨ys,i,f1,f2⟩:=a1.items b (fun x m=>Du _ m) d1
 subst f1 f2
 cases c:f (ys.map (·.d)) with
 | none=>rw [c] at a;exact nsE a
 | some s =>
  rw [c] at a
  cases a
  exact k ys H1 Q s (fun y l=>(b.itm (i y l)).arg) c (l6 b i q)
def asB:D->Option Bool
 | .bl b=>some b
 | _=>none
def hU (ma mb:EM):EM:=ae ma fun ra=>ae (der ra) fun d=>ae (aN (asB d)) fun b=>if b then mb else aJ (.val (.bl false) .z)
def mOr (ma mb:EM):EM:=ae ma fun ra=>ae (der ra) fun d=>ae (aN (asB d)) fun b=>if b then aJ (.val (.bl true) .z) else mb
def oU (ma:EM):EM:=ae ma fun ra=>ae (der ra) fun d=>ae (aN (asB d)) fun b=>aJ (.val (.bl (!b)) .z)
theorem i7 (e:ae (aN o) k ρ=some (r,ρ')):∃ a,o=some a/\k a ρ=some (r,ρ'):=by
 unfold ae aN at e
 cases o with
 | none=>exact nsE e
 | some a=>exact ⟨a,rfl,e⟩
theorem xT (e:asB d=some b):d=.bl b:=by
 cases d <;> first | exact nsE e | cases e
 rfl
theorem Rep.bl_eq (r:Rep K H (.bl b) v L):v=.bl b/\L=[]:=by cases r;exact ⟨rfl,rfl⟩
theorem Ar.bool (w:Wf K G H σ ρ (Ts ++ T) g) (a:Ar σ ra v Ts) (e:der ra ρ=some (.ok d,ρ)) (c:asB d=some b):v=.bl b:=by
 obtain ⟨y,f,f1,f2⟩:=a.item w (fun x h=>Du _ h) e
 have r:=(w.itm f).rep
 rw [f1,xT c] at r
 rw [<- f2]
 exact r.bl_eq.1
theorem Br (h:tE K G0 W0 (hU ma mb) σ H Q):AF (tE K G0 W0 ma) (tE K G0 W0 mb) σ H Q:=by
 refine h.use fun G W le ρ T g o ρ' w e q=>?_
 refine tE.seq le w e q.err fun ra ρ1 e1 k H1 ⟨Ts,g1,a,a1⟩=>?_
 obtain ⟨d,d1,i⟩:=aB e1
 obtain ⟨b,j,c⟩:=i7 i
 refine ⟨b,a1.bool a d1 j,?_⟩
 have f:=a.sub (DE Ts T)
 cases b with
 | true=>exact tE.mk le f c q
 | false=>cases c;exact q _ _ (f.const (.bl false))
theorem Bo (h:tE K G0 W0 (oU ma) σ H Q):Az (tE K G0 W0 ma) σ H Q:=by
 refine h.use fun G W le ρ T g o ρ' w e q=>?_
 refine tE.seq le w e q.err fun ra ρ1 e1 k H1 ⟨Ts,g1,a,a1⟩=>?_
 obtain ⟨d,d1,c⟩:=aB e1
 obtain ⟨b,f,i⟩:=i7 c
 refine ⟨b,a1.bool a d1 f,?_⟩
 have j:=a.sub (DE Ts T)
 cases i;exact q _ _ (j.const (.bl (!b)))
def EndT (K:FG) (G:Gm) (W:D->Sto->Prop) (σ:St) (T:List It3) (ρ':Sto) (Q:Bool->Hp->Prop):Except D Bool->Prop
 | .ok b=>∀ H' g',Wf K G H' σ ρ' T g'->Q b H'
 | .error e=>W e ρ'
theorem EndT.err (h:EndT K G W σ T ρ' Q r):∀ x,r=.error x->W x ρ':=by
 intro x e;subst e;exact h
theorem tT.open (h:tT K G0 W0 m σ H Q):∃ G W,Le K G W G0 W0/\∃ ρ T g r ρ',Wf K G H σ ρ T g/\m ρ=some (r,ρ')/\EndT K G W σ T ρ' Q r:=by
 obtain ⟨G,W,le,ρ,T,g,r,ρ',w,e,q⟩:=h
 refine ⟨G,W,le,ρ,T,g,r,ρ',w,e,?_⟩
 cases r with
 | ok r=>exact q
 | error x=>exact q
theorem tT.use (h:tT K G0 W0 m σ H Q) {P:Prop} (k:∀ G W,Le K G W G0 W0->∀ ρ T g r ρ',Wf K G H σ ρ T g->m ρ=some (r,ρ')->EndT K G W σ T ρ' Q r->P):P:=by
 obtain ⟨G,W,le,ρ,T,g,r,ρ',w,e,q⟩:=h.open
 exact k G W le ρ T g r ρ' w e q
theorem tT.mk (le:Le K G W G0 W0) (w:Wf K G H σ ρ T g) (e:m ρ=some (r,ρ')) (h:EndT K G W σ T ρ' Q r):tT K G0 W0 m σ H Q:=by
 refine ⟨G,W,le,ρ,T,g,r,ρ',w,e,?_⟩
 cases r with
 | ok r=>exact h
 | error x=>exact h
def cB (m:EM):M3 Bool:=ae m fun r=>ae (der r) fun d=>aN (asB d)
theorem tT_b (h:tT K G0 W0 (cB m) σ H Q):tB (tE K G0 W0 m) σ H Q:=by
 refine h.use fun G W le ρ T g o ρ' w e q=>?_
 refine tE.seq le w e q.err fun ra ρ1 e1 i H1 ⟨Ts,g1,a,a1⟩=>?_
 obtain ⟨d,d1,c⟩:=aB e1
 obtain ⟨b,f,rfl,rfl⟩:=bp c
 exact ⟨b,a1.bool a d1 f,q _ _ (a.sub (DE Ts T))⟩
def At (a b:M3 Bool):M3 Bool:=ae a fun c=>if c then b else aJ false
def cOr (a b:M3 Bool):M3 Bool:=ae a fun c=>if c then aJ true else b
def fQ (a:M3 Bool):M3 Bool:=ae a fun c=>aJ (!c)
theorem tT_or (h:tT K G0 W0 (cOr a b) σ H Q):tOr (tT K G0 W0 a) (tT K G0 W0 b) σ H Q:=by
 refine h.use fun G W le ρ T g o ρ' w e q=>?_
 refine tT.seq le w e q.err fun c ρ1 e1 H1 g1 d=>?_
 cases c with
 | false=>exact tT.mk le d e1 q
 | true=>cases e1;exact q _ _ d
theorem A8 (h:tT K G0 W0 (fQ a) σ H Q):tNot (tT K G0 W0 a) σ H Q:=by
 refine h.use fun G W le ρ T g o ρ' w e q=>?_
 refine tT.seq le w e q.err fun c ρ1 e1 H1 g1 b=>?_
 cases e1;exact q _ _ b
def mIf (c:M3 Bool) (ma mb:EM):EM:=ae c fun b=>if b then ma else mb
theorem tE_if (h:tE K G0 W0 (mIf c ma mb) σ H Q):tIf (tT K G0 W0 c) (tE K G0 W0 ma) (tE K G0 W0 mb) σ H Q:=by
 refine h.use fun G W le ρ T g o ρ' w e q=>?_
 refine tT.seq le w e q.err fun c ρ1 e1 H1 g1 a=>?_
 cases c with
 | true=>exact tE.mk le a e1 q
 | false=>exact tE.mk le a e1 q
end
end L3
end
section
namespace L3
open PySem L2
def cG (x:It3):It3:={ x with f:=.z }
theorem bZ:NoRoot (cG x) y:=fun h=>absurd rfl h
def lowAt (i:Nat) (ρ:Sto):Sto:=match (ρ[i]?).join with
 | some (d,.u)=>ρ.set i (some (d,.z))
 | some (d,.l)=>ρ.set i (some (d,.z))
 | _=>ρ
noncomputable def frz (is:List Nat) (ρ:Sto):Sto:=is.foldl (fun ρ i=>lowAt i ρ) ρ
def ug (is:List Nat):M3 Unit:=fun ρ=>some (.ok (),frz is ρ)
def pls:List R3->List Nat
 | []=>[]
 | .pl i :: rs=>i :: pls rs
 | .val _ _ :: rs=>pls rs
section
variable {K:FG} {G G0:Gm} {W W0:D->Sto->Prop} {H H':Hp} {σ:St} {ρ ρ':Sto} {T T':List It3} {g:Nat->Option It3} {x y z:It3} {α β:Type}
theorem ItOk.low (h:ItOk K G H x):ItOk K G H (cG x):=⟨h.rep,fun q=>absurd rfl q,h.src⟩
theorem b9 {i j:Nat} (hi:i < ρ.length):((ρ.set i o)[j]?).join=if j=i then o else (ρ[j]?).join:=by grind
theorem eJ {i:Nat} (h:(ρ[i]?).join=some p):i < ρ.length:=by grind
theorem Wf.lowSlot (w:Wf K G H σ ρ T g) {i:Nat} (e:(ρ[i]?).join=some (d,f)):Wf K G H σ (ρ.set i (some (d,.z))) T (fun j=>if j=i then (g i).map cG else g j):=by
 have hi:=eJ e
 obtain ⟨y,A,B,D,ev⟩:=w.slot e
 have val:∀ j x,(if j=i then (g i).map cG else g j)=some x->∃ x0,g j=some x0/\(x=x0\/x=cG x0)/\(j=i->x=cG x0):=fun j x h=>by
  grind
 have s:∀ {a b:It3},NoRoot a b->∀ p l,(p=a\/p=cG a)->(l=b\/l=cG b)->NoRoot p l:=fun h p l h1 h2=>by
  rcases h1 with rfl | rfl
  ·rcases h2 with rfl | rfl
   ·exact h
   ·exact h
  ·exact bZ
 refine ⟨by rw [List.length_set];exact w.len,fun j=>?_,fun j x h=>?_,fun j x h=>?_,w.okT,fun j k a b n h1 h2=>?_,fun j a h b o=>?_,w.tt,w.base,w.pro,⟨w.fx.frT,fun j x h v hf a u=>?_,w.fx.bin,w.fx.ob,fun j x h t=>?_⟩⟩
 ·rw [b9 hi]
  by_cases q:j=i
  ·subst q
   rw [if_pos rfl,if_pos rfl,A]
   show some ((cG y).d,Fl.z)=_
   rw [<- B];rfl
  ·rw [if_neg q,if_neg q];exact w.sl j
 ·obtain ⟨x0,h0,c,_⟩:=val j x h
  have:=w.sv j x0 h0
  rcases c with rfl | rfl <;> exact this
 ·obtain ⟨x0,h0,c,_⟩:=val j x h
  rcases c with rfl | rfl
  ·exact w.okS j x h0
  ·exact (w.okS j x0 h0).low
 ·obtain ⟨a0,h0,m,_⟩:=val j a h1
  obtain ⟨C,r,o,_⟩:=val k b h2
  exact s (w.ss j k a0 C n h0 r) a b m o
 ·obtain ⟨a0,h0,m,_⟩:=val j a h
  exact ⟨s (w.st j a0 h0 b o).1 a b m (.inl rfl),s (w.st j a0 h0 b o).2 b a (.inl rfl) m⟩
 ·obtain ⟨x0,h0,c,_⟩:=val j x h
  rcases c with rfl | rfl
  ·exact w.fx.frS j x h0 v hf a u
  ·exact absurd rfl hf
 ·obtain ⟨x0,h0,c,_⟩:=val j x h
  rcases c with rfl | rfl
  ·exact w.fx.lvS j x h0 t
  ·cases t
def Kin (x y:It3):Prop:=y.d=x.d/\y.v=x.v/\y.L=x.L/\(y.f=x.f\/y.f=.z)
theorem Kin.refl (x:It3):Kin x x:=⟨rfl,rfl,rfl,.inl rfl⟩
theorem Kin.trans (a:Kin x y) (b:Kin y z):Kin x z:=⟨b.1.trans a.1,b.2.1.trans a.2.1,b.2.2.1.trans a.2.2.1,by
 rcases b.2.2.2 with h | h
 ·rcases a.2.2.2 with h' | h'
  ·exact .inl (h.trans h')
  ·exact .inr (h.trans h')
 ·exact .inr h⟩
theorem Wf.lowAt {i:Nat} (w:Wf K G H σ ρ T g):∃ g',Wf K G H σ (lowAt i ρ) T g'/\(∀ j y,g j=some y->∃ a,g' j=some a/\Kin y a/\(j=i->a.f=.z)):=by
 have keep:∀ d,(ρ[i]?).join=some (d,.z)->∃ g',Wf K G H σ ρ T g'/\(∀ j y,g j=some y->∃ a,g' j=some a/\Kin y a/\(j=i->a.f=.z)):=fun d e=>⟨g,w,fun j y h=>⟨y,h,Kin.refl y,fun q=>by
  subst q
  obtain ⟨a,h',_,hf,_⟩:=w.slot e
  rw [h] at h';cases h';exact hf⟩⟩
 have low:∀ d f,(ρ[i]?).join=some (d,f)->∃ g',Wf K G H σ (ρ.set i (some (d,.z))) T g'/\(∀ j y,g j=some y->∃ a,g' j=some a/\Kin y a/\(j=i->a.f=.z)):=fun d f e=>⟨_,w.lowSlot e,fun j y h=>by
  by_cases q:j=i
  ·subst q;exact ⟨cG y,by rw [if_pos rfl,h];rfl,⟨rfl,rfl,rfl,.inr rfl⟩,fun _=>rfl⟩
  ·exact ⟨y,by rw [if_neg q];exact h,Kin.refl y,fun z=>absurd z q⟩⟩
 unfold L3.lowAt
 cases e:(ρ[i]?).join with
 | none =>
  refine ⟨g,w,fun j y h=>⟨y,h,Kin.refl y,fun q=>?_⟩⟩
  subst q
  have:=w.sl j
  rw [h,e] at this;cases this
 | some p =>
  obtain ⟨d,f⟩:=p
  cases f with
  | u=>exact low d _ e
  | l=>exact low d _ e
  | z=>exact keep d e
theorem Wf.frz:∀ {is:List Nat} {ρ:Sto} {g:Nat->Option It3},Wf K G H σ ρ T g->∃ g',Wf K G H σ (frz is ρ) T g'/\(∀ j y,g j=some y->∃ a,g' j=some a/\Kin y a/\(j ∈ is->a.f=.z))
 | [],ρ,g,w=>⟨g,w,fun j y h=>⟨y,h,Kin.refl y,fun q=>by cases q⟩⟩
 | i :: is,ρ,g,w=>by
  obtain ⟨g1,d,h1⟩:=w.lowAt (i:=i)
  obtain ⟨g2,m,h2⟩:=Wf.frz (is:=is) d
  refine ⟨g2,m,fun j y h=>?_⟩
  obtain ⟨k,e1,n,l⟩:=h1 j y h
  obtain ⟨e,c,k2,b⟩:=h2 j k e1
  refine ⟨e,c,n.trans k2,fun hm=>?_⟩
  rcases Dw.mp hm with q | q
  ·rcases k2.2.2.2 with h | h
   ·exact h.trans (l q)
   ·exact h
  ·exact b q
theorem Wf.lowT (w:Wf K G H σ ρ (Ts ++ T) g):Wf K G H σ ρ (Ts.map cG ++ T) g:=by
 have sp:∀ {a b:It3},Apart3 a b->Apart3 (cG a) (cG b):=fun h=>⟨bZ,bZ⟩
 refine ⟨w.len,w.sl,w.sv,w.okS,fun x c=>?_,w.ss,fun i x e y f=>?_,?_,w.base,w.pro,⟨fun x c hf a j=>?_,w.fx.frS,w.fx.bin,w.fx.ob,w.fx.lvS⟩⟩
 ·rcases Dz.mp c with h | h
  ·obtain ⟨x0,h0,rfl⟩:=DF.mp h
   exact (w.okT x0 (Du _ h0)).low
  ·exact w.okT x (Dv _ h)
 ·rcases Dz.mp f with h | h
  ·obtain ⟨y0,h0,rfl⟩:=DF.mp h
   exact ⟨(w.st i x e y0 (Du _ h0)).1,bZ⟩
  ·exact w.st i x e y (Dv _ h)
 ·have h:=List.pairwise_append.mp w.tt
  refine List.pairwise_append.mpr ⟨?_,h.2.1,fun a d b k=>?_⟩
  ·grind
  ·obtain ⟨a0,h0,rfl⟩:=DF.mp d
   exact ⟨bZ,(h.2.2 a0 h0 b k).2⟩
 ·rcases Dz.mp c with h | h
  ·obtain ⟨x0,h0,rfl⟩:=DF.mp h
   exact absurd rfl hf
  ·exact w.fx.frT x (Dv _ h) hf a j
theorem jV:∀ {rs:List R3} {i:Nat},R3.pl i ∈ rs->i ∈ pls rs
 | [],_,h=>by cases h
 | .pl j :: rs,i,h=>by
  rcases Dw.mp h with e | h
  ·cases e;exact Dq
  ·exact Dr _ (jV h)
 | .val _ _ :: rs,i,h=>by
  rcases Dw.mp h with e | h
  ·cases e
  ·exact jV (rs:=rs) h
theorem Ars.given:∀ {rs:List R3} {l:List V} {Ts:List It3} {ds:List D} {S:List It3} {g':Nat->Option It3} {is:List Nat},Wf K G H σ ρ T g->(∀ j y,g j=some y->∃ b,g' j=some b/\Kin y b/\(j ∈ is->b.f=.z))->(∀ i,R3.pl i ∈ rs->i ∈ is) ->
  Ars σ rs l Ts->(∀ x ∈ Ts,x ∈ T)->(∀ x ∈ Ts,cG x ∈ S)->cb rs ρ=some (.ok ds,ρ)->∃ ys:List It3,(∀ y ∈ ys,Itm S g' y/\y.f=.z)/\ys.map (·.d)=ds/\ys.map (·.v)=l
 | [],_,_,ds,S,g',is,w,hg,hi,.nil,_,_,e=>by cases e;exact ⟨[],fun _ h=>(by cases h),rfl,rfl⟩
 | r :: rs,_,_,ds,S,g',is,w,hg,hi,.cons (v:=v0) a as,hs,hS,e=>by
  obtain ⟨d,e1,u⟩:=aB (k:=fun d=>ae (cb rs) fun ds=>aJ (d :: ds)) e
  obtain ⟨o,F,B⟩:=bu u
  cases B
  obtain ⟨ys,C,A,f4⟩:=Ars.given w hg (fun i h=>hi i (Dr _ h)) as (fun x c=>hs x (Du _ c)) (fun x c=>hS x (Du _ c)) F
  have one:∃ y,(Itm S g' y/\y.f=.z)/\y.d=d/\y.v=v0:=by
   cases a with
   | @pl i v h =>
    have I:der (.pl i) ρ=((ρ[i]?).join).map fun p=>(.ok p.1,ρ):=rfl
    rw [I] at e1
    cases q:(ρ[i]?).join with
    | none=>rw [q] at e1;exact nsE e1
    | some p =>
     rw [q] at e1
     obtain ⟨y,s,E,J,m⟩:=w.slot (d:=p.1) (f:=p.2) q
     obtain ⟨b,h1,h2,h3⟩:=hg i y s
     have n:p.1=d:=by cases e1;rfl
     rw [h] at m
     refine ⟨b,⟨.inl ⟨i,h1⟩,h3 (hi i Dq)⟩,h2.1.trans (E.trans n),?_⟩
     rw [h2.2.1];cases m;rfl
   | val x=>cases e1;exact ⟨cG x,⟨.inr (hS x (by simp)),rfl⟩,rfl,rfl⟩
  obtain ⟨y,t,f1,f2⟩:=one
  refine ⟨y :: ys,fun z hz=>?_,by simp [f1,A],by simp [f2,f4]⟩
  rcases Dw.mp hz with h | hz
  ·rw [h];exact t
  ·exact C z hz
def cN (ys:List It3) (c:Addr):Prop:=∃ y ∈ ys,c ∈ y.L
def gives (rs:List R3):M3 (List D):=ae (cb rs) fun ds=>ae (ug (pls rs)) fun _=>aJ ds
theorem Ars.gives (w:Wf K G H σ ρ (Ts ++ T) g) (a:Ars σ rs vs Ts) (e:ae (gives rs) k ρ=some (r,ρ')) :
  ∃ ds ρ1 g1,k ds ρ1=some (r,ρ')/\ρ1=frz (pls rs) ρ/\Wf K G H σ ρ1 (Ts.map cG ++ T) g1/\(∀ j y,g j=some y->∃ c,g1 j=some c/\Kin y c)/\∃ ys:List It3,(∀ y ∈ ys,Itm (Ts.map cG ++ T) g1 y/\y.f=.z)/\ys.map (·.d)=ds/\ys.map (·.v)=vs:=by
 unfold L3.gives at e
 have m:ae (cb rs) (fun ds=>ae (ug (pls rs)) fun _=>k ds) ρ=some (r,ρ'):=by
  rw [<- e]
  unfold ae
  cases q:cb rs ρ with
  | none=>rfl
  | some p =>
   obtain ⟨o,ρ2⟩:=p
   cases o with
   | error x=>rfl
   | ok ds=>rfl
 obtain ⟨ds,d1,e1⟩:=bu m
 obtain ⟨g1,n,h1⟩:=Wf.frz (is:=pls rs) w
 refine ⟨ds,L3.frz (pls rs) ρ,g1,e1,rfl,n.lowT,fun j y h=>let ⟨c,a,b,_⟩:=h1 j y h;⟨c,a,b⟩,?_⟩
 exact Ars.given w h1 (fun i h=>jV h) a (fun x l=>Du _ l) (fun x l=>Du _ (DF.mpr ⟨x,l,rfl⟩)) d1
theorem Wf.alls (w:Wf K G H σ ρ T g) (a:∀ y ∈ ys,Itm T g y/\y.f=.z) (h:cN ys c):cT T g c/\(G.H0 c=none\/G.src c):=by
 obtain ⟨y,m,b⟩:=h
 exact ⟨w.kid (a y m).1 b fun hf=>absurd (a y m).2 hf,(w.itm (a y m).1).src c b⟩
theorem Wf.doneA (w:Wf K G H σ ρ (Us ++ T) g) (a:∀ y ∈ ys,Itm (Us ++ T) g y/\y.f=.z) (n:New K H H' (cN ys) x):Got K G σ ρ T (.val x.d x.f) x.v H' :=
 ⟨[x],g,(w.push n fun c h=>w.alls a h).sub (by simpa using List.Sublist.cons_cons x (DE Us T)),.val x⟩
theorem jT:∀ {ys:List It3},(∀ y ∈ ys,Rep K H y.d y.v y.L)->Reps (Rep K H) (ys.map (·.d)) (ys.map (·.v)) (ys.map (·.L)).flatten
 | [],_=>.nil
 | y :: ys,h=>.cons (h y Dq) (jT fun z hz=>h z (Dr _ hz))
theorem dR (h:c ∈ (ys.map (·.L)).flatten):cN ys c:=by
 obtain ⟨l,d,a⟩:=List.mem_flatten.mp h
 obtain ⟨y,b,rfl⟩:=DF.mp d
 exact ⟨y,b,a⟩
noncomputable def oT (mk:List D->D) (f:Fl) (ms:M3 (List R3)):EM:=ae ms fun rs=>ae (gives rs) fun ds=>aN (if ds.length<=16777216 then some (.val (mk ds) f) else none)
abbrev jJ:M3 (List R3)->EM:=oT .tup .z
abbrev jK:M3 (List R3)->EM:=oT .lst .u
theorem aX (h:H p=none):Same H (upd H p o):=fun b u e=>by
 rw [av (aK e h)];exact e
theorem Bm (hz:(16777216:Nat)=sizeLine) (h:tE K G0 W0 (jJ ms) σ H Q):tTup (tA K G0 W0 ms) σ H Q:=by
 refine h.use fun G W le ρ T g o ρ' w e q=>?_
 refine tA.seq le w e q.err fun rs ρ1 e1 r H1 Ts g1 n a1=>?_
 obtain ⟨ds,ρ2,g2,m,_,j,_,ys,i,f1,f2⟩:=a1.gives n e1
 obtain ⟨v,a,rfl,rfl⟩:=bp m
 subst f1 f2
 split at a
 ·rename_i k
  cases a
  refine ⟨by rw [DB] at k ⊢;lia,fun p f=>?_⟩
  refine q _ _ (Wf.doneA (x:=⟨.tup (ys.map (·.d)),.ref p,(ys.map (·.L)).flatten,.z⟩) j i ⟨aX f,.tup aQ ((jT fun y b=>(j.itm (i y b).1).rep).same (aX f)),fun c l=>.inr (dR l),fun hf=>absurd rfl hf⟩)
 ·exact nsE a
theorem Bq (hz:(16777216:Nat)=sizeLine) (h:tE K G0 W0 (jK ms) σ H Q):Bh (tA K G0 W0 ms) σ H Q:=by
 refine h.use fun G W le ρ T g o ρ' w e q=>?_
 refine tA.seq le w e q.err fun rs ρ1 e1 s H1 Ts g1 r a1=>?_
 obtain ⟨ds,ρ2,g2,n,_,k,_,ys,f,f1,f2⟩:=a1.gives r e1
 obtain ⟨v,i,rfl,rfl⟩:=bp n
 subst f1 f2
 split at i
 ·rename_i m
  cases i
  refine ⟨by rw [DB] at m ⊢;lia,fun p b=>?_⟩
  have np:p ∉ (ys.map (·.L)).flatten:=fun a=>by
   obtain ⟨y,hm,a⟩:=dR a
   obtain ⟨o,l⟩:=((k.itm (f y hm).1).rep.inH p a).ex
   rw [b] at l;exact nsE l
  refine q _ _ (Wf.doneA (x:=⟨.lst (ys.map (·.d)),.ref p,p :: (ys.map (·.L)).flatten,.u⟩) k f ⟨aX b,.lst aQ ((jT fun y j=>(k.itm (f y j).1).rep).same (aX b)),fun c a=>?_,fun _=>⟨rfl,p,_,rfl,rfl,np,b⟩⟩)
  rcases Dw.mp a with e | a
  ·rw [e];exact .inl b
  ·exact .inr (dR a)
 ·exact nsE i
end
end L3
end
section
namespace L3
open PySem L2
section
variable {K:FG} {G G0:Gm} {W W0:D->Sto->Prop} {H H':Hp} {σ:St} {ρ ρ':Sto} {T T':List It3} {g:Nat->Option It3} {x y z:It3} {α β:Type}
def EndS (K:FG) (G:Gm) (W:D->Sto->Prop) (T:List It3) (ρ':Sto) (E:Ends):Except D Flw->Prop
 | .ok .nx=>∀ σ' H' g',Wf K G H' σ' ρ' T g'->E.nx σ' H'
 | .ok .br=>∀ σ' H' g',Wf K G H' σ' ρ' T g'->E.bk σ' H'
 | .ok .ct=>∀ σ' H' g',Wf K G H' σ' ρ' T g'->E.ct σ' H'
 | .ok (.rt d f)=>∀ x σ' H' g',Wf K G H' σ' ρ' (x :: T) g'->x.d=d->x.f=f->E.rt x.v H'
 | .error e=>W e ρ'
theorem EndS.err (h:EndS K G W T ρ' E r):∀ x,r=.error x->W x ρ':=by
 intro x e;subst e;exact h
theorem tS.open (h:tS K G0 W0 m E σ H):∃ G W,Le K G W G0 W0/\∃ ρ T g r ρ',Wf K G H σ ρ T g/\m ρ=some (r,ρ')/\EndS K G W T ρ' E r:=by
 obtain ⟨G,W,le,ρ,T,g,r,ρ',w,e,q⟩:=h
 refine ⟨G,W,le,ρ,T,g,r,ρ',w,e,?_⟩
 cases r with
 | ok r=>cases r <;> exact q
 | error x=>exact q
theorem tS.use (h:tS K G0 W0 m E σ H) {P:Prop} (k:∀ G W,Le K G W G0 W0->∀ ρ T g r ρ',Wf K G H σ ρ T g->m ρ=some (r,ρ')->EndS K G W T ρ' E r->P):P:=by
 obtain ⟨G,W,le,ρ,T,g,r,ρ',w,e,q⟩:=h.open
 exact k G W le ρ T g r ρ' w e q
theorem tS.mk (le:Le K G W G0 W0) (w:Wf K G H σ ρ T g) (e:m ρ=some (r,ρ')) (h:EndS K G W T ρ' E r):tS K G0 W0 m E σ H:=by
 refine ⟨G,W,le,ρ,T,g,r,ρ',w,e,?_⟩
 cases r with
 | ok r=>cases r <;> exact h
 | error x=>exact h
def eB:SM:=aJ .nx
noncomputable def aI (a b:SM):SM:=ae a fun f=>match f with
 | .nx=>b
 | o=>aJ o
theorem Bd (h:tS K G0 W0 eB E σ H):AB E σ H:=by
 refine h.use fun G W le ρ T g r ρ' w e q=>?_
 cases e
 exact q _ _ _ w
theorem Bb (h:tS K G0 W0 (aI a b) E σ H):tSeq (tS K G0 W0 a) (tS K G0 W0 b) E σ H:=by
 refine h.use fun G W le ρ T g r ρ' w e q=>?_
 unfold aI ae at e
 cases p:a ρ with
 | none=>rw [p] at e;exact nsE e
 | some p' =>
  obtain ⟨o,ρ1⟩:=p'
  rw [p] at e
  cases o with
  | error x=>cases e;exact tS.mk le w p q
  | ok f =>
   cases f with
   | nx=>exact tS.mk le (r:=.ok .nx) w p fun σ' H' g' c=>tS.mk le c e q
   | br=>cases e;exact tS.mk le w p q
   | ct=>cases e;exact tS.mk le w p q
   | rt d f=>cases e;exact tS.mk le w p q
def fA (m:EM):SM:=ae m fun _=>aJ .nx
theorem yw (h:tS K G0 W0 (fA m) E σ H):AD (tE K G0 W0 m) E σ H:=by
 refine h.use fun G W le ρ T g r ρ' w e q=>?_
 refine tE.seq le w e q.err fun ra ρ1 e1 v H1 ⟨Ts,g1,a,a1⟩=>?_
 cases e1
 exact q _ _ _ (a.sub (DE Ts T))
def sIf (c:M3 Bool) (a b:SM):SM:=ae c fun t=>if t then a else b
theorem tS_if (h:tS K G0 W0 (sIf c a b) E σ H):tIfS (tT K G0 W0 c) (tS K G0 W0 a) (tS K G0 W0 b) E σ H:=by
 refine h.use fun G W le ρ T g r ρ' w e q=>?_
 refine tT.seq le w e q.err fun t ρ1 e1 H1 g1 d=>?_
 cases t with
 | true=>exact tS.mk le d e1 q
 | false=>exact tS.mk le d e1 q
def nol:Fl->Fl
 | .u=>.u
 | _=>.z
theorem Cy (f:Fl):nol f ≠ .l:=by cases f <;> intro h <;> cases h
theorem Cw (f:Fl):nol f=f\/nol f=.z:=by cases f <;> first | exact .inl rfl | exact .inr rfl
noncomputable def cK (r:R3):M3 (D × Fl):=match r with
 | .val d f=>aJ (d,nol f)
 | .pl i=>fun ρ=>((ρ[i]?).join).map fun p=>(.ok (p.1,.z),lowAt i ρ)
theorem nM {i:Nat}:cK (.pl i) ρ=((ρ[i]?).join).map fun p=>(.ok (p.1,.z),lowAt i ρ):=rfl
theorem Ar.val_inv (a:Ar σ (.val d f) v Ts):∃ x,Ts=[x]/\x.d=d/\x.f=f/\x.v=v:=by
 generalize h:R3.val d f=r at a
 cases a with
 | pl _=>cases h
 | val x=>cases h;exact ⟨x,rfl,rfl,rfl,rfl⟩
theorem Ar.take (w:Wf K G H σ ρ (Ts ++ T) g) (a:Ar σ r v Ts) (e:ae (cK r) k ρ=some (o,ρ')) :
  ∃ p ρ1 g1 x,k p ρ1=some (o,ρ')/\Wf K G H σ ρ1 (x :: T) g1/\x.d=p.1/\(p.2=x.f\/p.2=.z)/\p.2 ≠ .l/\x.v=v:=by
 cases a with
 | val x=>exact ⟨(x.d,nol x.f),ρ,g,x,e,w,rfl,Cw _,Cy _,rfl⟩
 | @pl i v h =>
  unfold ae at e
  rw [nM] at e
  cases q:(ρ[i]?).join with
  | none=>rw [q] at e;exact nsE e
  | some p =>
   rw [q] at e
   obtain ⟨y,F,E,J,A⟩:=w.slot (d:=p.1) (f:=p.2) q
   obtain ⟨g1,b,h1⟩:=w.lowAt (i:=i)
   obtain ⟨c,n,t,I⟩:=h1 i y F
   have hz:=I rfl
   refine ⟨(p.1,.z),_,g1,c,e,?_,t.1.trans E,.inr rfl,(by intro h;cases h),?_⟩
   ·have s:∀ u:It3,NoRoot c u:=fun u hf=>absurd hz hf
    refine ⟨b.len,b.sl,b.sv,b.okS,fun u hu=>?_,b.ss,fun j u m D hu=>?_,?_,b.base,b.pro,⟨fun u hu hf a C=>?_,b.fx.frS,b.fx.bin,b.fx.ob,b.fx.lvS⟩⟩
    ·rcases Dw.mp hu with h | hu
     ·rw [h];exact b.okS i c n
     ·exact b.okT u hu
    ·rcases Dw.mp hu with h | hu
     ·rw [h]
      refine ⟨?_,s _⟩
      by_cases B:j=i
      ·subst B
       rw [n] at m;cases m
       exact s _
      ·exact b.ss j i u c B m n
     ·exact b.st j u m D hu
    ·exact List.pairwise_cons.mpr ⟨fun u hu=>⟨s _,(b.st i c n u hu).2⟩,b.tt⟩
    ·rcases Dw.mp hu with h | hu
     ·rw [h] at hf;exact absurd hz hf
     ·exact b.fx.frT u hu hf a C
   ·rw [t.2.1]
    rw [h] at A;cases A;rfl
theorem Wf.store {i:Nat} (w:Wf K G H σ ρ (x :: T) g) (hi:i < ρ.length) (I:G.pr i=false) (hf:f=x.f\/f=.z) (t:f ≠ .l) :
  Wf K G H (σ.set i (some x.v)) (ρ.set i (some (x.d,f))) T (fun j=>if j=i then some { x with f:=f } else g j):=by
 have r:i < σ.length:=by rw [w.len];exact hi
 have s:=List.pairwise_cons.mp w.tt
 have A:=w.okT x Dq
 have nx:∀ u:It3,NoRoot x u->NoRoot { x with f:=f } u:=fun u h q=>by
  rcases hf with e | e
  ·exact h (by rw [<- e];exact q)
  ·exact absurd e q
 have val:∀ j u,(if j=i then some { x with f:=f } else g j)=some u->(j=i/\u = { x with f:=f })\/(j ≠ i/\g j=some u):=fun j u h=>by
  by_cases q:j=i
  ·rw [if_pos q] at h;cases h;exact .inl ⟨q,rfl⟩
  ·rw [if_neg q] at h;exact .inr ⟨q,h⟩
 refine ⟨by rw [List.length_set,List.length_set];exact w.len,fun j=>?_,fun j u h=>?_,fun j u h=>?_,fun u hu=>w.okT u (Dr _ hu),fun j k a b n h1 h2=>?_,fun j a h b C=>?_,s.2,w.base,fun j y=>?_,⟨fun u hu=>w.fx.frT u (Dr _ hu),fun j u h B m a p=>?_,w.fx.bin,w.fx.ob,fun j u h D=>?_⟩⟩
 ·rw [b9 hi]
  by_cases q:j=i
  ·rw [if_pos q,if_pos q];rfl
  ·rw [if_neg q,if_neg q];exact w.sl j
 ·rcases val j u h with ⟨rfl,rfl⟩ | ⟨n,h⟩
  ·rw [List.getElem?_set_self r]
  ·rw [List.getElem?_set_ne (fun z=>n z.symm)];exact w.sv j u h
 ·rcases val j u h with ⟨rfl,rfl⟩ | ⟨n,h⟩
  ·refine ⟨A.rep,fun q=>?_,A.src⟩
   rcases hf with e | e
   ·subst e
    exact A.own q
   ·exact absurd e q
  ·exact w.okS j u h
 ·rcases val j a h1 with ⟨L,p⟩ | ⟨M,o⟩
  ·rcases val k b h2 with ⟨E,F⟩ | ⟨J,c⟩
   ·exact absurd (L.trans E.symm) n
   ·rw [p];exact nx b (w.st k b c x Dq).2
  ·rcases val k b h2 with ⟨E,F⟩ | ⟨J,c⟩
   ·rw [F];exact (w.st j a o x Dq).1
   ·exact w.ss j k a b n o c
 ·rcases val j a h with ⟨rfl,rfl⟩ | ⟨n,h⟩
  ·exact ⟨nx b (s.1 b C).1,(s.1 b C).2⟩
  ·exact w.st j a h b (Dr _ C)
 ·have n:j ≠ i:=fun z=>by subst z;rw [I] at y;cases y
  rw [List.getElem?_set_ne (fun z=>n z.symm)];exact w.pro j y
 ·rcases val j u h with ⟨_,rfl⟩ | ⟨n,h⟩
  ·rcases hf with e | e
   ·exact w.fx.frT x Dq (by rw [<- e];exact m) a p
   ·exact absurd e m
  ·exact w.fx.frS j u h B m a p
 ·rcases val j u h with ⟨_,rfl⟩ | ⟨n,h⟩
  ·exact absurd D t
  ·exact w.fx.lvS j u h D
def ba (i:Nat) (m:EM):SM:=ae m fun r=>ae (cK r) fun p=>fun ρ=>if i < ρ.length then some (.ok .nx,ρ.set i (some p)) else none
theorem Ba {i:Nat} (d:G0.pr i=false) (h:tS K G0 W0 (ba i m) E σ H):uY (tE K G0 W0 m) (gp i) E σ H:=by
 refine h.use fun G W le ρ T g r ρ' w e q=>?_
 refine tE.seq le w e q.err fun ra ρ1 e1 v H1 ⟨Ts,g1,b,a1⟩=>?_
 obtain ⟨p,ρ2,g2,x,a,j,f1,f2,f4,c⟩:=a1.take b e1
 split at a
 ·rename_i hi
  cases a
  have:=j.store (f:=p.2) hi (by rw [le.pr];exact d) f2 f4
  rw [f1,c] at this
  exact q _ _ _ this
 ·exact nsE a
def aT (np:Nat) (m:EM):SM:=ae m fun r=>match r with
 | .val d f=>aJ (.rt d f)
 | .pl i=>fun ρ=>match (ρ[i]?).join with
  | some (d,.u)=>if i < np then some (.ok (.rt d .z),lowAt i ρ) else some (.ok (.rt d .u),ρ.set i none)
  | some (d,_)=>some (.ok (.rt d .z),lowAt i ρ)
  | none=>none
def rA:SM:=aJ (.rt .non .z)
theorem Wf.move {i:Nat} (w:Wf K G H σ ρ T g) (f:G.pr i=false) (e:g i=some y):Wf K G H σ (ρ.set i none) (y :: T) (fun j=>if j=i then none else g j):=by
 have hi:i < ρ.length:=by
  have:=w.sl i
  rw [e] at this
  exact eJ this.symm
 have val:∀ j u,(if j=i then none else g j)=some u->j ≠ i/\g j=some u:=fun j u h=>by
  grind
 refine ⟨by rw [List.length_set];exact w.len,fun j=>?_,fun j u h=>w.sv j u (val j u h).2,fun j u h=>w.okS j u (val j u h).2,fun u hu=>?_,fun j k a b n h1 h2=>w.ss j k a b n (val j a h1).2 (val k b h2).2,fun j a h b c=>?_,?_,w.base,w.pro,⟨fun u hu hf a d=>?_,fun j u h=>w.fx.frS j u (val j u h).2,w.fx.bin,w.fx.ob,fun j u h=>w.fx.lvS j u (val j u h).2⟩⟩
 ·rw [b9 hi]
  by_cases q:j=i
  ·rw [if_pos q,if_pos q];rfl
  ·rw [if_neg q,if_neg q];exact w.sl j
 ·rcases Dw.mp hu with h | hu
  ·rw [h];exact w.okS i y e
  ·exact w.okT u hu
 ·obtain ⟨n,h⟩:=val j a h
  rcases Dw.mp c with h' | c
  ·rw [h'];exact ⟨w.ss j i a y n h e,w.ss i j y a (Ne.symm n) e h⟩
  ·exact w.st j a h b c
 ·exact List.pairwise_cons.mpr ⟨fun u hu=>w.st i y e u hu,w.tt⟩
 ·rcases Dw.mp hu with h | hu
  ·subst h;exact w.fx.frS i u e f hf a d
  ·exact w.fx.frT u hu hf a d
theorem Bc {np:Nat} (o:∀ i,np<=i->G0.pr i=false) (h:tS K G0 W0 (aT np m) E σ H):tRet (tE K G0 W0 m) E σ H:=by
 refine h.use fun G W le ρ T g r ρ' w e q=>?_
 refine tE.seq le w e q.err fun ra ρ1 e1 v H1 ⟨Ts,g1,j,a1⟩=>?_
 have low:∀ {i:Nat} {d:D} {f:Fl},(ρ1[i]?).join=some (d,f)->some ((.ok (.rt d .z),lowAt i ρ1):Except D Flw × Sto)=some (r,ρ')->Ar σ (.pl i) v Ts->E.rt v H1:=fun {i d f} b F a=>by
  cases F
  have L:ae (cK (.pl i)) (fun p=>aJ (Flw.rt p.1 p.2)) ρ1=some (.ok (.rt d .z),L3.lowAt i ρ1):=by
   unfold ae
   rw [nM,b]
   rfl
  obtain ⟨p,ρ2,g2,x,k,s,f1,f2,_,I⟩:=a.take j L
  have c:Flw.rt p.1 p.2=Flw.rt d .z/\ρ2=L3.lowAt i ρ1:=by
   unfold aJ at k
   injection k with k
   injection k with c n
   injection c with c
   exact ⟨c,n⟩
  obtain ⟨c,n⟩:=c
  injection c with e7 e8
  subst n
  rw [<- I]
  have A:=Wf.lowT (Ts:=[x]) s
  exact q (cG x) σ H1 g2 A (f1.trans e7) rfl
 cases a1 with
 | val x=>cases e1;exact q x σ H1 g1 j rfl rfl
 | @pl i v h =>
  dsimp only at e1
  cases b:(ρ1[i]?).join with
  | none=>rw [b] at e1;exact nsE e1
  | some p =>
   obtain ⟨d,f⟩:=p
   rw [b] at e1
   cases f with
   | u =>
    dsimp only at e1
    split at e1
    ·exact low b e1 (.pl h)
    ·cases e1
     obtain ⟨y,C,J,B,t⟩:=j.slot b
     have s:=Wf.move j (by rw [le.pr];exact o i (by lia)) C
     have:=q y σ H1 _ s J B
     rw [h] at t
     cases t
     exact this
   | l=>exact low b e1 (.pl h)
   | z=>exact low b e1 (.pl h)
def bA (c:M3 Bool) (b:SM):Nat->SM
 | 0=>fun _=>none
 | n+1=>ae c fun t=>if t then ae b (fun f=>match f with
   | .nx=>bA c b n
   | .ct=>bA c b n
   | .br=>aJ .nx
   | .rt d f=>aJ (.rt d f)) else aJ .nx
def fy (c:M3 Bool) (b:SM):SM:=fun ρ=>open Classical in if h:∃ n r,bA c b n ρ=some r then some (Classical.choose (Classical.choose_spec h)) else none
theorem fh:∀ {n:Nat} {ρ:Sto} {r:Except D Flw × Sto},bA c b n ρ=some r->bA c b (n+1) ρ=some r
 | 0,ρ,r,e=>by cases e
 | n+1,ρ,r,e=>by
  unfold bA at e ⊢
  unfold ae at e ⊢
  cases h:c ρ with
  | none=>rw [h] at e;exact nsE e
  | some p =>
   obtain ⟨o,ρ1⟩:=p
   rw [h] at e
   cases o with
   | error x=>exact e
   | ok t =>
    cases t with
    | false=>exact e
    | true =>
     simp only [if_true] at e ⊢
     cases h2:b ρ1 with
     | none=>rw [h2] at e;exact nsE e
     | some p2 =>
      obtain ⟨a,ρ2⟩:=p2
      rw [h2] at e
      cases a with
      | error x=>exact e
      | ok f =>
       cases f with
       | nx=>exact fh (n:=n) e
       | ct=>exact fh (n:=n) e
       | br=>exact e
       | rt d f=>exact e
theorem iQ {n m:Nat} (h:n<=m) (e:bA c b n ρ=some r):bA c b m ρ=some r:=by
 induction h with
 | refl=>exact e
 | step _ ih=>exact fh ih
theorem n5 (e:fy c b ρ=some r):∃ n,bA c b n ρ=some r:=by
 unfold fy at e
 split at e
 ·grind
 ·exact nsE e
theorem uV (h:tS K G0 W0 (fy c b) E σ H):uU (tT K G0 W0 c) (tS K G0 W0 b) E σ H:=by
 refine h.use fun G W le ρ T g r ρ' w e q=>?_
 obtain ⟨n,e⟩:=n5 e
 refine ⟨fun m σ H=>∃ ρ g,Wf K G H σ ρ T g/\bA c b m ρ=some (r,ρ'),⟨n,ρ,g,w,e⟩,?_⟩
 rintro m σ1 H1 ⟨ρ1,g1,k,e1⟩
 cases m with
 | zero=>exact nsE e1
 | succ m =>
  unfold bA at e1
  refine tT.seq le k e1 q.err fun t ρ2 a H2 g2 i=>?_
  cases t with
  | false=>cases a;exact q _ _ _ i
  | true =>
   refine ⟨fun σ H=>∃ ρ g,Wf K G H σ ρ T g/\bA c b m ρ=some (r,ρ'),fun σ' H' h=>⟨m,Nat.lt_succ_self m,h⟩,?_⟩
   simp only [if_true] at a
   unfold ae at a
   cases p:b ρ2 with
   | none=>rw [p] at a;exact nsE a
   | some p2 =>
    obtain ⟨o,ρ3⟩:=p2
    rw [p] at a
    cases o with
    | error x=>cases a;exact tS.mk le i p q
    | ok f =>
     cases f with
     | nx=>exact tS.mk le (r:=.ok .nx) i p fun σ' H' g' j=>⟨ρ3,g',j,a⟩
     | ct=>exact tS.mk le (r:=.ok .ct) i p fun σ' H' g' j=>⟨ρ3,g',j,a⟩
     | br=>cases a;exact tS.mk le (r:=.ok .br) i p q
     | rt d f=>cases a;exact tS.mk le (r:=.ok (.rt d f)) i p q
end
end L3
end
section
namespace L3
open PySem L2
abbrev Fn:=List (D × Fl)->Option (Except D (D × Fl) × List (D × Fl))
def prs (ρ:Sto):List R3->Option (List (D × Fl))
 | []=>some []
 | .pl i :: rs=>match (ρ[i]?).join,prs ρ rs with
  | some p,some ps=>some (p :: ps)
  | _,_=>none
 | .val d f :: rs=>match prs ρ rs with
  | some ps=>some ((d,f) :: ps)
  | _=>none
def jM (rs:List R3):List Nat:=(pls rs).filter fun i=>decide (2<=(pls rs).count i)
def back:List R3->List (D × Fl)->List (D × Fl)->Sto->Sto
 | .pl i :: rs,p :: ps,q :: qs,ρ=>back rs ps qs (if p.2=.z then ρ else ρ.set i (some (q.1,if q.2=.z then .z else p.2)))
 | .val _ _ :: rs,_ :: ps,_ :: qs,ρ=>back rs ps qs ρ
 | _,_,_,ρ=>ρ
section
variable {K:FG} {G G0:Gm} {W W0:D->Sto->Prop} {H H':Hp} {σ:St} {ρ ρ':Sto} {T T':List It3} {g:Nat->Option It3} {x y z:It3} {α β:Type}
structure Back1 (K:FG) (H H':Hp) (ps:List It3) (p q:It3):Prop where
 z:p.f=.z->q=p
 v:q.v=p.v
 f:q.f=p.f\/q.f=.z
 arg:Arg K H' q
 src:∀ c ∈ q.L,H c=none\/cN ps c
 there:p.f=.u->∀ b,p.v=.ref b->∃ o,H' b=some o
structure BehindX (K:FG) (H H':Hp) (ps qs:List It3):Prop where
 frame:∀ b o,H b=some o->(∀ p ∈ ps,p.f=.u->p.v ≠ .ref b)->H' b=some o
 back:Paired (Back1 K H H' ps) ps qs
 apart:qs.Pairwise Apart3
structure Behind (K:FG) (H H':Hp) (ps qs:List It3) (x:It3):Prop extends BehindX K H H' ps qs where
 rep:Rep K H' x.d x.v x.L
 own:x.f ≠ .z->iG x.d=true/\∃ a L',x.v=.ref a/\x.L=a :: L'/\a ∉ L'/\H a=none
 src:∀ c ∈ x.L,H c=none\/cN ps c
 apx:∀ q ∈ qs,Apart3 x q
theorem Ars.args:∀ {rs:List R3} {E:List V} {Ts T:List It3} {c:List (D × Fl)},Ars σ rs E Ts->Wf K G H σ ρ (Ts ++ T) g->(∀ i,2<=(pls rs).count i->∀ y,g i=some y->y.f=.z)->prs ρ rs=some c ->
  ∃ ps:List It3,ps.map (fun p=>(p.d,p.f))=c/\ps.map (·.v)=E/\ps.Pairwise Apart3/\(∀ p ∈ ps,(∃ i,R3.pl i ∈ rs/\g i=some p)\/p ∈ Ts)/\Paired (fun r p=>match r with | .pl i=>g i=some p | .val _ _=>p ∈ Ts) rs ps
 | [],_,_,T,c,.nil,w,_,e=>by cases e;exact ⟨[],rfl,rfl,.nil,fun _ h=>(by cases h),.nil⟩
 | r :: rs,_,_,T,c,.cons (v:=v0) (Ts:=T0) (Us:=U0) a as,w,hd,e=>by
  have C:Wf K G H σ ρ (U0 ++ (T0 ++ T)) g:=by rw [<- List.append_assoc];exact w
  have o:∀ i,2<=(pls rs).count i->∀ y,g i=some y->y.f=.z:=fun i s=>hd i (by
   cases r with
   | pl j=>show 2<=(j :: pls rs).count i;rw [List.count_cons];lia
   | val _ _=>exact s)
  cases a with
  | @pl i v h =>
   unfold prs at e
   cases q:(ρ[i]?).join with
   | none=>rw [q] at e;exact nsE e
   | some p0 =>
    cases l:prs ρ rs with
    | none=>rw [q,l] at e;exact nsE e
    | some pfs' =>
     rw [q,l] at e
     cases e
     obtain ⟨ps,f1,f2,A,f4,B⟩:=Ars.args as C o l
     obtain ⟨y,m,L,I,F⟩:=w.slot (d:=p0.1) (f:=p0.2) q
     have J:y.v=v0:=by rw [h] at F;cases F;rfl
     refine ⟨y :: ps,by rw [DL,f1,L,I],by rw [DL,f2,J],List.pairwise_cons.mpr ⟨fun p b=>?_,A⟩,fun p b=>?_,.cons m ?_⟩
     ·rcases f4 p b with ⟨j,n,k⟩ | b
      ·by_cases u:i=j
       ·subst u
        have s:2<=(pls (R3.pl i :: rs)).count i:=by
         show 2<=(i :: pls rs).count i
         rw [List.count_cons_self]
         have:=List.count_pos_iff.mpr (jV n)
         lia
        have hz:=hd i s y m
        have t:=hd i s p k
        exact ⟨fun q=>absurd hz q,fun q=>absurd t q⟩
       ·exact ⟨w.ss i j y p u m k,w.ss j i p y (Ne.symm u) k m⟩
      ·exact w.st i y m p (Du _ (Du _ b))
     ·rcases Dw.mp b with h' | b
      ·rw [h'];exact .inl ⟨i,Dq,m⟩
      ·rcases f4 p b with ⟨j,n,k⟩ | b
       ·exact .inl ⟨j,Dr _ n,k⟩
       ·exact .inr (Du _ b)
     ·exact Paired.mapP B fun r p h=>by
       cases r with
       | pl j=>exact h
       | val _ _=>exact Du _ h
  | val x =>
   unfold prs at e
   cases l:prs ρ rs with
   | none=>rw [l] at e;exact nsE e
   | some pfs' =>
    rw [l] at e
    cases e
    obtain ⟨ps,f1,f2,A,f4,B⟩:=Ars.args as C o l
    refine ⟨x :: ps,by rw [DL,f1],by rw [DL,f2],List.pairwise_cons.mpr ⟨fun p b=>?_,A⟩,fun p b=>?_,.cons (Dv _ Dq) ?_⟩
    ·rcases f4 p b with ⟨j,n,k⟩ | b
     ·exact (w.st j p k x (Du _ (Dv _ Dq))).symm
     ·have t1:=(List.pairwise_append.mp w.tt).1
      exact ((List.pairwise_append.mp t1).2.2 p b x Dq).symm
    ·rcases Dw.mp b with h' | b
     ·rw [h'];exact .inr (Dv _ Dq)
     ·rcases f4 p b with ⟨j,n,k⟩ | b
      ·exact .inl ⟨j,Dr _ n,k⟩
      ·exact .inr (Du _ b)
    ·exact Paired.mapP B fun r p h=>by
      cases r with
      | pl j=>exact h
      | val _ _=>exact Du _ h
theorem eL:∀ {rs:List R3} {ps qs:List It3} {ρ:Sto} {g:Nat->Option It3},(∀ j,(g j).map (fun x=>(x.d,x.f))=(ρ[j]?).join)->rs.length=ps.length->Paired (Back1 K H H' T) ps qs->(∀ i,R3.pl i ∈ rs->i < ρ.length) ->
  ∃ g':Nat->Option It3,(∀ j,(g' j).map (fun x=>(x.d,x.f))=((back rs (ps.map fun p=>(p.d,p.f)) (qs.map fun q=>(q.d,q.f)) ρ)[j]?).join)/\(back rs (ps.map fun p=>(p.d,p.f)) (qs.map fun q=>(q.d,q.f)) ρ).length = ρ.length /\
   ∀ j:Nat,(g' j=g j/\∀ (k:Nat) (p:It3),rs[k]?=some (R3.pl j)->ps[k]?=some p->p.f=.z)\/∃ (k:Nat) (p q:It3),rs[k]?=some (R3.pl j)/\ps[k]?=some p/\qs[k]?=some q/\p.f ≠ .z/\g' j=some q
 | [],[],_,ρ,g,hg,_,.nil,_=>⟨g,hg,rfl,fun j=>.inl ⟨rfl,fun k p h=>by simp at h⟩⟩
 | [],_ :: _,_,_,_,_,h,_,_=>by cases h
 | _ :: _,[],_,_,_,_,h,_,_=>by cases h
 | .val d f :: rs,p :: ps,_,ρ,g,hg,hl,.cons (b:=q) (l₂:=qs) b1 bs,hi=>by
  obtain ⟨g',h1,h2,h3⟩:=eL (rs:=rs) hg (by simpa using hl) bs fun i h=>hi i (Dr _ h)
  refine ⟨g',h1,h2,fun j=>?_⟩
  rcases h3 j with ⟨e,h⟩ | ⟨k,a,l,a1,a2,a3,a4⟩
  ·refine .inl ⟨e,fun k a e1 c=>?_⟩
   cases k with
   | zero=>simp at e1
   | succ k=>exact h k a (by simpa using e1) (by simpa using c)
  ·exact .inr ⟨k+1,a,l,by simpa using a1,by simpa using a2,by simpa using a3,a4⟩
 | .pl i :: rs,p :: ps,_,ρ,g,hg,hl,.cons (b:=q) (l₂:=qs) b1 bs,hi=>by
  have n:=hi i Dq
  by_cases hz:p.f=.z
  ·have o:back (.pl i :: rs) ((p :: ps).map fun p=>(p.d,p.f)) ((q :: qs).map fun q=>(q.d,q.f)) ρ=back rs (ps.map fun p=>(p.d,p.f)) (qs.map fun q=>(q.d,q.f)) ρ:=by
    show back rs _ _ (if p.f=.z then ρ else _)=_
    rw [if_pos hz]
   rw [o]
   obtain ⟨g',h1,h2,h3⟩:=eL (rs:=rs) hg (by simpa using hl) bs fun i h=>hi i (Dr _ h)
   refine ⟨g',h1,h2,fun j=>?_⟩
   rcases h3 j with ⟨e,h⟩ | ⟨k,a,l,a1,a2,a3,a4⟩
   ·refine .inl ⟨e,fun k a e1 c=>?_⟩
    cases k with
    | zero=>simp at c;rw [<- c];exact hz
    | succ k=>exact h k a (by simpa using e1) (by simpa using c)
   ·exact .inr ⟨k+1,a,l,by simpa using a1,by simpa using a2,by simpa using a3,a4⟩
  ·have o:back (.pl i :: rs) ((p :: ps).map fun p=>(p.d,p.f)) ((q :: qs).map fun q=>(q.d,q.f)) ρ=back rs (ps.map fun p=>(p.d,p.f)) (qs.map fun q=>(q.d,q.f)) (ρ.set i (some (q.d,q.f))):=by
    show back rs _ _ (if p.f=.z then ρ else ρ.set i (some (q.d,if q.f=.z then .z else p.f)))=_
    rw [if_neg hz]
    have:(if q.f=.z then Fl.z else p.f)=q.f:=by
     by_cases h:q.f=.z
     ·rw [if_pos h,h]
     ·rw [if_neg h]
      rcases b1.f with h' | h'
      ·exact h'.symm
      ·exact absurd h' h
    rw [this]
   rw [o]
   obtain ⟨g',h1,h2,h3⟩:=eL (rs:=rs) (ρ:=ρ.set i (some (q.d,q.f))) (g:=fun j=>if j=i then some q else g j) (fun j=>by
    rw [b9 n]
    by_cases e:j=i
    ·rw [if_pos e,if_pos e];rfl
    ·rw [if_neg e,if_neg e];exact hg j) (by simpa using hl) bs fun i h=>by rw [List.length_set];exact hi i (Dr _ h)
   refine ⟨g',h1,by rw [h2,List.length_set],fun j=>?_⟩
   rcases h3 j with ⟨e,h⟩ | ⟨k,a,l,a1,a2,a3,a4⟩
   ·by_cases m:j=i
    ·rw [if_pos m] at e
     exact .inr ⟨0,p,q,by simp [m],rfl,rfl,hz,e⟩
    ·rw [if_neg m] at e
     refine .inl ⟨e,fun k a e1 c=>?_⟩
     cases k with
     | zero=>simp at e1;exact absurd e1.symm m
     | succ k=>exact h k a (by simpa using e1) (by simpa using c)
   ·exact .inr ⟨k+1,a,l,by simpa using a1,by simpa using a2,by simpa using a3,a4⟩
theorem mK:∀ {rs:List R3} {a:List (D × Fl)},prs ρ rs=some a->rs.length=a.length
 | [],a,e=>by cases e;rfl
 | .pl i :: rs,a,e=>by
  unfold prs at e
  cases q:(ρ[i]?).join with
  | none=>rw [q] at e;exact nsE e
  | some p =>
   cases b:prs ρ rs with
   | none=>rw [q,b] at e;exact nsE e
   | some ps=>rw [q,b] at e;cases e;rw [DS,DS,mK b]
 | .val d f :: rs,a,e=>by
  unfold prs at e
  cases b:prs ρ rs with
  | none=>rw [b] at e;exact nsE e
  | some ps=>rw [b] at e;cases e;rw [DS,DS,mK b]
theorem qh:∀ {rs:List R3} {a:List (D × Fl)},prs ρ rs=some a->∀ i,R3.pl i ∈ rs->i < ρ.length
 | [],a,e,i,h=>by cases h
 | .pl i :: rs,a,e,j,h=>by
  unfold prs at e
  cases q:(ρ[i]?).join with
  | none=>rw [q] at e;exact nsE e
  | some p =>
   cases b:prs ρ rs with
   | none=>rw [q,b] at e;exact nsE e
   | some ps =>
    rcases Dw.mp h with h | h
    ·cases h;exact eJ q
    ·exact qh b j h
 | .val d f :: rs,a,e,j,h=>by
  unfold prs at e
  cases b:prs ρ rs with
  | none=>rw [b] at e;exact nsE e
  | some ps =>
   rcases Dw.mp h with h | h
   ·cases h
   ·exact qh b j h
theorem Paired.at:∀ {l:List α} {m:List β} {k:Nat} {a:α} {b:β},Paired F l m->l[k]?=some a->m[k]?=some b->F a b
 | _,_,_,_,_,.nil,h,_=>by simp at h
 | _,_,0,_,_,.cons r _,h,h'=>by simp at h h';subst h h';exact r
 | _,_,k+1,_,_,.cons _ t,h,h'=>Paired.at (k:=k) t (by simpa using h) (by simpa using h')
theorem Paired.exL:∀ {l:List α} {m:List β} {k:Nat} {a:α},Paired F l m->l[k]?=some a->∃ b,m[k]?=some b/\F a b
 | _,_,_,_,.nil,h=>by simp at h
 | _,_,0,_,.cons r _,h=>by simp at h;subst h;exact ⟨_,rfl,r⟩
 | _,_,k+1,_,.cons _ t,h=>let ⟨b,h1,h2⟩:=Paired.exL (k:=k) t (by simpa using h);⟨b,by simpa using h1,h2⟩
theorem Paired.exR:∀ {l:List α} {m:List β} {k:Nat} {b:β},Paired F l m->m[k]?=some b->∃ a,l[k]?=some a/\F a b
 | _,_,_,_,.nil,h=>by simp at h
 | _,_,0,_,.cons r _,h=>by simp at h;subst h;exact ⟨_,rfl,r⟩
 | _,_,k+1,_,.cons _ t,h=>let ⟨b,h1,h2⟩:=Paired.exR (k:=k) t (by simpa using h);⟨b,by simpa using h1,h2⟩
theorem cx {R:α->α->Prop} {l:List α} (p:l.Pairwise R) (f:∀ a b,R a b->R b a) {i j:Nat} {a b:α} (n:i ≠ j) (d:l[i]?=some a) (c:l[j]?=some b):R a b:=by
 obtain ⟨h1,e1⟩:=DC.mp d
 obtain ⟨h2,e⟩:=DC.mp c
 have q:=List.pairwise_iff_getElem.mp p
 grind
theorem Wf.after (w:Wf K G H σ ρ (Ts ++ T) g) (e:prs ρ rs=some pfs) (f1:ps.map (fun p=>(p.d,p.f))=pfs) (f4:∀ p ∈ ps,(∃ i,R3.pl i ∈ rs/\g i=some p)\/p ∈ Ts) (f5:Paired (fun r p=>match r with | .pl i=>g i=some p | .val _ _=>p ∈ Ts) rs ps) (B:BehindX K H H' ps qs) :
  ∃ g',Wf K G H' σ (L3.back rs pfs (qs.map fun q=>(q.d,q.f)) ρ) T g' /\
   ∀ x,Rep K H' x.d x.v x.L->(x.f ≠ .z->iG x.d=true/\∃ a L',x.v=.ref a/\x.L=a :: L'/\a ∉ L'/\H a=none)->(∀ c ∈ x.L,H c=none\/cN ps c)->(∀ q ∈ qs,Apart3 x q)->Wf K G H' σ (L3.back rs pfs (qs.map fun q=>(q.d,q.f)) ρ) (x :: T) g':=by
 subst f1
 have U:rs.length=ps.length:=by have:=mK e;rwa [DB] at this
 obtain ⟨g',h1,h2,h3⟩:=eL (K:=K) (H:=H) (H':=H') (T:=ps) (rs:=rs) (ps:=ps) (qs:=qs) w.sl U B.back (qh e)
 have E:∀ p ∈ ps,Itm (Ts ++ T) g p:=fun p l=>by
  rcases f4 p l with ⟨i,_,O⟩ | h
  ·exact .inl ⟨i,O⟩
  ·exact .inr (Du _ h)
 have W:∀ b o,H b=some o->∃ o',H' b=some o':=fun b o S=>by
  by_cases h:∀ p ∈ ps,p.f=.u->p.v ≠ .ref b
  ·exact ⟨o,B.frame b o S h⟩
  ·have h':∃ p,p ∈ ps/\p.f=.u/\p.v=.ref b:=by
    refine Classical.byContradiction fun n=>h fun p l hf I=>n ⟨p,l,hf,I⟩
   obtain ⟨p,l,hf,I⟩:=h'
   obtain ⟨k,hk,ek⟩:=List.mem_iff_getElem.mp l
   obtain ⟨q,e1,b1⟩:=Paired.exL B.back (show ps[k]?=some p by rw [Dx hk,ek])
   exact b1.there hf b I
 have ka:∀ j z,g j=some z->(∀ (k:Nat) (p:It3),rs[k]?=some (R3.pl j)->ps[k]?=some p->p.f=.z)->∀ p ∈ ps,Apart3 p z:=fun j z ej hu p l=>by
  rcases f4 p l with ⟨i,hi,O⟩ | h
  ·by_cases ij:i=j
   ·subst ij
    have ar:p=z:=Ei (O.symm.trans ej)
    subst ar
    have hz:p.f=.z:=by
     obtain ⟨k,hk,ek⟩:=List.mem_iff_getElem.mp hi
     have Z:rs[k]?=some (R3.pl i):=by rw [Dx hk,ek]
     obtain ⟨A,e1,C⟩:=Paired.exL f5 Z
     have C:g i=some A:=C
     rw [O] at C
     cases C
     exact hu k p Z e1
    exact ⟨fun q=>absurd hz q,fun q=>absurd hz q⟩
   ·exact ⟨w.ss i j p z ij O ej,w.ss j i z p (Ne.symm ij) ej O⟩
  ·exact (w.st j z ej p (Du _ h)).symm
 have kt:∀ z ∈ T,∀ p ∈ ps,Apart3 p z:=fun z hz p l=>by
  rcases f4 p l with ⟨i,hi,O⟩ | h
  ·exact w.st i p O z (Dv _ hz)
  ·exact (List.pairwise_append.mp w.tt).2.2 p h z hz
 have keep:∀ z,ItOk K G H z->(∀ p ∈ ps,Apart3 p z)->ItOk K G H' z:=fun z P V=>by
  refine P.keep (M:=fun b=>∃ p ∈ ps,p.f=.u/\p.v=.ref b) (fun b o S n=>B.frame b o S fun p l hf I=>n ⟨p,l,hf,I⟩) (fun b ⟨p,l,hf,I⟩=>?_) (fun b S ⟨p,l,hf,I⟩=>?_)
  ·obtain ⟨_,a,L',e1,C,_⟩:=(w.itm (E p l)).own (by rw [hf];intro q;cases q)
   rw [I] at e1
   cases e1
   exact (w.itm (E p l)).rep.inH b (by rw [C];exact Dq)
  ·exact (V p l).1 (by rw [hf];intro q;cases q) b I S
 have ab:∀ k p q,ps[k]?=some p->qs[k]?=some q->ItOk K G H' q:=fun k p q e1 C=>by
  have b:=Paired.at B.back e1 C
  refine ⟨b.arg.rep,fun hf=>?_,fun c R=>?_⟩
  ·obtain ⟨m,a,L',v1,v2,v3⟩:=b.arg.own hf
   refine ⟨m,a,L',v1,v2,v3,fun hu=>?_⟩
   have pf:p.f=.u:=by
    rcases b.f with h | h
    ·rw [<- h];exact hu
    ·rw [h] at hu;cases hu
   obtain ⟨_,a',a8,e3,_,_,e5⟩:=(w.itm (E p (DD e1))).own (by rw [pf];intro q;cases q)
   rw [<- b.v,v1] at e3
   cases e3
   exact e5 pf
  ·rcases b.src c R with h | ⟨A,y,h⟩
   ·exact .inl (w.h0none h)
   ·exact (w.itm (E A y)).src c h
 have kq:∀ z,ItOk K G H z->(∀ p ∈ ps,Apart3 p z)->∀ k p q,ps[k]?=some p->qs[k]?=some q->Apart3 z q:=fun z P V k p q e1 C=>by
  have b:=Paired.at B.back e1 C
  refine ⟨fun hf a ev hm=>?_,fun hf a ev=>?_⟩
  ·rcases b.src a hm with h | ⟨A,y,R⟩
   ·obtain ⟨_,a',L',s,N,_⟩:=P.own hf
    rw [ev] at s;cases s
    obtain ⟨o,F⟩:=(P.rep.inH a (by rw [N];exact Dq)).ex
    rw [h] at F;exact nsE F
   ·exact (V A y).2 hf a ev R
  ·have pf:p.f ≠ .z:=fun X=>by
    have:=b.z X
    rw [this] at hf
    exact hf X
   exact (V p (DD e1)).1 pf a (by rw [<- b.v];exact ev)
 have old:∀ j z,g' j=some z->(g j=some z/\∀ p ∈ ps,Apart3 p z)\/∃ k p,rs[k]?=some (R3.pl j)/\ps[k]?=some p/\qs[k]?=some z:=fun j z D=>by
  rcases h3 j with ⟨e1,hu⟩ | ⟨k,p,q,a1,a2,a3,_,a5⟩
  ·rw [e1] at D
   exact .inl ⟨D,ka j z D hu⟩
  ·rw [a5] at D
   cases D
   exact .inr ⟨k,p,a1,a2,a3⟩
 have wf:Wf K G H' σ (L3.back rs (ps.map fun p=>(p.d,p.f)) (qs.map fun q=>(q.d,q.f)) ρ) T g':=by
  refine ⟨by rw [h2];exact w.len,h1,fun j z D=>?_,fun j z D=>?_,fun z hz=>keep z (w.okT z (Dv _ hz)) (kt z hz),fun i j a b n Q eb=>?_,fun j z D t J=>?_,(List.pairwise_append.mp w.tt).2.1,fun b o e n=>?_,w.pro,⟨fun u hu=>w.fx.frT u (Dv _ hu),fun j u h l hf a Q=>?_,fun b S=>?_,fun b o h=>?_,fun j u h U=>?_⟩⟩
  ·rcases old j z D with ⟨e1,_⟩ | ⟨k,p,a1,a2,a3⟩
   ·exact w.sv j z e1
   ·have Y:g j=some p:=by
     obtain ⟨A,s,N⟩:=Paired.exL f5 a1
     rw [a2] at s;cases s
     exact N
    rw [(Paired.at B.back a2 a3).v]
    exact w.sv j p Y
  ·rcases old j z D with ⟨e1,ap⟩ | ⟨k,p,a1,a2,a3⟩
   ·exact keep z (w.okS j z e1) ap
   ·exact ab k p z a2 a3
  ·rcases old i a Q with ⟨e1,ap⟩ | ⟨k,p,a1,a2,a3⟩
   ·rcases old j b eb with ⟨C,_⟩ | ⟨k',A,b1,b2,b3⟩
    ·exact w.ss i j a b n e1 C
    ·exact (kq a (w.okS i a e1) ap k' A b b2 b3).1
   ·rcases old j b eb with ⟨C,ap⟩ | ⟨k',A,b1,b2,b3⟩
    ·exact (kq b (w.okS j b C) ap k p a a2 a3).2
    ·have kk:k ≠ k':=fun z=>by
      subst z
      rw [a1] at b1
      cases b1
      exact n rfl
     exact (cx B.apart (fun _ _=>Apart3.symm) kk a3 b3).1
  ·rcases old j z D with ⟨e1,ap⟩ | ⟨k,p,a1,a2,a3⟩
   ·exact w.st j z e1 t (Dv _ J)
   ·exact (kq t (w.okT t (Dv _ J)) (kt t J) k p z a2 a3).symm
  ·refine B.frame b o (w.base b o e n) fun p l hf I=>?_
   obtain ⟨_,a,L',e1,_,_,e3⟩:=(w.itm (E p l)).own (by rw [hf];intro q;cases q)
   rw [I] at e1
   cases e1
   rcases e3 hf with h | h
   ·rw [e] at h;cases h
   ·exact n h
  ·rcases old j u h with ⟨e1,_⟩ | ⟨k,p,a1,a2,a3⟩
   ·exact w.fx.frS j u e1 l hf a Q
   ·have b:=Paired.at B.back a2 a3
    have Y:g j=some p:=by
     obtain ⟨A,s,N⟩:=Paired.exL f5 a1
     rw [a2] at s;cases s
     exact N
    refine w.fx.frS j p Y l (fun X=>?_) a (by rw [<- b.v];exact Q)
    have:=b.z X
    rw [this] at hf
    exact hf X
  ·obtain ⟨o,F⟩:=w.fx.bin b S
   exact W b o F
  ·obtain ⟨o',F⟩:=w.fx.ob b o h
   exact W b o' F
  ·rcases old j u h with ⟨e1,_⟩ | ⟨k,p,a1,a2,a3⟩
   ·exact w.fx.lvS j u e1 U
   ·have b:=Paired.at B.back a2 a3
    have Y:g j=some p:=by
     obtain ⟨A,s,N⟩:=Paired.exL f5 a1
     rw [a2] at s;cases s
     exact N
    rw [b.v]
    refine w.fx.lvS j p Y ?_
    rcases b.f with h | h
    ·rw [<- h];exact U
    ·rw [h] at U;cases U
 refine ⟨g',wf,fun x rx ox sx ax=>?_⟩
 have kx:∀ z,ItOk K G H z->(∀ p ∈ ps,Apart3 p z)->Apart3 z x:=fun z P V=>by
  refine ⟨fun hf a ev hm=>?_,fun hf a ev hm=>?_⟩
  ·rcases sx a hm with h | ⟨A,y,R⟩
   ·obtain ⟨_,a',L',s,N,_⟩:=P.own hf
    rw [ev] at s;cases s
    obtain ⟨o,F⟩:=(P.rep.inH a (by rw [N];exact Dq)).ex
    rw [h] at F;exact nsE F
   ·exact (V A y).2 hf a ev R
  ·obtain ⟨_,a',L',s,_,_,q4⟩:=ox hf
   rw [ev] at s;cases s
   obtain ⟨o,F⟩:=(P.rep.inH a hm).ex
   rw [q4] at F;exact nsE F
 refine ⟨wf.len,wf.sl,wf.sv,wf.okS,fun z hz=>?_,wf.ss,fun j z D t J=>?_,?_,wf.base,wf.pro,⟨fun u hu hf a Q=>?_,wf.fx.frS,wf.fx.bin,wf.fx.ob,wf.fx.lvS⟩⟩
 ·rcases Dw.mp hz with h | hz
  ·rw [h]
   refine ⟨rx,fun hf=>?_,fun c R=>?_⟩
   ·obtain ⟨m,a,L',v1,v2,v3,v4⟩:=ox hf
    exact ⟨m,a,L',v1,v2,v3,fun _=>.inl (w.h0none v4)⟩
   ·rcases sx c R with h | ⟨A,y,h⟩
    ·exact .inl (w.h0none h)
    ·exact (w.itm (E A y)).src c h
  ·exact wf.okT z hz
 ·rcases Dw.mp J with h | J
  ·rw [h]
   rcases old j z D with ⟨e1,ap⟩ | ⟨k,p,a1,a2,a3⟩
   ·exact kx z (w.okS j z e1) ap
   ·exact (ax z (DD a3)).symm
  ·exact wf.st j z D t J
 ·exact List.pairwise_cons.mpr ⟨fun t J=>(kx t (w.okT t (Dv _ J)) (kt t J)).symm,wf.tt⟩
 ·rcases Dw.mp hu with h | hu
  ·subst h
   obtain ⟨_,a',L',s,_,_,q4⟩:=ox hf
   rw [Q] at s;cases s
   exact w.ornone q4
  ·exact wf.fx.frT u hu hf a Q
theorem qC {i a:Nat} (h:(ρ[i]?).join=none):((L3.lowAt a ρ)[i]?).join=none:=by
 unfold L3.lowAt
 split
 ·grind
 ·rename_i d hd
  rw [b9 (eJ hd)]
  by_cases b:i=a
  ·subst b;rw [h] at hd;exact nsE hd
  ·rw [if_neg b];exact h
 ·exact h
theorem o8 {i:Nat}:∀ {is:List Nat} {ρ:Sto},(ρ[i]?).join=none->((L3.frz is ρ)[i]?).join=none
 | [],ρ,h=>h
 | a :: is,ρ,h=>o8 (is:=is) (ρ:=L3.lowAt a ρ) (qC h)
end
end L3
end
section
namespace L3
open PySem L2
def dY (ρ:Sto):Nat->List (D × Fl)->Option (List (D × Fl))
 | _,[]=>some []
 | i,(d,.z) :: ps=>(dY ρ (i+1) ps).map fun r=>(d,.z) :: r
 | i,(d,f) :: ps=>match (ρ[i]?).join,dY ρ (i+1) ps with
  | some (d',f'),some r=>if f'=f\/f'=.z then some ((d',f') :: r) else none
  | _,_=>none
def eZ (n:Nat) (ps:List (D × Fl)):Sto:=ps.map some ++ List.replicate (n - ps.length) none
def fn0 (n:Nat) (b:SM):Fn:=fun ps=>match b (eZ n ps) with
 | some (.ok .nx,ρ')=>(dY ρ' 0 ps).map fun fs=>(.ok (.non,.z),fs)
 | some (.ok (.rt d f),ρ')=>(dY ρ' 0 ps).map fun fs=>(.ok (d,f),fs)
 | some (.error e,ρ')=>(dY ρ' 0 ps).map fun fs=>(.error e,fs)
 | _=>none
def k6 (b:Bool) (p:D × Fl):D × Fl:=if b then (p.1,.z) else p
noncomputable def fnM (mask:List Bool) (n:Nat) (b:SM):Fn:=fun ps=>if ps.length=mask.length then fn0 n b (List.zipWith k6 mask ps) else none
section
variable {K:FG} {G:Gm} {W:D->Sto->Prop} {H H':Hp} {σ:St} {ρ ρ':Sto} {T T':List It3} {g:Nat->Option It3} {x y z:It3} {α β:Type}
def gOf (H:Hp) (pr:Nat->Bool) (σ0:St) (ps:List It3):Gm:=⟨H,fun b=>∃ p ∈ ps,p.f=.u/\p.v=.ref b,pr,σ0,H,cN ps,fun i=>(ps[i]?).map (·.v)⟩
theorem uk {n:Nat} (a:ps.length<=n) (i:Nat):((eZ n ps)[i]?).join=ps[i]?:=by
 unfold eZ
 grind
theorem lC {n:Nat} {a:List V} {i:Nat} (h:a[i]?=some v):(a.map some ++ List.replicate n (none:Option V))[i]?=some (some v):=by grind
theorem uK {n:Nat} (y:ps.length<=n) (g:∀ p ∈ ps,Arg K H p) (t:ps.Pairwise Apart3) (k:∀ (i:Nat) (p:It3),ps[i]?=some p->p.f ≠ .z->pr i=true) :
  Wf K (gOf H pr ((ps.map (·.v)).map some ++ List.replicate (n - (ps.map (·.v)).length) none) ps) H ((ps.map (·.v)).map some ++ List.replicate (n - (ps.map (·.v)).length) none) (eZ n (ps.map fun p=>(p.d,p.f))) [] (fun i=>ps[i]?):=by
 refine ⟨?_,fun i=>?_,fun i x e=>?_,fun i x e=>?_,fun _ h=>(by cases h),fun i j a b n r u=>?_,fun _ _ _ _ h=>(by cases h),.nil,fun b o e _=>e,fun i _=>rfl,⟨fun _ h=>(by cases h),fun i x e hz hf=>?_,fun b h=>?_,fun b o e=>⟨o,e⟩,fun i x e _=>(by show (ps[i]?).map (·.v)=_;rw [e];rfl)⟩⟩
 ·unfold eZ;simp
 ·rw [uk (by simpa using y),DG]
 ·exact lC (by rw [DG,e];rfl)
 ·have hm:=DD e
  refine ⟨(g x hm).rep,fun hf=>?_,fun c s=>.inr ⟨x,hm,s⟩⟩
  obtain ⟨m,a,L',v1,v2,l⟩:=(g x hm).own hf
  exact ⟨m,a,L',v1,v2,l,fun hu=>.inr ⟨x,hm,hu,v1⟩⟩
 ·exact (cx t (fun _ _=>Apart3.symm) n r u).1
 ·have hz:pr i=false:=hz
  rw [k i x e hf] at hz;cases hz
 ·obtain ⟨p,hm,hf,w⟩:=h
  obtain ⟨_,a,L',v1,v2,_⟩:=(g p hm).own (by rw [hf];intro q;cases q)
  rw [w] at v1;cases v1
  exact ((g p hm).rep.inH b (by rw [v2];exact Dq)).ex
def FinsOk (ρ:Sto) (i:Nat) (ps fs:List (D × Fl)):Prop:=fs.length=ps.length/\∀ (k:Nat) (p:D × Fl),ps[k]?=some p->∃ q,fs[k]?=some q/\(p.2=.z->q=p)/\(p.2 ≠ .z->(ρ[i+k]?).join=some q/\(q.2=p.2\/q.2=.z))
theorem FinsOk.cons {i:Nat} {e d:D × Fl} {ps fs:List (D × Fl)} (h:FinsOk ρ (i+1) ps fs) (hz:e.2=.z->d=e) (g:e.2 ≠ .z->(ρ[i]?).join=some d/\(d.2=e.2\/d.2=.z)):FinsOk ρ i (e :: ps) (d :: fs):=by
 refine ⟨by rw [DS,DS,h.1],fun k p f=>?_⟩
 cases k with
 | zero=>cases f;exact ⟨d,rfl,hz,g⟩
 | succ k =>
  obtain ⟨q,a,b,c⟩:=h.2 k p f
  grind
theorem je:∀ {i:Nat} {ps:List (D × Fl)} {fs:List (D × Fl)},dY ρ i ps=some fs->FinsOk ρ i ps fs
 | i,[],fs,e=>by cases e;exact ⟨rfl,fun k p h=>by cases h⟩
 | i,p0 :: ps,fs,e=>by
  obtain ⟨d,f⟩:=p0
  have key:f ≠ .z->(match (ρ[i]?).join,dY ρ (i+1) ps with
    | some (d',a),some r=>if a=f\/a=.z then some ((d',a) :: r) else none
    | _,_=>none)=some fs->FinsOk ρ i ((d,f) :: ps) fs:=fun hf e=>by
   cases h:(ρ[i]?).join with
   | none=>rw [h] at e;exact nsE e
   | some p0 =>
    cases h2:dY ρ (i+1) ps with
    | none=>rw [h,h2] at e;exact nsE e
    | some r =>
     rw [h,h2] at e
     obtain ⟨d',a⟩:=p0
     dsimp only at e
     rcases Decidable.em (a=f\/a=.z) with b | b
     ·rw [if_pos b] at e
      cases e
      exact (je h2).cons (fun z=>absurd z hf) fun _=>⟨h,b⟩
     ·rw [if_neg b] at e;exact nsE e
  cases f with
  | z =>
   obtain ⟨r,h,h'⟩:=Dt.mp (show (dY ρ (i+1) ps).map (fun r=>(d,Fl.z) :: r)=some fs from e)
   subst h'
   exact (je h).cons (fun _=>rfl) fun n=>absurd rfl n
  | u=>exact key (by intro q;cases q) e
  | l=>exact key (by intro q;cases q) e
theorem jA {P:Nat->α->β->Prop}:∀ (l:List α) (i:Nat),(∀ (k:Nat) a,l[k]?=some a->∃ b,P (i+k) a b)->∃ m:List β,m.length=l.length/\∀ (k:Nat) a,l[k]?=some a->∃ b,m[k]?=some b/\P (i+k) a b
 | [],i,_=>⟨[],rfl,fun k a h=>by simp at h⟩
 | a :: l,i,h=>by
  obtain ⟨b,c⟩:=h 0 a rfl
  obtain ⟨m,h1,h2⟩:=jA l (i+1) fun k a e=>by
   have:=h (k+1) a (by simpa using e)
   rwa [show i+(k+1)=i+1+k by lia] at this
  refine ⟨b :: m,by simp [h1],fun k d e=>?_⟩
  cases k with
  | zero=>simp at e;subst e;exact ⟨b,rfl,c⟩
  | succ k =>
   obtain ⟨f,e1,g⟩:=h2 k d (by simpa using e)
   exact ⟨f,by simpa using e1,by rwa [show i+(k+1)=i+1+k by lia]⟩
theorem Paired.ofGet:∀ {l:List α} {m:List β},l.length=m.length->(∀ (k:Nat) a b,l[k]?=some a->m[k]?=some b->F a b)->Paired F l m
 | [],[],_,_=>.nil
 | [],_ :: _,h,_=>by cases h
 | _ :: _,[],h,_=>by cases h
 | a :: l,b :: m,h,f=>.cons (f 0 a b rfl rfl) (Paired.ofGet (by simpa using h) fun k a b e1 c=>f (k+1) a b (by simpa using e1) (by simpa using c))
theorem pM {n:Nat} {pr:Nat->Bool} {σ0:St} {ps:List It3} {fs:List (D × Fl)} (E:∀ p ∈ ps,Arg K H p) (I:ps.Pairwise Apart3) (O:∀ (i:Nat) (p:It3),ps[i]?=some p->p.f ≠ .z->pr i=true) (h0:∀ (i:Nat) (p:It3),ps[i]?=some p->σ0[i]?=some (some p.v))
  (w:Wf K (gOf H pr σ0 ps) H' σ ρ T g) (e:dY ρ 0 (ps.map fun p=>(p.d,p.f))=some fs) :
  ∃ qs,BehindX K H H' ps qs/\qs.map (fun q=>(q.d,q.f))=fs/\(∀ (k:Nat) (p q:It3),ps[k]?=some p->qs[k]?=some q->(p.f=.z/\q=p)\/(p.f ≠ .z/\g k=some q)):=by
 obtain ⟨hl,hs⟩:=je e
 rw [DB] at hl
 have frame:∀ b o,H b=some o->(∀ p ∈ ps,p.f=.u->p.v ≠ .ref b)->H' b=some o:=fun b o x S=>w.base b o x fun ⟨p,hm,hf,t⟩=>S p hm hf t
 have there:∀ b o,H b=some o->∃ o',H' b=some o':=fun b o x=>w.fx.ob b o x
 have F:∀ (k:Nat) (p:It3),ps[k]?=some p->p.f=.z->Rep K H' p.d p.v p.L:=fun k p l hz=>by
  refine (E p (DD l)).rep.keep (M:=fun b=>∃ p ∈ ps,p.f=.u/\p.v=.ref b) (fun b o x S=>frame b o x fun p I hf t=>S ⟨p,I,hf,t⟩) (fun b ⟨B,hm,hf,t⟩=>?_) fun b x ⟨B,hm,hf,t⟩=>?_
  ·obtain ⟨_,a,L',v1,v2,_⟩:=(E B hm).own (by rw [hf];intro q;cases q)
   rw [t] at v1;cases v1
   exact (E B hm).rep.inH b (by rw [v2];exact Dq)
  ·obtain ⟨j,Q,J⟩:=List.mem_iff_getElem.mp hm
   have A:ps[j]?=some B:=by rw [Dx Q,J]
   have jk:j ≠ k:=fun z=>by subst z;rw [l] at A;cases A;rw [hz] at hf;cases hf
   exact (cx I (fun _ _=>Apart3.symm) jk A l).1 (by rw [hf];intro q;cases q) b t x
 have one:∀ (k:Nat) (p:It3),ps[k]?=some p->∃ q,(q.d,q.f)=(fs[k]?).getD (p.d,p.f)/\fs[k]?=some (q.d,q.f)/\Back1 K H H' ps p q/\((p.f=.z/\q=p)\/(p.f ≠ .z/\g k=some q)):=fun k p l=>by
  have hm:=DD l
  obtain ⟨Z,f1,f2,f3⟩:=hs k (p.d,p.f) (by rw [DG,l];rfl)
  by_cases hz:p.f=.z
  ·have:=f2 hz
   subst this
   refine ⟨p,by rw [f1];rfl,f1,⟨fun _=>rfl,rfl,.inl rfl,⟨F k p l hz,fun h=>absurd hz h⟩,fun c V=>.inr ⟨p,hm,V⟩,fun h=>?_⟩,.inl ⟨hz,rfl⟩⟩
   rw [hz] at h;cases h
  ·obtain ⟨h1,h2⟩:=f3 hz
   rw [DP] at h1
   obtain ⟨y,W,y2,U,y4⟩:=w.slot (d:=Z.1) (f:=Z.2) h1
   have t:y.v=p.v:=by
    have:=w.pro k (O k p l hz)
    rw [y4] at this
    have h0:some (some y.v)=some (some p.v):=this.trans (h0 k p l)
    injection h0 with h0
    injection h0
   have ok:=w.okS k y W
   refine ⟨y,by rw [f1,y2,U];rfl,by rw [f1,y2,U],⟨fun h=>absurd h hz,t,by rw [U];exact h2,⟨ok.rep,fun hf=>?_⟩,fun c V=>ok.src c V,fun hf b x=>?_⟩,.inr ⟨hz,W⟩⟩
   ·obtain ⟨m,a,L',v1,v2,v3,_⟩:=ok.own hf
    exact ⟨m,a,L',v1,v2,v3⟩
   ·obtain ⟨_,a,L',v1,v2,_⟩:=(E p hm).own hz
    rw [x] at v1;cases v1
    obtain ⟨o,ho⟩:=((E p hm).rep.inH b (by rw [v2];exact Dq)).ex
    exact there b o ho
 obtain ⟨qs,hq,G⟩:=jA (P:=fun k p q=>fs[k]?=some (q.d,q.f)/\Back1 K H H' ps p q/\((p.f=.z/\q=p)\/(p.f ≠ .z/\g k=some q))) ps 0 fun k p l=>by
  obtain ⟨q,_,a,b,c⟩:=one k p l
  exact ⟨q,by simpa using ⟨a,b,c⟩⟩
 have get:∀ (k:Nat) (p q:It3),ps[k]?=some p->qs[k]?=some q->fs[k]?=some (q.d,q.f)/\Back1 K H H' ps p q/\((p.f=.z/\q=p)\/(p.f ≠ .z/\g k=some q)):=fun k p q s eq=>by
  obtain ⟨q',e1,e2⟩:=G k p s
  rw [eq] at e1
  cases e1
  simpa using e2
 have par:∀ (k:Nat) (q:It3),qs[k]?=some q->∃ p,ps[k]?=some p:=fun k q e=>by
  have X:=(DC.mp e).1
  exact ⟨ps[k]'(by lia),by simp [show k < ps.length by lia]⟩
 refine ⟨qs,⟨frame,Paired.ofGet hq.symm fun k p q s eq=>(get k p q s eq).2.1,?_⟩,?_,fun k p q s eq=>(get k p q s eq).2.2⟩
 ·rw [List.pairwise_iff_getElem]
  intro k j X Q lt
  have l:qs[k]?=some qs[k]:=Dx X
  have J:qs[j]?=some qs[j]:=Dx Q
  have side:∀ (k j:Nat) (q r:It3),k ≠ j->qs[k]?=some q->qs[j]?=some r->NoRoot q r:=fun k j q r n eq Y=>by
   obtain ⟨p,s⟩:=par k q eq
   obtain ⟨B,C⟩:=par j r Y
   obtain ⟨_,b,c⟩:=get k p q s eq
   obtain ⟨_,b',c'⟩:=get j B r C Y
   rcases c with ⟨hz,e⟩ | ⟨hz,e⟩
   ·rw [e];exact fun h=>absurd hz h
   ·rcases c' with ⟨N,R⟩ | ⟨N,R⟩
    ·rw [R]
     intro hf a ea
     exact (cx I (fun _ _=>Apart3.symm) n s C).1 hz a (by rw [<- b.v];exact ea)
    ·exact w.ss k j q r n e R
  exact ⟨side k j _ _ (DJ lt) l J,side j k _ _ (Nat.ne_of_gt lt) J l⟩
 ·refine List.ext_getElem? fun k=>?_
  rw [DG]
  cases eq:qs[k]? with
  | none =>
   have:qs.length<=k:=List.getElem?_eq_none_iff.mp eq
   rw [List.getElem?_eq_none (by lia)]
   rfl
  | some q =>
   obtain ⟨p,s⟩:=par k q eq
   rw [(get k p q s eq).1]
   rfl
theorem q5 {n:Nat} {pr:Nat->Bool} {σ0:St} {ps:List It3} {fs:List (D × Fl)} (s:∀ p ∈ ps,Arg K H p) (E:ps.Pairwise Apart3) (j:∀ (i:Nat) (p:It3),ps[i]?=some p->p.f ≠ .z->pr i=true) (h0:∀ (i:Nat) (p:It3),ps[i]?=some p->σ0[i]?=some (some p.v))
  (w:Wf K (gOf H pr σ0 ps) H' σ ρ (x :: T) g) (e:dY ρ 0 (ps.map fun p=>(p.d,p.f))=some fs):∃ qs,Behind K H H' ps qs x/\qs.map (fun q=>(q.d,q.f))=fs:=by
 obtain ⟨qs,B,f,C⟩:=pM (n:=n) s E j h0 w e
 have ok:=w.okT x Dq
 refine ⟨qs,⟨B,ok.rep,fun hf=>?_,fun c y=>ok.src c y,fun q u=>?_⟩,f⟩
 ·obtain ⟨m,a,L',v1,v2,G,_⟩:=ok.own hf
  exact ⟨m,a,L',v1,v2,G,w.fx.frT x Dq hf a v1⟩
 ·obtain ⟨k,F,A⟩:=List.mem_iff_getElem.mp u
  have eq:qs[k]?=some q:=by rw [Dx F,A]
  obtain ⟨p,l,b⟩:=Paired.exR B.back eq
  rcases C k p q l eq with ⟨hz,e⟩ | ⟨hz,e⟩
  ·rw [e]
   refine ⟨fun hf a t hm=>?_,fun h=>absurd hz h⟩
   have h1:=w.fx.frT x Dq hf a t
   obtain ⟨o,r⟩:=((s p (DD l)).rep.inH a hm).ex
   have h2:H a=none:=h1
   rw [h2] at r;exact nsE r
  ·exact (w.st k q e x Dq).symm
end
end L3
end
section
namespace L3
open PySem L2
def bz:Fl->Fl
 | .u=>.l
 | f=>f
def aZ (x:It3):It3:={ x with f:=bz x.f }
def dh:Fl->Fl
 | .l=>.u
 | f=>f
def uM (x:It3):It3:={ x with f:=dh x.f }
def iB (h:Fl->Fl) (i:Nat) (ρ:Sto):Sto:=match (ρ[i]?).join with
 | some (d,f)=>ρ.set i (some (d,h f))
 | none=>ρ
def au (h:Fl->Fl) (is:List Nat) (ρ:Sto):Sto:=is.foldl (fun ρ i=>iB h i ρ) ρ
def us (ρ:Sto) (is:List Nat):List Nat:=is.filter fun i=>match (ρ[i]?).join with
 | some (_,.u)=>true
 | _=>false
theorem lentF_z:bz f=.z ↔ f=.z:=by cases f <;> simp [bz]
theorem unlF_z:dh f=.z ↔ f=.z:=by cases f <;> simp [dh]
theorem r0 (f:Fl):bz f ≠ .u:=by cases f <;> simp [bz]
theorem A3 (f:Fl):dh f ≠ .l:=by cases f <;> simp [dh]
section
variable {K:FG} {G G0:Gm} {W W0:D->Sto->Prop} {H H':Hp} {σ:St} {ρ ρ':Sto} {T T':List It3} {g:Nat->Option It3} {x y z:It3} {α β:Type}
theorem qx {i j:Nat}:((iB h i ρ)[j]?).join=if j=i then ((ρ[j]?).join).map (fun p=>(p.1,h p.2)) else (ρ[j]?).join:=by
 unfold iB
 grind
theorem tZ {i:Nat}:(iB h i ρ).length = ρ.length:=by
 unfold iB
 split
 ·rw [List.length_set]
 ·rfl
theorem fE (a:∀ f,h (h f)=h f):∀ {is:List Nat} {ρ:Sto} {j:Nat},((au h is ρ)[j]?).join=if j ∈ is then ((ρ[j]?).join).map (fun p=>(p.1,h p.2)) else (ρ[j]?).join
 | [],ρ,j=>by simp [au]
 | i :: is,ρ,j=>by
  have e:au h (i :: is) ρ=au h is (iB h i ρ):=rfl
  rw [e,fE a,qx]
  by_cases q:j=i
  ·subst q
   by_cases m:j ∈ is
   ·rw [if_pos m,if_pos rfl,if_pos Dq]
    cases (ρ[j]?).join with
    | none=>rfl
    | some p=>simp [a]
   ·rw [if_neg m,if_pos rfl,if_pos Dq]
  ·by_cases m:j ∈ is
   ·rw [if_pos m,if_neg q,if_pos (Dr _ m)]
   ·rw [if_neg m,if_neg q,if_neg (fun z=>(Dw.mp z).elim q m)]
theorem hE:∀ {is:List Nat} {ρ:Sto},(au h is ρ).length = ρ.length
 | [],ρ=>rfl
 | i :: is,ρ=>by
  have e:au h (i :: is) ρ=au h is (iB h i ρ):=rfl
  rw [e,hE,tZ]
def cL (G:Gm) (H:Hp) (g:Nat->Option It3) (is:List Nat):Gm :=
 ⟨H,fun b=>∃ j y,j ∉ is/\g j=some y/\y.f=.u/\y.v=.ref b,G.pr,G.σ0,G.orig,fun c=>G.H0 c=none\/G.src c,fun j=>if j ∈ is then (g j).map (·.v) else G.lv j⟩
structure Fk (x y:It3):Prop where
 d:y.d=x.d
 v:y.v=x.v
 L:y.L=x.L
 z:y.f=.z ↔ x.f=.z
theorem Fk.noRoot (a:Fk x x') (b:Fk y y') (h:NoRoot x y):NoRoot x' y':=fun hf c e=>by
 rw [b.L]
 exact h (fun q=>hf (a.z.mpr q)) c (by rw [<- a.v];exact e)
theorem Fk.apart (a:Fk x x') (b:Fk y y') (h:Apart3 x y):Apart3 x' y':=⟨a.noRoot b h.1,b.noRoot a h.2⟩
theorem Fk.refl (x:It3):Fk x x:=⟨rfl,rfl,rfl,Iff.rfl⟩
theorem jX (x:It3):Fk x (aZ x):=⟨rfl,rfl,rfl,lentF_z⟩
theorem C1 (x:It3):Fk x (uM x):=⟨rfl,rfl,rfl,unlF_z⟩
theorem oN {o:Option It3} {h:Fl->Fl} (e:o.map (fun x=>(x.d,x.f))=p):(o.map fun x=>{ x with f:=h x.f }).map (fun x:It3=>(x.d,x.f))=p.map fun p=>(p.1,h p.2):=by
 subst e
 cases o <;> rfl
theorem Wf.enter (w:Wf K G H σ ρ T g) (is:List Nat):Wf K (cL G H g is) H σ (au bz is ρ) (T.map aZ) (fun j=>if j ∈ is then (g j).map aZ else g j):=by
 have val:∀ j u,(if j ∈ is then (g j).map aZ else g j)=some u->∃ l,g j=some l/\Fk l u/\((j ∈ is/\u=aZ l)\/(j ∉ is/\u=l)):=fun j u h=>by
  by_cases q:j ∈ is
  ·rw [if_pos q] at h
   obtain ⟨l,e1,x⟩:=Dt.mp h
   subst x
   exact ⟨l,e1,jX l,.inl ⟨q,rfl⟩⟩
  ·rw [if_neg q] at h
   exact ⟨u,h,Fk.refl u,.inr ⟨q,rfl⟩⟩
 refine ⟨by rw [hE];exact w.len,fun j=>?_,fun j u h=>?_,fun j u h=>?_,fun u hu=>?_,fun i j a b n I p=>?_,fun j a h b p=>?_,?_,fun b o e _=>e,w.pro,⟨fun u hu hf a s=>?_,fun j u h E hf a s=>?_,fun b p=>?_,w.fx.ob,fun j u h C=>?_⟩⟩
 ·rw [fE (by intro f;cases f <;> rfl)]
  by_cases q:j ∈ is
  ·rw [if_pos q,if_pos q];exact oN (w.sl j)
  ·rw [if_neg q,if_neg q];exact w.sl j
 ·obtain ⟨l,e,k,_⟩:=val j u h
  rw [k.v];exact w.sv j l e
 ·obtain ⟨l,e,k,c⟩:=val j u h
  have ok:=w.okS j l e
  refine ⟨by rw [k.d,k.v,k.L];exact ok.rep,fun hf=>?_,fun c t=>.inr (ok.src c (by rw [<- k.L];exact t))⟩
  obtain ⟨m,a,L',v1,v2,A,_⟩:=ok.own (fun q=>hf (k.z.mpr q))
  refine ⟨by rw [k.d];exact m,a,L',by rw [k.v];exact v1,by rw [k.L];exact v2,A,fun hu=>?_⟩
  rcases c with ⟨_,rfl⟩ | ⟨D,rfl⟩
  ·exact absurd hu (r0 _)
  ·exact .inr ⟨j,u,D,e,hu,v1⟩
 ·obtain ⟨l,h0,rfl⟩:=DF.mp hu
  have ok:=w.okT l h0
  refine ⟨ok.rep,fun hf=>?_,fun c t=>.inr (ok.src c t)⟩
  obtain ⟨m,a,L',v1,v2,A,_⟩:=ok.own (fun q=>hf (lentF_z.mpr q))
  exact ⟨m,a,L',v1,v2,A,fun hu=>absurd hu (r0 _)⟩
 ·obtain ⟨a0,e1,B,_⟩:=val i a I
  obtain ⟨r,x,k2,_⟩:=val j b p
  exact B.noRoot k2 (w.ss i j a0 r n e1 x)
 ·obtain ⟨a0,e1,B,_⟩:=val j a h
  obtain ⟨r,h0,rfl⟩:=DF.mp p
  exact B.apart (jX r) (w.st j a0 e1 r h0)
 ·rw [List.pairwise_map]
  exact w.tt.imp fun {a b} h=>(jX a).apart (jX b) h
 ·obtain ⟨l,h0,rfl⟩:=DF.mp hu
  exact w.fx.frT l h0 (fun q=>hf (lentF_z.mpr q)) a s
 ·obtain ⟨l,e,k,_⟩:=val j u h
  exact w.fx.frS j l e E (fun q=>hf (k.z.mpr q)) a (by rw [<- k.v];exact s)
 ·obtain ⟨j,y,_,e,hf,F⟩:=p
  obtain ⟨_,a,L',v1,v2,_⟩:=(w.okS j y e).own (by rw [hf];intro q;cases q)
  rw [F] at v1;cases v1
  exact ((w.okS j y e).rep.inH b (by rw [v2];exact Dq)).ex
 ·obtain ⟨l,e,k,c⟩:=val j u h
  show (if j ∈ is then (g j).map (·.v) else G.lv j)=_
  rcases c with ⟨q,rfl⟩ | ⟨q,rfl⟩
  ·rw [if_pos q,e];rfl
  ·rw [if_neg q];exact w.fx.lvS j u e C
theorem Wf.leave (w:Wf K G H σ ρ T g) (E:∀ i ∈ is,∀ y,g i=some y->y.f=.u) (O:T'.Sublist T) (p:Wf K (cL G H g is) H' σ' ρ2 (R ++ T'.map aZ) g2) :
  Wf K G H' σ' (au dh is ρ2) (R ++ T') (fun j=>if j ∈ is then (g2 j).map uM else g2 j):=by
 have val:∀ j u,(if j ∈ is then (g2 j).map uM else g2 j)=some u->∃ r,g2 j=some r/\Fk r u/\((j ∈ is/\u=uM r)\/(j ∉ is/\u=r)):=fun j u h=>by
  by_cases q:j ∈ is
  ·rw [if_pos q] at h
   obtain ⟨r,e1,F⟩:=Dt.mp h
   subst F
   exact ⟨r,e1,C1 r,.inl ⟨q,rfl⟩⟩
  ·rw [if_neg q] at h
   exact ⟨u,h,Fk.refl u,.inr ⟨q,rfl⟩⟩
 have may:∀ a,H a=none\/(∃ j y,j ∉ is/\g j=some y/\y.f=.u/\y.v=.ref a)->G.H0 a=none\/G.bw a:=fun a h=>by
  rcases h with h | ⟨j,y,_,e,hf,W⟩
  ·exact .inl (w.h0none h)
  ·obtain ⟨_,Z,L',v1,_,_,v4⟩:=(w.okS j y e).own (by rw [hf];intro q;cases q)
   rw [W] at v1;cases v1
   exact v4 hf
 have t:∀ c,H c=none\/(G.H0 c=none\/G.src c)->G.H0 c=none\/G.src c:=fun c h=>by
  rcases h with h | h
  ·exact .inl (w.h0none h)
  ·exact h
 have Q:∀ x ∈ T',x ∈ T:=fun x hx=>O.subset hx
 have M:∀ b o,H b=some o->∃ o',H' b=some o':=fun b o s=>by
  by_cases q:∃ j y,j ∉ is/\g j=some y/\y.f=.u/\y.v=.ref b
  ·exact p.fx.bin b q
  ·exact ⟨o,p.base b o s q⟩
 refine ⟨by rw [hE];exact p.len,fun j=>?_,fun j u h=>?_,fun j u h=>?_,fun u hu=>?_,fun i j a b n I s=>?_,fun j a h b s=>?_,?_,fun b o e n=>?_,p.pro,⟨fun u hu=>?_,fun j u h V hf a U=>?_,fun b s=>?_,p.fx.ob,fun j u h A=>?_⟩⟩
 ·rw [fE (by intro f;cases f <;> rfl)]
  by_cases q:j ∈ is
  ·rw [if_pos q,if_pos q];exact oN (p.sl j)
  ·rw [if_neg q,if_neg q];exact p.sl j
 ·obtain ⟨r,e,k,_⟩:=val j u h
  rw [k.v];exact p.sv j r e
 ·obtain ⟨r,e,k,c⟩:=val j u h
  have ok:=p.okS j r e
  refine ⟨by rw [k.d,k.v,k.L];exact ok.rep,fun hf=>?_,fun c D=>t c (ok.src c (by rw [<- k.L];exact D))⟩
  obtain ⟨m,a,L',v1,v2,J,v4⟩:=ok.own (fun q=>hf (k.z.mpr q))
  refine ⟨by rw [k.d];exact m,a,L',by rw [k.v];exact v1,by rw [k.L];exact v2,J,fun hu=>?_⟩
  rcases c with ⟨q,rfl⟩ | ⟨nj,rfl⟩
  ·cases B:r.f with
   | u=>exact may a (v4 B)
   | l =>
    have A:=p.fx.lvS j r e B
    have A:(if j ∈ is then (g j).map (·.v) else G.lv j)=some r.v:=A
    rw [if_pos q] at A
    obtain ⟨y,P,ev⟩:=Dt.mp A
    have N:=E j q y P
    obtain ⟨_,Z,Y,b1,_,_,b4⟩:=(w.okS j y P).own (by rw [N];intro q;cases q)
    rw [ev,v1] at b1;cases b1
    exact b4 N
   | z=>exact absurd (unlF_z.mpr B) hf
  ·exact may a (v4 hu)
 ·rcases Dz.mp hu with hu | hu
  ·have ok:=p.okT u (Du _ hu)
   refine ⟨ok.rep,fun hf=>?_,fun c D=>t c (ok.src c D)⟩
   obtain ⟨m,a,L',v1,v2,J,v4⟩:=ok.own hf
   exact ⟨m,a,L',v1,v2,J,fun h=>may a (v4 h)⟩
  ·have ok:=w.okT u (Q u hu)
   exact ⟨(p.okT (aZ u) (Dv _ (DF.mpr ⟨u,hu,rfl⟩))).rep,ok.own,ok.src⟩
 ·obtain ⟨a0,e1,C,_⟩:=val i a I
  obtain ⟨X,F,k2,_⟩:=val j b s
  exact C.noRoot k2 (p.ss i j a0 X n e1 F)
 ·obtain ⟨a0,e1,C,_⟩:=val j a h
  rcases Dz.mp s with s | s
  ·exact C.apart (Fk.refl b) (p.st j a0 e1 b (Du _ s))
  ·have:=p.st j a0 e1 (aZ b) (Dv _ (DF.mpr ⟨b,s,rfl⟩))
   exact C.apart (y:=aZ b) ⟨rfl,rfl,rfl,lentF_z.symm⟩ this
 ·have h:=List.pairwise_append.mp p.tt
  refine List.pairwise_append.mpr ⟨h.1,w.tt.sublist O,fun a I b s=>?_⟩
  exact (Fk.refl a).apart (y:=aZ b) ⟨rfl,rfl,rfl,lentF_z.symm⟩ (h.2.2 a I (aZ b) (DF.mpr ⟨b,s,rfl⟩))
 ·have s:=w.base b o e n
  refine p.base b o s fun q=>?_
  rcases may b (.inr q) with h | h
  ·rw [e] at h;cases h
  ·exact n h
 ·rcases Dz.mp hu with hu | hu
  ·exact p.fx.frT u (Du _ hu)
  ·exact w.fx.frT u (Q u hu)
 ·obtain ⟨r,e,k,_⟩:=val j u h
  exact p.fx.frS j r e V (fun q=>hf (k.z.mpr q)) a (by rw [<- k.v];exact U)
 ·obtain ⟨o,S⟩:=w.fx.bin b s
  exact M b o S
 ·obtain ⟨r,e,k,c⟩:=val j u h
  rcases c with ⟨q,rfl⟩ | ⟨q,rfl⟩
  ·exact absurd A (A3 _)
  ·have:=p.fx.lvS j u e A
   have this:(if j ∈ is then (g j).map (·.v) else G.lv j)=some u.v:=this
   rw [if_neg q] at this
   exact this
theorem sd (w:Wf K G H σ ρ T g) (a:∀ i ∈ is,∀ y,g i=some y->y.f=.u):∀ (H':Hp) (σ':St) (ρ2:Sto) (b:List It3) (g2:Nat->Option It3),Wf K (cL G H g is) H' σ' ρ2 b g2->∃ g3,Wf K G H' σ' (au dh is ρ2) [] g3 :=
 fun H' σ' ρ2 b g2 c=>⟨_,by simpa using Wf.leave (T':=[]) (R:=[]) w a (List.nil_sublist T) (by simpa using c.sub (List.nil_sublist b))⟩
end
end L3
end
section
namespace L3
open PySem L2
section
variable {K:FG} {G G0:Gm} {W W0:D->Sto->Prop} {H H':Hp} {σ:St} {ρ ρ':Sto} {T T':List It3} {g:Nat->Option It3} {x y z:It3} {α β:Type}
def Walk (K:FG) (J:It) (H1:Hp) (ys:List It3) (ds:List D):Prop:=∃ els:List It3,(∀ x ∈ els,x.f=.z/\Rep K H1 x.d x.v x.L/\∀ c ∈ x.L,cJ ys c) /\
 ∀ (M:Addr->Prop) (H':Hp),(∀ b,M b->MutAt H1 b)->(∀ b o,H1 b=some o->¬ M b->H' b=some o)->(∀ y ∈ ys,∀ b ∈ y.L,¬ M b) ->
  (∀ (i:Nat) (d:D),ds[i]?=some d->J.go i H'/\∀ x a,J.yld i H' x a->∃ w,New K H' a (cN els) w/\w.d=d/\w.f=.z/\w.v=x)/\J.stop ds.length H'
abbrev IM:=M3 (List R3 × List D)
def EndI (K:FG) (G:Gm) (W:D->Sto->Prop) (σ:St) (T:List It3) (ρ':Sto) (R:It->Hp->Prop):Except D (List R3 × List D)->Prop
 | .ok p=>∀ J H1 a Ts g1 ys,Wf K G H1 σ ρ' (Ts ++ T) g1->Ars σ p.1 a Ts->(∀ y ∈ ys,(∃ i,i ∈ pls p.1/\g1 i=some y)\/y ∈ Ts)->Walk K J H1 ys p.2->R J H1
 | .error e=>W e ρ'
def tI (K:FG) (G0:Gm) (W0:D->Sto->Prop) (m:IM):TI:=fun σ H R=>∃ G W,Le K G W G0 W0/\∃ ρ T g r ρ',Wf K G H σ ρ T g/\m ρ=some (r,ρ')/\EndI K G W σ T ρ' R r
theorem tI.seq (le:Le K G W G0 W0) (w:Wf K G H σ ρ T g) (e:ae m k ρ=some (r,ρ')) (he:∀ x,r=.error x->W x ρ') (h:∀ p ρ1,k p ρ1=some (r,ρ')->EndI K G W σ T ρ1 P (.ok p)):tI K G0 W0 m σ H P:=by
 unfold ae at e
 cases q:m ρ with
 | none=>rw [q] at e;exact nsE e
 | some p =>
  obtain ⟨o,ρ1⟩:=p
  rw [q] at e
  cases o with
  | error x=>cases e;exact ⟨G,W,le,ρ,T,g,.error x,ρ',w,q,he x rfl⟩
  | ok ra=>exact ⟨G,W,le,ρ,T,g,.ok ra,ρ1,w,q,h ra ρ1 e⟩
def Bnd (K:FG) (pr:Nat->Bool) (tg:TG) (bnd:D->Sto->Option Sto):Prop:=∀ (G:Gm) (H:Hp) (σ:St) (ρ ρ1:Sto) (T:List It3) (g:Nat->Option It3) (w:It3) (Q:St->Hp->Prop),G.pr=pr->w.f=.z->Wf K G H σ ρ (w :: T) g->bnd w.d ρ=some ρ1 ->
 (∀ σ2 g2,Wf K G H σ2 ρ1 T g2->Q σ2 H)->tg w.v σ H Q
def aj (i:Nat) (d:D) (ρ:Sto):Option Sto:=if i < ρ.length then some (ρ.set i (some (d,.z))) else none
theorem iM {i:Nat} (b:pr i=false):Bnd K pr (gp i) (aj i):=fun G H σ ρ ρ1 T g w Q a hz wf e q=>by
 unfold aj at e
 split at e
 ·rename_i hi
  cases e
  exact q _ _ (wf.store (f:=.z) hi (by rw [a];exact b) (.inr rfl) (by intro h;cases h))
 ·exact nsE e
def yi (K:FG) (pr:Nat->Bool) (tg:TGs) (bnd:List D->Sto->Option Sto):Prop:=∀ (G:Gm) (H:Hp) (σ:St) (ρ ρ1:Sto) (T:List It3) (g:Nat->Option It3) (ws:List It3) (Q:St->Hp->Prop),G.pr=pr->(∀ w ∈ ws,w.f=.z)->Wf K G H σ ρ (ws ++ T) g->bnd (ws.map (·.d)) ρ=some ρ1 ->
 (∀ σ2 g2,Wf K G H σ2 ρ1 T g2->Q σ2 H)->tg (ws.map (·.v)) σ H Q
def iO:List D->Sto->Option Sto
 | [],ρ=>some ρ
 | _,_=>none
def bK (b:D->Sto->Option Sto) (bs:List D->Sto->Option Sto):List D->Sto->Option Sto
 | [],_=>none
 | d :: ds,ρ=>match b d ρ with
  | some ρ1=>bs ds ρ1
  | none=>none
theorem pK:yi K pr xq iO:=fun G H σ ρ ρ1 T g ws Q _ _ wf e q=>by
 cases ws with
 | nil=>cases e;exact ⟨rfl,q _ _ wf⟩
 | cons w ws=>exact nsE e
theorem jl (h1:Bnd K pr tg b) (h2:yi K pr tgs bs):yi K pr (jF tg tgs) (bK b bs):=fun G H σ ρ ρ1 T g ws Q a hz wf e q=>by
 cases ws with
 | nil=>exact nsE e
 | cons w ws =>
  have e:(match b w.d ρ with | some ρ1=>bs (ws.map (·.d)) ρ1 | none=>none)=some ρ1:=e
  cases c:b w.d ρ with
  | none=>rw [c] at e;exact nsE e
  | some ρ2 =>
   rw [c] at e
   exact ⟨w.v,ws.map (·.v),rfl,h1 G H σ ρ ρ2 (ws ++ T) g w _ a (hz w Dq) wf c fun σ2 g2 h=>h2 G H σ2 ρ2 ρ1 T g2 ws Q a (fun x f=>hz x (Dr _ f)) h e q⟩
def iN (n:Nat) (bs:List D->Sto->Option Sto):D->Sto->Option Sto
 | .tup ds,ρ=>if ds.length=n then bs ds ρ else none
 | _,_=>none
theorem Reps.split:∀ {ds:List D} {b:List V} {L:List Addr},Reps (Rep K H) ds b L->∃ ws:List It3,ws.map (·.d)=ds/\ws.map (·.v)=b/\(∀ w ∈ ws,w.f=.z/\Rep K H w.d w.v w.L/\∀ c ∈ w.L,c ∈ L)
 | _,_,_,.nil=>⟨[],rfl,rfl,fun _ h=>(by cases h)⟩
 | _,_,_,.cons (d:=d) (v:=v) (L:=L) r rs=>by
  obtain ⟨ws,h1,h2,h3⟩:=Reps.split rs
  refine ⟨⟨d,v,L,.z⟩ :: ws,by simp [h1],by simp [h2],fun w hw=>?_⟩
  rcases Dw.mp hw with h | h
  ·subst h;exact ⟨rfl,r,fun c a=>Du _ a⟩
  ·exact ⟨(h3 w h).1,(h3 w h).2.1,fun c a=>Dv _ ((h3 w h).2.2 c a)⟩
theorem Wf.pushAll:∀ {ws:List It3} {T:List It3},Wf K G H σ ρ T g->(∀ w ∈ ws,w.f=.z/\Rep K H w.d w.v w.L/\∀ c ∈ w.L,cT T g c/\(G.H0 c=none\/G.src c))->Wf K G H σ ρ (ws ++ T) g
 | [],T,w,_=>w
 | x :: ws,T,w,h=>by
  have e:=Wf.pushAll (ws:=ws) w fun y b=>h y (Dr _ b)
  obtain ⟨hz,i,a⟩:=h x Dq
  refine e.push (Ks:=fun c=>c ∈ x.L) ⟨Same.refl _,i,fun c h=>.inr h,fun q=>absurd hz q⟩ fun c m=>⟨⟨(a c m).1.1,fun y b hf=>?_⟩,(a c m).2⟩
  rcases Dz.mp b with q | q
  ·exact absurd (h y (Dr _ q)).1 hf
  ·exact (a c m).1.2 y q hf
theorem sI {n:Nat} (h2:yi K pr tgs bs):Bnd K pr (xp K n tgs) (iN n bs):=fun G H σ ρ ρ1 T g w Q j hz wf e q=>by
 have r:=(wf.okT w Dq).rep
 obtain ⟨d,v,L,f⟩:=w
 cases r with
 | @tup xs a vs _ hs rs =>
  have e:(if xs.length=n then bs xs ρ else none)=some ρ1:=e
  split at e
  ·rename_i m
   obtain ⟨ws,h1,h3,h⟩:=Reps.split rs
   refine ⟨a,vs,rfl,SqT.of hs,?_,?_⟩
   ·rw [<- h3,DB,<- m,<- h1,DB]
   ·have l:Wf K G H σ ρ (ws ++ (⟨.tup xs,.ref a,L,f⟩ :: T)) g:=wf.pushAll fun u hu=>⟨(h u hu).1,(h u hu).2.1,fun c k=>⟨wf.kid (y:=⟨.tup xs,.ref a,L,f⟩) (.inr Dq) ((h u hu).2.2 c k) fun hf=>absurd hz hf,(wf.okT _ Dq).src c ((h u hu).2.2 c k)⟩⟩
    have o:Wf K G H σ ρ (ws ++ T) g:=l.sub ((List.Sublist.refl ws).append (List.sublist_cons_self _ _))
    rw [<- h3]
    exact h2 G H σ ρ ρ1 T g ws Q j (fun u hu=>(h u hu).1) o (by rw [h1];exact e) q
  ·exact nsE e
 | non=>exact nsE e
 | bl b=>exact nsE e
 | int i=>exact nsE e
 | str s=>exact nsE e
 | lst _ _=>exact nsE e
 | lstF _ _=>exact nsE e
 | dK _ _ _=>exact nsE e
 | dT _ _ _=>exact nsE e
 | exc _ _=>exact nsE e
 | excV _ _ _ _ _ _ _ _=>exact nsE e
noncomputable def cC (bnd:D->Sto->Option Sto) (b:SM):List D->SM
 | []=>aJ .nx
 | d :: ds=>fun ρ=>match bnd d ρ with
  | none=>none
  | some ρ1=>ae b (fun f=>match f with
   | .nx=>cC bnd b ds
   | .ct=>cC bnd b ds
   | .br=>aJ .nx
   | .rt d f=>aJ (.rt d f)) ρ1
noncomputable def bP (im:IM) (bnd:D->Sto->Option Sto) (b:SM):SM:=ae im fun p=>fun ρ=>(cC bnd b p.2 (au bz (us ρ (pls p.1)) ρ)).map fun r=>(r.1,au dh (us ρ (pls p.1)) r.2)
theorem A2 (w:Wf K G H σ ρ T g):∀ i ∈ us ρ is,∀ y,g i=some y->y.f=.u:=fun i hi y a=>by
 have h:=(DZ.mp hi).2
 have s:=w.sl i
 rw [a] at s
 have s:some (y.d,y.f)=(ρ[i]?).join:=s
 rw [<- s] at h
 cases hf:y.f with
 | u=>rfl
 | l=>rw [hf] at h;cases h
 | z=>rw [hf] at h;cases h
theorem pQ {i:Nat} (w:Wf K G H σ ρ T g) (hi:i ∈ is) (a:g i=some y) (hf:y.f=.u):i ∈ us ρ is:=by
 refine DZ.mpr ⟨hi,?_⟩
 have s:=w.sl i
 rw [a] at s
 have s:some (y.d,y.f)=(ρ[i]?).join:=s
 rw [<- s,hf]
theorem Be (U:Bnd K G0.pr tg bnd) (h:tS K G0 W0 (bP im bnd b) E σ H):Bj (tI K G0 W0 im) tg (tS K G0 W0 b) E σ H:=by
 refine h.use fun G W le ρ T g r ρ' w e q=>?_
 refine tI.seq le w e q.err fun p ρ1 e1=>?_
 intro J H1 vs Ts g1 ys t a1 X hw
 have Q:=A2 (is:=pls p.1) t
 have ax:∀ i y,i ∈ pls p.1->g1 i=some y->y.f=.u->i ∈ us ρ1 (pls p.1):=fun i y hi ey hf=>pQ t hi ey hf
 generalize us ρ1 (pls p.1)=is at e1 Q ax
 have w2:=t.enter is
 obtain ⟨els,n,walk⟩:=hw
 have hM:∀ b,(∃ j y,j ∉ is/\g1 j=some y/\y.f=.u/\y.v=.ref b)->MutAt H1 b:=fun b ⟨j,y,_,ey,hf,C⟩=>by
  obtain ⟨_,a,L',v1,v2,_⟩:=(t.okS j y ey).own (by rw [hf];intro q;cases q)
  rw [C] at v1;cases v1
  exact (t.okS j y ey).rep.inH b (by rw [v2];exact Dq)
 have ar:∀ y ∈ ys,∀ b ∈ y.L,¬ ∃ j y,j ∉ is/\g1 j=some y/\y.f=.u/\y.v=.ref b:=fun y A b U ⟨j,y',nj,B,hf,C⟩=>by
  have az:y'.f ≠ .z:=by rw [hf];intro q;cases q
  rcases X y A with ⟨i,hi,Y⟩ | A
  ·by_cases ij:i=j
   ·subst ij
    rw [Y] at B;cases B
    exact nj (ax i y hi Y hf)
   ·exact t.ss j i y' y (Ne.symm ij) B Y az b C U
  ·exact (t.st j y' B y (Du _ A)).1 az b C U
 have ab:∀ y ∈ ys,Itm (Ts ++ T) g1 y:=fun y A=>by
  rcases X y A with ⟨i,_,Y⟩ | h
  ·exact .inl ⟨i,Y⟩
  ·exact .inr (Du _ h)
 have kid:∀ x ∈ els,∀ c ∈ x.L,cT ((Ts ++ T).map aZ) (fun j=>if j ∈ is then (g1 j).map aZ else g1 j) c/\(H1 c=none\/(G.H0 c=none\/G.src c)):=fun x hx c hc=>by
  obtain ⟨nr,sr⟩:=t.kids ab ((n x hx).2.2 c hc)
  refine ⟨⟨fun i z V hf C=>?_,fun z hz hf C=>?_⟩,.inr sr⟩
  ·have V:(if i ∈ is then (g1 i).map aZ else g1 i)=some z:=V
   by_cases q:i ∈ is
   ·rw [if_pos q] at V
    obtain ⟨z0,e0,e1⟩:=Dt.mp V
    subst e1
    exact nr.1 i z0 e0 (fun q=>hf (lentF_z.mpr q)) C
   ·rw [if_neg q] at V
    exact nr.1 i z V hf C
  ·obtain ⟨z0,h0,rfl⟩:=DF.mp hz
   exact nr.2 z0 h0 (fun q=>hf (lentF_z.mpr q)) C
 have w3:Wf K (cL G H1 g1 is) H1 σ (au bz is ρ1) (els ++ (Ts ++ T).map aZ) (fun j=>if j ∈ is then (g1 j).map aZ else g1 j):=w2.pushAll fun x hx=>⟨(n x hx).1,(n x hx).2.1,fun c hc=>kid x hx c hc⟩
 cases e2:cC bnd b p.2 (au bz is ρ1) with
 | none=>rw [e2] at e1;exact nsE e1
 | some rr =>
  obtain ⟨r2,ρ3⟩:=rr
  rw [e2] at e1
  have er:r2=r/\au dh is ρ3 = ρ':=by cases e1;exact ⟨rfl,rfl⟩
  obtain ⟨rfl,eρ⟩:=er
  have leave:∀ {σ':St} {H':Hp} {ρ2:Sto} {g2:Nat->Option It3} {R:List It3},Wf K (cL G H1 g1 is) H' σ' ρ2 (R ++ (els ++ (Ts ++ T).map aZ)) g2->∃ g3,Wf K G H' σ' (au dh is ρ2) (R ++ T) g3:=fun {σ' H' ρ2 g2 R} I =>
   ⟨_,Wf.leave (T:=Ts ++ T) (T':=T) (R:=R) t Q (DE Ts T) (I.sub ((List.Sublist.refl R).append (by
    rw [List.map_append]
    exact (DE (Ts.map aZ) (T.map aZ)).trans (DE els _))))⟩
  have a8:Le K (cL G H1 g1 is) (fun e ρ2=>W e (au dh is ρ2)) G W:=⟨rfl,fun H' σ' ρ2 T2 g2 e I he=>by
   obtain ⟨g3,w5⟩:=sd t Q H' σ' ρ2 T2 g2 I
   exact ⟨_,[],g3,w5,he⟩⟩
  have s:Le K (cL G H1 g1 is) (fun e ρ2=>W e (au dh is ρ2)) G0 W0:=a8.trans le
  refine ⟨fun k m σ' H'=>k<=p.2.length/\m=p.2.length - k/\∃ ρ2 g2,Wf K (cL G H1 g1 is) H' σ' ρ2 (els ++ (Ts ++ T).map aZ) g2/\cC bnd b (p.2.drop k) ρ2=some (r2,ρ3),⟨_,Nat.zero_le _,rfl,_,_,w3,e2⟩,?_⟩
  rintro k m σ' H' ⟨hk,rfl,ρ2,g2,I,e4⟩
  obtain ⟨a5,M⟩:=walk _ H' hM (fun b o U hn=>I.base b o U hn) ar
  by_cases D:k < p.2.length
  ·obtain ⟨d,hd⟩:∃ d,p.2[k]?=some d:=⟨_,Dx D⟩
   have N:p.2.drop k=d :: p.2.drop (k+1):=by
    rw [List.drop_eq_getElem_cons D]
    rw [Dx D] at hd
    cases hd;rfl
   rw [N] at e4
   obtain ⟨go,yld⟩:=a5 k d hd
   refine .inr ⟨go,fun σ5 H5=>∃ ρ5 g5,Wf K (cL G H1 g1 is) H5 σ5 ρ5 (els ++ (Ts ++ T).map aZ) g5/\cC bnd b (p.2.drop (k+1)) ρ5=some (r2,ρ3),fun σ5 H5 ⟨ρ5,g5,w5,l⟩=>⟨p.2.length - (k+1),by lia,D,rfl,ρ5,g5,w5,l⟩,fun x P A=>?_⟩
   obtain ⟨u,nu,ud,uf,uv⟩:=yld x P A
   have w5:Wf K (cL G H1 g1 is) P σ' ρ2 (u :: (els ++ (Ts ++ T).map aZ)) g2:=I.push nu fun c hc=>I.alls (ys:=els) (fun y A=>⟨.inr (Du _ A),(n y A).1⟩) hc
   have l:(match bnd d ρ2 with
    | none=>none
    | some ρ1=>ae b (fun f=>match f with
     | .nx=>cC bnd b (p.2.drop (k+1))
     | .ct=>cC bnd b (p.2.drop (k+1))
     | .br=>aJ .nx
     | .rt d f=>aJ (.rt d f)) ρ1)=some (r2,ρ3):=e4
   cases e6:bnd d ρ2 with
   | none=>rw [e6] at l;exact nsE l
   | some ρ6 =>
    rw [e6] at l
    dsimp only at l
    rw [<- uv]
    refine U (cL G H1 g1 is) P σ' ρ2 ρ6 _ g2 u _ le.pr uf w5 (by rw [ud];exact e6) fun σ6 g6 Z=>?_
    unfold ae at l
    cases O:b ρ6 with
    | none=>rw [O] at l;exact nsE l
    | some pr7 =>
     obtain ⟨o7,ρ7⟩:=pr7
     rw [O] at l
     cases o7 with
     | error er =>
      cases l
      refine tS.mk (r:=.error er) s Z O ?_
      show W er (au dh is _)
      rw [eρ];exact q
     | ok f =>
      cases f with
      | nx=>exact tS.mk (r:=.ok .nx) s Z O fun σ8 H8 g8 S=>⟨ρ7,g8,S,l⟩
      | ct=>exact tS.mk (r:=.ok .ct) s Z O fun σ8 H8 g8 S=>⟨ρ7,g8,S,l⟩
      | br =>
       cases l
       refine tS.mk (r:=.ok .br) s Z O fun σ8 H8 g8 S=>?_
       obtain ⟨g9,F⟩:=leave (R:=[]) S
       rw [eρ] at F
       exact q _ _ _ F
      | rt d' f' =>
       cases l
       refine tS.mk (r:=.ok (.rt d' f')) s Z O fun x8 σ8 H8 g8 S x1 x2=>?_
       obtain ⟨g9,F⟩:=leave (R:=[x8]) S
       rw [eρ] at F
       exact q x8 _ _ _ F x1 x2
  ·have ek:k=p.2.length:=by lia
   subst ek
   rw [List.drop_length] at e4
   cases e4
   obtain ⟨g9,F⟩:=leave (R:=[]) I
   rw [eρ] at F
   exact .inl ⟨M,q _ _ _ F⟩
end
end L3
end
section
namespace L3
open PySem L2
def qM (ix:List (Option Nat)) (ρ:Sto):Sto:=ix.map fun o=>match o with
 | some i=>(ρ[i]?).join
 | none=>none
def uncap:List (Option Nat)->Sto->Sto->Option Sto
 | [],_,ρ=>some ρ
 | none :: ix,τ,ρ=>uncap ix τ.tail ρ
 | some i :: ix,τ,ρ=>match (ρ[i]?).join,τ.head? with
  | some (_,f),some (some (d',f'))=>if f'=f\/f'=.z then uncap ix τ.tail (ρ.set i (some (d',f'))) else none
  | _,_=>none
noncomputable def bJ (bnd:D->Sto->Option Sto) (c:M3 Bool) (elt:EM):List D->M3 (List D)
 | []=>aJ []
 | d :: ds=>fun τ=>match bnd d τ with
  | none=>none
  | some τ1=>ae c (fun b=>if b then ae elt (fun r=>ae (cK r) fun p=>ae (bJ bnd c elt ds) fun l=>aJ (p.1 :: l)) else bJ bnd c elt ds) τ1
def bx (im:IM) (bnd:D->Sto->Option Sto) (c:M3 Bool) (elt:EM) (ix:List (Option Nat)):EM:=ae im fun p=>fun ρ =>
 match bJ bnd c elt p.2 (qM ix (au bz (us ρ (pls p.1)) ρ)) with
 | some (.ok ds,τ)=>if p.2.length < 16777216 then (uncap ix τ (au bz (us ρ (pls p.1)) ρ)).map fun ρ2=>(.ok (.val (.lst ds) .u),au dh (us ρ (pls p.1)) ρ2) else none
 | _=>none
section
variable {K:FG} {G G0:Gm} {W W0:D->Sto->Prop} {H H':Hp} {σ τ:St} {ρ ρ':Sto} {T T':List It3} {g:Nat->Option It3} {x y z:It3} {α β:Type} {ix:List (Option Nat)}
def Inj (ix:List (Option Nat)):Prop:=∀ (j k i:Nat),ix[j]?=some (some i)->ix[k]?=some (some i)->j=k
def Ah (ix:List (Option Nat)) (g:Nat->Option It3) (j:Nat):Option It3:=(ix[j]?).join.bind g
def ql (ix:List (Option Nat)) (n:Nat) (g:Nat->Option It3):List It3:=(List.range n).filterMap fun i=>if some i ∈ ix then none else g i
def xL (G:Gm) (ix:List (Option Nat)) (σ:St):Gm:=⟨G.H0,G.bw,fun j=>((ix[j]?).join).isSome,cap ix σ,fun _=>none,G.src,fun j=>(ix[j]?).join.bind G.lv⟩
theorem cV {j:Nat} (h:Ah ix g j=some x):∃ i,ix[j]?=some (some i)/\g i=some x:=by
 unfold Ah at h
 cases e:ix[j]? with
 | none=>rw [e] at h;exact nsE h
 | some o =>
  rw [e] at h
  cases o with
  | none=>exact nsE h
  | some i=>exact ⟨i,rfl,h⟩
theorem km {n:Nat} (h:x ∈ ql ix n g):∃ i,some i ∉ ix/\g i=some x:=by
 obtain ⟨i,_,e⟩:=List.mem_filterMap.mp h
 split at e
 ·exact nsE e
 ·rename_i a;exact ⟨i,a,e⟩
theorem wo {n i:Nat} (hi:i < n) (a:some i ∉ ix) (e:g i=some x):x ∈ ql ix n g:=List.mem_filterMap.mpr ⟨i,List.mem_range.mpr hi,by rw [if_neg a];exact e⟩
theorem Wf.cap (w:Wf K G H σ ρ T g) (t:Inj ix):Wf K (xL G ix σ) H (cap ix σ) (qM ix ρ) (ql ix ρ.length g ++ T) (Ah ix g):=by
 have ne:∀ {i j:Nat},ix[j]?=some (some i)->∀ k,some k ∉ ix->i ≠ k:=fun e k l q=>l (by rw [<- q];exact DD e)
 refine ⟨by unfold L2.cap qM;rw [DB,DB],fun j=>?_,fun j x h=>?_,fun j x h=>?_,fun x s=>?_,fun j k x y n s p=>?_,fun j x h y p=>?_,?_,w.base,fun _ _=>rfl,⟨fun _ _ _ _ _=>rfl,fun _ _ _ _ _ _ _=>rfl,w.fx.bin,fun b o e=>(by cases e),fun j x h u=>?_⟩⟩
 ·unfold Ah qM
  rw [DG]
  cases e:ix[j]? with
  | none=>rfl
  | some o =>
   cases o with
   | none=>rfl
   | some i=>exact w.sl i
 ·obtain ⟨i,e1,c⟩:=cV h
  unfold L2.cap
  rw [DG,e1]
  show some ((σ[i]?).getD none)=_
  rw [w.sv i x c];rfl
 ·obtain ⟨i,_,c⟩:=cV h
  have ok:=w.okS i x c
  exact ⟨ok.rep,ok.own,ok.src⟩
 ·rcases Dz.mp s with h | h
  ·obtain ⟨i,_,e⟩:=km h
   have ok:=w.okS i x e
   exact ⟨ok.rep,ok.own,ok.src⟩
  ·have ok:=w.okT x h
   exact ⟨ok.rep,ok.own,ok.src⟩
 ·obtain ⟨i,e1,c⟩:=cV s
  obtain ⟨v,A,z⟩:=cV p
  exact w.ss i v x y (fun q=>n (t j k i e1 (q ▸ A))) c z
 ·obtain ⟨i,e1,c⟩:=cV h
  rcases Dz.mp p with q | q
  ·obtain ⟨k,l,e⟩:=km q
   have:=ne e1 k l
   exact ⟨w.ss i k x y this c e,w.ss k i y x (Ne.symm this) e c⟩
  ·exact w.st i x c y q
 ·refine List.pairwise_append.mpr ⟨?_,w.tt,fun a m b r=>?_⟩
  ·unfold ql
   rw [List.pairwise_filterMap]
   refine List.pairwise_lt_range.imp fun {i k} lt a m b r=>?_
   have d:(if some i ∈ ix then none else g i)=some a:=m
   have f:(if some k ∈ ix then none else g k)=some b:=r
   split at d
   ·cases d
   ·split at f
    ·cases f
    ·exact ⟨w.ss i k a b (DJ lt) d f,w.ss k i b a (Nat.ne_of_gt lt) f d⟩
  ·obtain ⟨k,l,e⟩:=km m
   exact w.st k a e b r
 ·obtain ⟨i,e1,c⟩:=cV h
  show (ix[j]?).join.bind G.lv=_
  rw [e1]
  exact w.fx.lvS i x c u
theorem Wf.perm (w:Wf K G H σ ρ T g) (p:T.Perm T'):Wf K G H σ ρ T' g :=
 ⟨w.len,w.sl,w.sv,w.okS,fun x a=>w.okT x (p.mem_iff.mpr a),w.ss,fun i x e y b=>w.st i x e y (p.mem_iff.mpr b),(p.pairwise_iff fun h=>Apart3.symm h).mp w.tt,w.base,w.pro,w.fx.sub fun x a=>p.mem_iff.mpr a⟩
theorem gw:∀ {ix:List (Option Nat)} {τ ρ ρ2:Sto},uncap ix τ ρ=some ρ2->Inj ix->ρ2.length = ρ.length/\(∀ i,some i ∉ ix->(ρ2[i]?).join=(ρ[i]?).join) /\
  ∀ (j i:Nat),ix[j]?=some (some i)->∃ p q,(ρ[i]?).join=some p/\(τ[j]?).join=some q/\(ρ2[i]?).join=some q/\(q.2=p.2\/q.2=.z)
 | [],τ,ρ,ρ2,e,_=>by cases e;exact ⟨rfl,fun _ _=>rfl,fun j i h=>by simp at h⟩
 | none :: ix,τ,ρ,ρ2,e,hij=>by
  unfold uncap at e
  obtain ⟨h1,h2,h3⟩:=gw e fun j k i a b=>by
   have:=hij (j+1) (k+1) i (by simpa using a) (by simpa using b)
   lia
  refine ⟨h1,fun i hi=>h2 i fun q=>hi (Dr _ q),fun j i h=>?_⟩
  cases j with
  | zero=>simp at h
  | succ j =>
   obtain ⟨p,q,a,b,c⟩:=h3 j i (by simpa using h)
   exact ⟨p,q,a,by rw [List.getElem?_tail] at b;exact b,c⟩
 | some i0 :: ix,τ,ρ,ρ2,e,hij=>by
  unfold uncap at e
  cases e1:(ρ[i0]?).join with
  | none=>rw [e1] at e;exact nsE e
  | some p =>
   obtain ⟨d,f⟩:=p
   cases n:τ.head? with
   | none=>rw [e1,n] at e;exact nsE e
   | some o =>
    cases o with
    | none=>rw [e1,n] at e;exact nsE e
    | some q =>
     obtain ⟨d',u⟩:=q
     rw [e1,n] at e
     dsimp only at e
     split at e
     ·rename_i hf
      have g:=eJ e1
      have r:some i0 ∉ ix:=fun m=>by
       obtain ⟨k,s,t⟩:=List.mem_iff_getElem.mp m
       have:=hij 0 (k+1) i0 rfl (by simp [s,t])
       lia
      obtain ⟨h1,h2,h3⟩:=gw e fun j k i a b=>by
       have:=hij (j+1) (k+1) i (by simpa using a) (by simpa using b)
       lia
      refine ⟨by rw [h1,List.length_set],fun i hi=>?_,fun j i h=>?_⟩
      ·rw [h2 i fun q=>hi (Dr _ q),b9 g,if_neg (fun q=>hi (by rw [q];exact Dq))]
      ·cases j with
       | zero =>
        simp at h
        subst h
        refine ⟨(d,f),(d',u),e1,?_,?_,hf⟩
        ·rw [List.head?_eq_getElem?] at n;rw [n];rfl
        ·rw [h2 i0 r,b9 g,if_pos rfl]
       | succ j =>
        have l:ix[j]?=some (some i):=by simpa using h
        obtain ⟨p,q,a,b,c⟩:=h3 j i l
        have ii:i ≠ i0:=fun z=>r (by rw [<- z];exact DD l)
        rw [b9 g,if_neg ii] at a
        exact ⟨p,q,a,by rw [List.getElem?_tail] at b;exact b,c⟩
     ·exact nsE e
theorem Wf.uncap (w:Wf K G H σ ρ T g) (hH:∀ b o,H b=some o->G.H0 b=some o) (W:Inj ix) (e:L3.uncap ix τρ ρ=some ρ2) (hR:∀ x ∈ R,x.f=.z) (r:Wf K (xL G ix σ) H' τ' τρ (R ++ (ql ix ρ.length g ++ T)) gC) :
  ∃ g2,Wf K G H' σ ρ2 (R ++ T) g2:=by
 obtain ⟨I,h2,h3⟩:=gw e W
 let inv (i:Nat):Option Nat:=(List.range ix.length).find? fun j=>decide (ix[j]?=some (some i))
 have A:∀ i j,inv i=some j->ix[j]?=some (some i):=fun i j h=>by simpa using List.find?_some h
 have B:∀ i,inv i=none->some i ∉ ix:=fun i h m=>by
  obtain ⟨k,hk,ek⟩:=List.mem_iff_getElem.mp m
  have:=List.find?_eq_none.mp h k (List.mem_range.mpr hk)
  simp [hk,ek] at this
 let g2 (i:Nat):Option It3:=match inv i with | some j=>gC j | none=>g i
 have val:∀ i u,g2 i=some u->(∃ j p q,ix[j]?=some (some i)/\gC j=some u/\(ρ[i]?).join=some p/\(τρ[j]?).join=some q/\(q.2=p.2\/q.2=.z))\/(some i ∉ ix/\g i=some u):=fun i u h=>by
  grind
 have out:∀ i u,some i ∉ ix->g i=some u->u ∈ ql ix ρ.length g:=fun i u C e=>by
  have s:=w.sl i
  rw [e] at s
  exact wo (eJ s.symm) C e
 have back:∀ i j u,ix[j]?=some (some i)->gC j=some u->σ[i]?=some (some u.v):=fun i j u t l=>by
  have a:=r.sv j u l
  have b:=r.pro j (by show ((ix[j]?).join).isSome=true;rw [t];rfl)
  rw [a] at b
  have b:some (some u.v)=(L2.cap ix σ)[j]?:=b
  unfold L2.cap at b
  rw [DG,t] at b
  have b:some (some u.v)=some ((σ[i]?).getD none):=b
  cases q:σ[i]? with
  | none=>rw [q] at b;cases b
  | some o=>rw [q] at b;cases b;rfl
 have O:∀ i j u p q,ix[j]?=some (some i)->gC j=some u->(ρ[i]?).join=some p->(τρ[j]?).join=some q->(q.2=p.2\/q.2=.z)->∃ y,g i=some y/\y.v=u.v/\(u.f=y.f\/u.f=.z):=fun i j u p q t l J eq hf=>by
  obtain ⟨y,M,P,L,y4⟩:=w.slot (d:=p.1) (f:=p.2) J
  have b:=back i j u t l
  rw [y4] at b
  have s:=r.sl j
  rw [l,eq] at s
  have s:some (u.d,u.f)=some q:=s
  refine ⟨y,M,by injection b with b;injection b,?_⟩
  rw [L,show u.f=q.2 by injection s with s;rw [<- s]]
  exact hf
 refine ⟨g2,⟨by rw [I];exact w.len,fun i=>?_,fun i u h=>?_,fun i u h=>?_,fun u hu=>?_,fun i k a b n ha F=>?_,fun i a h b F=>?_,r.tt.sublist ((List.Sublist.refl R).append (DE _ T)),r.base,w.pro,⟨fun u hu hf=>?_,fun i u h Y hf a X=>?_,r.fx.bin,fun b o F=>?_,fun i u h I=>?_⟩⟩⟩
 ·show (match inv i with | some j=>gC j | none=>g i).map _=_
  cases Z:inv i with
  | none=>rw [h2 i (B i Z)];exact w.sl i
  | some j =>
   obtain ⟨p,q,a,b,c,_⟩:=h3 j i (A i j Z)
   rw [c,<- b];exact r.sl j
 ·rcases val i u h with ⟨j,p,q,t,l,_⟩ | ⟨C,e⟩
  ·exact back i j u t l
  ·exact w.sv i u e
 ·rcases val i u h with ⟨j,p,q,t,l,_⟩ | ⟨C,e⟩
  ·have ok:=r.okS j u l
   exact ⟨ok.rep,ok.own,ok.src⟩
  ·have ok:=r.okT u (Dv _ (Du _ (out i u C e)))
   exact ⟨ok.rep,ok.own,ok.src⟩
 ·have ok:=r.okT u (by
   rcases Dz.mp hu with q | q
   ·exact Du _ q
   ·exact Dv _ (Dv _ q))
  exact ⟨ok.rep,ok.own,ok.src⟩
 ·rcases val i a ha with ⟨j,p,q,t,l,_⟩ | ⟨C,e⟩
  ·rcases val k b F with ⟨S,p',q',D,E,_⟩ | ⟨N,V⟩
   ·exact r.ss j S a b (fun z=>n (by subst z;rw [t] at D;injection D with z;injection z)) l E
   ·exact (r.st j a l b (Dv _ (Du _ (out k b N V)))).1
  ·rcases val k b F with ⟨S,p',q',D,E,_⟩ | ⟨N,V⟩
   ·exact (r.st S b E a (Dv _ (Du _ (out i a C e)))).2
   ·exact w.ss i k a b n e V
 ·have U:b ∈ R ++ (ql ix ρ.length g ++ T):=by
   rcases Dz.mp F with q | q
   ·exact Du _ q
   ·exact Dv _ (Dv _ q)
  rcases val i a h with ⟨j,p,q,t,l,_⟩ | ⟨C,e⟩
  ·exact r.st j a l b U
  ·rcases Dz.mp F with q | q
   ·exact ((List.pairwise_append.mp r.tt).2.2 b q a (Du _ (out i a C e))).symm
   ·exact w.st i a e b q
 ·rcases Dz.mp hu with q | q
  ·exact absurd (hR u q) hf
  ·exact w.fx.frT u q hf
 ·rcases val i u h with ⟨j,p,q,t,l,J,eq,Q⟩ | ⟨C,e⟩
  ·obtain ⟨y,M,P,L⟩:=O i j u p q t l J eq Q
   refine w.fx.frS i y M Y (fun z=>hf ?_) a (by rw [P];exact X)
   rcases L with h | h
   ·rw [h];exact z
   ·exact h
  ·exact w.fx.frS i u e Y hf a X
 ·obtain ⟨o',ho⟩:=w.fx.ob b o F
  have h0:=hH b o' ho
  by_cases q:G.bw b
  ·exact r.fx.bin b q
  ·exact ⟨o',r.base b o' h0 q⟩
 ·rcases val i u h with ⟨j,p,q,t,l,J,eq,Q⟩ | ⟨C,e⟩
  ·obtain ⟨y,M,P,L⟩:=O i j u p q t l J eq Q
   rw [<- P]
   refine w.fx.lvS i y M ?_
   rcases L with h | h
   ·rw [<- h];exact I
   ·rw [h] at I;cases I
  ·exact w.fx.lvS i u e I
theorem uq {J:It} {H1:Hp} {ys els:List It3} {ds:List D} {bnd:D->Sto->Option Sto} {c:M3 Bool} {elt:EM} {tg:TG} {tc:TT} {te:TE} {Gc:Gm} {a:List It3} {g:List D} {τρ τρ':Sto} {gC:Nat->Option It3} {Z:List V->Hp->Prop} {M:Addr->Prop}
  (hz:(16777216:Nat)=sizeLine) (G:∀ x ∈ els,x ∈ a/\x.f=.z)
  (ar:∀ H',(∀ b o,H1 b=some o->¬ Gc.bw b->H' b=some o)->(∀ (i:Nat) (d:D),ds[i]?=some d->J.go i H'/\∀ x j,J.yld i H' x j->∃ w,New K H' j (cN els) w/\w.d=d/\w.f=.z/\w.v=x)/\J.stop ds.length H')
  (h0:Gc.H0=H1) (hb:Bnd K Gc.pr tg bnd) (T:∀ σ H Q,tT K Gc (fun _ _=>False) c σ H Q->tc σ H Q) (W:∀ σ H Q,tE K Gc (fun _ _=>False) elt σ H Q->te σ H Q)
  (hlen:ds.length < 16777216) (w:Wf K Gc H1 τ τρ a gC) (e:bJ bnd c elt ds τρ=some (.ok g,τρ'))
  (hZ:∀ (us:List It3) (τ':St) (H':Hp) (g':Nat->Option It3),(∀ x ∈ us,x.f=.z)->us.map (·.d)=g->Wf K Gc H' τ' τρ' (us ++ a) g'->Z (us.map (·.v)) H'):pP J tg tc te Z τ H1:=by
 refine ⟨fun i m vs τ' H'=>i<=ds.length/\m=ds.length - i/\vs.length<=i/\∃ (us:List It3) (ρ2:Sto) (g2:Nat->Option It3) (r:List D),(∀ x ∈ us,x.f=.z)/\us.map (·.v)=vs/\Wf K Gc H' τ' ρ2 (us ++ a) g2/\bJ bnd c elt (ds.drop i) ρ2=some (.ok r,τρ')/\us.map (·.d) ++ r=g,⟨_,Nat.zero_le _,rfl,DH _,[],τρ,gC,g,fun _ h=>(by cases h),rfl,w,e,rfl⟩,?_⟩
 rintro i m vs τ1 H2 ⟨hi,rfl,ax,us,ρ2,g2,r,B,q,L,O,k⟩
 refine ⟨by lia,?_⟩
 obtain ⟨S,s⟩:=ar H2 fun b o ab hn=>L.base b o (by rw [h0];exact ab) hn
 by_cases n:i < ds.length
 ·obtain ⟨d,hd⟩:∃ d,ds[i]?=some d:=⟨_,Dx n⟩
  have t:ds.drop i=d :: ds.drop (i+1):=by
   rw [List.drop_eq_getElem_cons n]
   rw [Dx n] at hd
   cases hd;rfl
  rw [t] at O
  obtain ⟨go,yld⟩:=S i d hd
  refine .inr ⟨go,fun A τ5 X=>A.length<=i+1/\∃ (us:List It3) (ρ5:Sto) (Y:Nat->Option It3) (r:List D),(∀ x ∈ us,x.f=.z)/\us.map (·.v)=A/\Wf K Gc X τ5 ρ5 (us ++ a) Y/\bJ bnd c elt (ds.drop (i+1)) ρ5=some (.ok r,τρ')/\us.map (·.d) ++ r=g,
   fun A τ5 X ⟨P,h5⟩=>⟨ds.length - (i+1),by lia,n,rfl,P,h5⟩,fun x j F=>?_⟩
  obtain ⟨u,nu,ud,uf,uv⟩:=yld x j F
  have w3:Wf K Gc j τ1 ρ2 (u :: (us ++ a)) g2:=L.push nu fun c hc=>L.alls (ys:=els) (fun y F=>⟨.inr (Dv _ (G y F).1),(G y F).2⟩) hc
  have I:(match bnd d ρ2 with
   | none=>none
   | some τ1=>ae c (fun b=>if b then ae elt (fun r=>ae (cK r) fun p=>ae (bJ bnd c elt (ds.drop (i+1))) fun l=>aJ (p.1 :: l)) else bJ bnd c elt (ds.drop (i+1))) τ1)=some (.ok r,τρ'):=O
  cases R:bnd d ρ2 with
  | none=>rw [R] at I;exact nsE I
  | some ρ3 =>
   rw [R] at I
   dsimp only at I
   rw [<- uv]
   refine hb Gc j τ1 ρ2 ρ3 _ g2 u _ rfl uf w3 (by rw [ud];exact R) fun τ4 g4 w4=>?_
   refine T _ _ _ (tT.seq (Le.refl K Gc _) w4 I (fun x hx=>by cases hx) fun b ρ5 N X Y w5=>?_)
   cases b with
   | false =>
    simp only [DY,if_false] at N ⊢
    exact ⟨by lia,us,ρ5,Y,r,B,q,w5,N,k⟩
   | true =>
    simp only [if_true] at N ⊢
    refine W _ _ _ (tE.seq (Le.refl K Gc _) w5 N (fun x hx=>by cases hx) fun ra ρ6 e6 v H6 ⟨Ts,g6,w6,a6⟩=>?_)
    obtain ⟨p,ρ7,g7,E,C,w7,f1,f2,_,f3⟩:=a6.take w6 e6
    have w8:=Wf.lowT (Ts:=[E]) w7
    unfold ae at C
    cases U:bJ bnd c elt (ds.drop (i+1)) ρ7 with
    | none=>rw [U] at C;exact nsE C
    | some pr =>
     obtain ⟨o,ρ8⟩:=pr
     rw [U] at C
     cases o with
     | error x=>cases C
     | ok l =>
      cases C
      refine ⟨by rw [DR];simp;lia,us ++ [cG E],ρ7,g7,l,fun y F=>?_,by rw [List.map_append,q,<- f3];rfl,?_,U,?_⟩
      ·rcases Dz.mp F with h | h
       ·exact B y h
       ·rw [DX.mp h];rfl
      ·exact w8.perm (by
        show ([cG E] ++ (us ++ a)).Perm (us ++ [cG E] ++ a)
        rw [<- List.append_assoc]
        exact (List.perm_append_comm).append_right a)
      ·rw [List.map_append,List.append_assoc]
       show us.map (·.d) ++ ((cG E).d :: l)=g
       rw [show (cG E).d=p.1 from f1]
       exact k
 ·have ei:i=ds.length:=by lia
  subst ei
  rw [List.drop_length] at O
  cases O
  rw [List.append_nil] at k
  subst q
  exact .inl ⟨s,hZ us τ1 H2 g2 B k L⟩
end
end L3
end
section
namespace L3
open PySem L2
section
variable {K:FG} {G G0:Gm} {W W0:D->Sto->Prop} {H H':Hp} {σ τ:St} {ρ ρ':Sto} {T T':List It3} {g:Nat->Option It3} {x y z:It3} {α β:Type} {ix:List (Option Nat)}
def aV (ix:List (Option Nat)):Gm:=⟨fun _=>none,fun _=>False,fun j=>((ix[j]?).join).isSome,[],fun _=>none,fun _=>False,fun _=>none⟩
abbrev noX:D->Sto->Prop:=fun _ _=>False
theorem r9 (h:G1.pr=(aV ix).pr) (le:Le K G W G1 noX):Le K G W (aV ix) noX:=⟨le.pr.trans h,fun H σ ρ T g e w q=>by
 obtain ⟨_,_,_,_,f⟩:=le.ex H σ ρ T g e w q
 exact f.elim⟩
theorem yD (h:G1.pr=(aV ix).pr) (q:tE K G1 noX m σ H Q):tE K (aV ix) noX m σ H Q:=by
 obtain ⟨G,W,le,r⟩:=q
 exact ⟨G,W,r9 h le,r⟩
theorem yr (h:G1.pr=(aV ix).pr) (q:tT K G1 noX m σ H Q):tT K (aV ix) noX m σ H Q:=by
 obtain ⟨G,W,le,r⟩:=q
 exact ⟨G,W,r9 h le,r⟩
def fg:M3 Bool:=aJ true
theorem A7 (h:tT K G0 W0 fg σ H Q):tYes σ H Q:=by
 refine h.use fun G W le ρ T g o ρ' w e q=>?_
 cases e
 exact q _ _ w
theorem jh:∀ {ds a:List D} {τρ τρ':Sto},bJ bnd c elt ds τρ=some (.ok a,τρ')->a.length<=ds.length
 | [],a,τρ,τρ',e=>by cases e;exact DH _
 | d :: ds,a,τρ,τρ',e=>by
  unfold bJ at e
  split at e
  ·exact nsE e
  ·rename_i τ1 _
   unfold ae at e
   split at e
   ·exact nsE e
   ·cases e
   ·rename_i b τ2 _
    cases b with
    | false =>
     simp only [DY,if_false] at e
     have:=jh e
     simp;lia
    | true =>
     simp only [if_true] at e
     split at e
     ·exact nsE e
     ·cases e
     ·split at e
      ·exact nsE e
      ·cases e
      ·split at e
       ·exact nsE e
       ·cases e
       ·rename_i l τ5 f
        cases e
        have:=jh f
        simp;lia
theorem pA (hz:(16777216:Nat)=sizeLine) (B:Inj ix) (X:Bnd K (aV ix).pr tg bnd) (le:Le K G W G0 W0) (w:Wf K G H σ ρ T g) (e:bx im bnd c elt ix ρ=some (o,ρ')) (he:∀ x,o=.error x->W x ρ') (hZ:∀ (us:List It3) (H':Hp) (g':Nat->Option It3) (Ts:List It3) (ds:List D),o=.ok (.val (.lst ds) .u)->(∀ x ∈ us,x.f=.z)->us.map (·.d)=ds->us.length<=16777216->Wf K G H' σ ρ' (us ++ T) g'->Z (us.map (·.v)) H') :
  tI K G0 W0 im σ H fun J H1=>pP J tg (tT K (aV ix) noX c) (tE K (aV ix) noX elt) Z (cap ix σ) H1:=by
 refine tI.seq le w e he fun p ρ1 e1=>?_
 intro J H1 vs Ts g1 ys m a1 t hw
 have E:=A2 (is:=pls p.1) m
 have P:∀ i y,i ∈ pls p.1->g1 i=some y->y.f=.u->i ∈ us ρ1 (pls p.1):=fun i y hi U hf=>pQ m hi U hf
 generalize us ρ1 (pls p.1)=is at e1 E P
 have w2:=m.enter is
 obtain ⟨els,k,walk⟩:=hw
 have hM:∀ b,(∃ j y,j ∉ is/\g1 j=some y/\y.f=.u/\y.v=.ref b)->MutAt H1 b:=fun b ⟨j,y,_,U,hf,n⟩=>by
  obtain ⟨_,a,L',v1,v2,_⟩:=(m.okS j y U).own (by rw [hf];intro q;cases q)
  rw [n] at v1;cases v1
  exact (m.okS j y U).rep.inH b (by rw [v2];exact Dq)
 have I:∀ y ∈ ys,∀ b ∈ y.L,¬ ∃ j y,j ∉ is/\g1 j=some y/\y.f=.u/\y.v=.ref b:=fun y N b X ⟨j,y',nj,l,hf,n⟩=>by
  have S:y'.f ≠ .z:=by rw [hf];intro q;cases q
  rcases t y N with ⟨i,hi,A⟩ | N
  ·by_cases ij:i=j
   ·subst ij
    rw [A] at l;cases l
    exact nj (P i y hi A hf)
   ·exact m.ss j i y' y (Ne.symm ij) l A S b n X
  ·exact (m.st j y' l y (Du _ N)).1 S b n X
 have C:∀ y ∈ ys,Itm (Ts ++ T) g1 y:=fun y N=>by
  rcases t y N with ⟨i,_,A⟩ | h
  ·exact .inl ⟨i,A⟩
  ·exact .inr (Du _ h)
 have kid:∀ x ∈ els,∀ c ∈ x.L,cT ((Ts ++ T).map aZ) (fun j=>if j ∈ is then (g1 j).map aZ else g1 j) c/\(H1 c=none\/(G.H0 c=none\/G.src c)):=fun x r c Y=>by
  obtain ⟨nr,sr⟩:=m.kids C ((k x r).2.2 c Y)
  refine ⟨⟨fun i z s hf n=>?_,fun z hz hf n=>?_⟩,.inr sr⟩
  ·have s:(if i ∈ is then (g1 i).map aZ else g1 i)=some z:=s
   by_cases q:i ∈ is
   ·rw [if_pos q] at s
    obtain ⟨z0,e0,e1⟩:=Dt.mp s
    subst e1
    exact nr.1 i z0 e0 (fun q=>hf (lentF_z.mpr q)) n
   ·rw [if_neg q] at s
    exact nr.1 i z s hf n
  ·obtain ⟨z0,h0,rfl⟩:=DF.mp hz
   exact nr.2 z0 h0 (fun q=>hf (lentF_z.mpr q)) n
 have w3:Wf K (cL G H1 g1 is) H1 σ (au bz is ρ1) (els ++ (Ts ++ T).map aZ) (fun j=>if j ∈ is then (g1 j).map aZ else g1 j):=w2.pushAll fun x r=>⟨(k x r).1,(k x r).2.1,fun c Y=>kid x r c Y⟩
 have w4:=w3.cap B
 cases V:bJ bnd c elt p.2 (qM ix (au bz is ρ1)) with
 | none=>rw [V] at e1;exact nsE e1
 | some rr =>
  obtain ⟨o2,τρ⟩:=rr
  rw [V] at e1
  cases o2 with
  | error x=>exact nsE e1
  | ok ds =>
   dsimp only at e1
   split at e1
   ·rename_i hlen
    cases e3:uncap ix τρ (au bz is ρ1) with
    | none=>rw [e3] at e1;exact nsE e1
    | some ρ3 =>
     rw [e3] at e1
     have eo:o=.ok (.val (.lst ds) .u)/\ρ'=au dh is ρ3:=by cases e1;exact ⟨rfl,rfl⟩
     obtain ⟨eo,eρ⟩:=eo
     refine uq (K:=K) (Gc:=xL (cL G H1 g1 is) ix σ) (els:=els) (M:=fun _=>False) (ys:=ys) hz (fun x r=>⟨Dv _ (Du _ r),(k x r).1⟩) (fun H' hk=>walk _ H' hM hk I) rfl X (fun σ' H Q q=>yr (G1:=xL (cL G H1 g1 is) ix σ) rfl q) (fun σ' H Q q=>yD (G1:=xL (cL G H1 g1 is) ix σ) rfl q) hlen w4 V fun us τ' H' g' F O w5=>?_
     obtain ⟨g6,w6⟩:=Wf.uncap w3 (fun b o h=>h) B e3 F w5
     have w7:=Wf.leave (T:=Ts ++ T) (T':=T) (R:=us) m E (DE Ts T) (w6.sub ((List.Sublist.refl us).append (by
      rw [List.map_append]
      exact (DE (Ts.map aZ) (T.map aZ)).trans (DE els _))))
     have hle:us.length<=16777216:=by
      have h1:us.length=ds.length:=by rw [<- O,DB]
      have h2:=jh V
      lia
     rw [<- eρ] at w7
     exact hZ us H' _ Ts ds eo F O hle w7
   ·exact nsE e1
theorem md {us:List It3} (w:Wf K G H σ ρ (us ++ T) g) (j:∀ x ∈ us,x.f=.z) (b:H p=none) :
  Wf K G (upd H p (.lst (us.map (·.v)))) σ ρ (⟨.lst (us.map (·.d)),.ref p,p :: (us.map (·.L)).flatten,.u⟩ :: T) g:=by
 have hi:∀ y ∈ us,Itm (us ++ T) g y/\y.f=.z:=fun y i=>⟨.inr (Du _ i),j y i⟩
 have np:p ∉ (us.map (·.L)).flatten:=fun a=>by
  obtain ⟨y,hm,a⟩:=dR a
  obtain ⟨o,k⟩:=((w.itm (hi y hm).1).rep.inH p a).ex
  rw [b] at k;exact nsE k
 have n:New K H (upd H p (.lst (us.map (·.v)))) (cN us) ⟨.lst (us.map (·.d)),.ref p,p :: (us.map (·.L)).flatten,.u⟩:=⟨aX b,.lst aQ ((jT fun y i=>(w.itm (hi y i).1).rep).same (aX b)),fun c a=>by
  rcases Dw.mp a with e | a
  ·rw [e];exact .inl b
  ·exact .inr (dR a),fun _=>⟨rfl,p,_,rfl,rfl,np,b⟩⟩
 exact (w.push n fun c h=>w.alls hi h).sub (List.Sublist.cons_cons _ (DE us T))
theorem yG (hz:(16777216:Nat)=sizeLine) (b:Inj ix) (k:Bnd K (aV ix).pr tg bnd) (h:tE K G0 W0 (bx im bnd c elt ix) σ H Q) :
  AE (tI K G0 W0 im) tg (tT K (aV ix) noX c) (tE K (aV ix) noX elt) ix σ H Q:=by
 refine h.use fun G W le ρ T g o ρ' w e q=>?_
 refine pA hz b k le w e q.err fun us H' g' Ts ds i f a n j=>?_
 subst i a
 intro p l
 have m:=md j f l
 exact q (.ref p) _ ⟨[_],g',m,Ar.val (⟨.lst (us.map (·.d)),.ref p,p :: (us.map (·.L)).flatten,.u⟩:It3)⟩
theorem pX {i:Nat} (hz:(16777216:Nat)=sizeLine) (k:Inj ix) (s:Bnd K (aV ix).pr tg bnd) (t:G0.pr i=false) (h:tS K G0 W0 (ba i (bx im bnd c elt ix)) E σ H) :
  AG i (tI K G0 W0 im) tg (tT K (aV ix) noX c) (tE K (aV ix) noX elt) ix E σ H:=by
 refine h.use fun G W le ρ T g r ρ' w e q=>?_
 unfold ba ae at e
 cases e1:bx im bnd c elt ix ρ with
 | none=>rw [e1] at e;exact nsE e
 | some pr =>
  obtain ⟨o,ρ1⟩:=pr
  rw [e1] at e
  have a:∀ x,o=.error x->W x ρ1:=fun x v=>by subst v;cases e;exact q
  refine pA hz k s le w e1 a fun us H' g' Ts ds m l j z n=>?_
  subst m j
  intro p b
  have y:=md n l b
  have e:(if i < ρ1.length then some ((.ok .nx,ρ1.set i (some (D.lst (us.map (·.d)),Fl.u))):Except D Flw × Sto) else none)=some (r,ρ'):=e
  split at e
  ·rename_i hi
   cases e
   exact q _ _ _ (y.store (f:=.u) hi (by rw [le.pr];exact t) (.inl rfl) (by intro h;cases h))
  ·exact nsE e
end
end L3
end
section
namespace L3
open PySem L2
section
variable {K:FG} {G G0:Gm} {W W0:D->Sto->Prop} {H H':Hp} {σ:St} {ρ ρ':Sto} {T T':List It3} {g:Nat->Option It3} {x y z:It3} {α β:Type}
theorem Wf.mutate {i:Nat} (w:Wf K G H σ ρ T g) (B:g i=some y) (hu:y.f=.u) (ev:y.v=.ref a) (hm:iG d'=true) (rep:Rep K (upd H a o') d' (.ref a) (a :: C)) (na:a ∉ C) (U:∀ c ∈ C,cT T g c/\(G.H0 c=none\/G.src c)):Wf K G (upd H a o') σ (ρ.set i (some (d',.u))) T (fun j=>if j=i then some ⟨d',.ref a,a :: C,.u⟩ else g j):=by
 have s:y.f ≠ .z:=by rw [hu];intro q;cases q
 have V:=w.okS i y B
 obtain ⟨_,a',L',v1,v2,v3,v4⟩:=V.own s
 rw [ev] at v1;cases v1
 have hi:i < ρ.length:=by
  have:=w.sl i
  rw [B] at this
  exact eJ this.symm
 have ma:MutAt H a:=V.rep.inH a (by rw [v2];exact Dq)
 have val:∀ j u,(if j=i then some (⟨d',.ref a,a :: C,.u⟩:It3) else g j)=some u->(j=i/\u=⟨d',.ref a,a :: C,.u⟩)\/(j ≠ i/\g j=some u):=fun j u h=>by
  by_cases q:j=i
  ·rw [if_pos q] at h;cases h;exact .inl ⟨q,rfl⟩
  ·rw [if_neg q] at h;exact .inr ⟨q,h⟩
 have keep:∀ u,ItOk K G H u->a ∉ u.L->ItOk K G (upd H a o') u:=fun u ou hn=>ou.keep (M:=fun b=>b=a) (fun b o r n=>by rw [av n];exact r) (fun b e=>by rw [e];exact ma) fun b r e=>hn (by rw [<- e];exact r)
 have R:∀ j u,j ≠ i->g j=some u->a ∉ u.L:=fun j u n e=>w.ss i j y u (Ne.symm n) B e s a ev
 have X:∀ u ∈ T,a ∉ u.L:=fun u l=>(w.st i y B u l).1 s a ev
 have I:∀ b o,H b=some o->∃ Q,upd H a o' b=some Q:=fun b o r=>by
  by_cases q:b=a
  ·rw [q,aQ];exact ⟨_,rfl⟩
  ·rw [av q];exact ⟨o,r⟩
 refine ⟨by rw [List.length_set];exact w.len,fun j=>?_,fun j u h=>?_,fun j u h=>?_,fun u l=>keep u (w.okT u l) (X u l),fun j k p q n N Y=>?_,fun j u h t E=>?_,w.tt,fun b o e n=>?_,w.pro,⟨w.fx.frT,fun j u h N hf b W=>?_,fun b r=>?_,fun b o r=>?_,fun j u h P=>?_⟩⟩
 ·rw [b9 hi]
  by_cases q:j=i
  ·rw [if_pos q,if_pos q];rfl
  ·rw [if_neg q,if_neg q];exact w.sl j
 ·rcases val j u h with ⟨rfl,rfl⟩ | ⟨n,h⟩
  ·rw [w.sv j y B,ev]
  ·exact w.sv j u h
 ·rcases val j u h with ⟨rfl,rfl⟩ | ⟨n,h⟩
  ·refine ⟨rep,fun _=>⟨hm,a,C,rfl,rfl,na,fun _=>v4 hu⟩,fun c d=>?_⟩
   rcases Dw.mp d with e | d
   ·rw [e];exact V.src a (by rw [v2];exact Dq)
   ·exact (U c d).2
  ·exact keep u (w.okS j u h) (R j u n h)
 ·rcases val j p N with ⟨J,ep⟩ | ⟨n1,m⟩
  ·rcases val k q Y with ⟨Z,eq⟩ | ⟨n2,A⟩
   ·exact absurd (J.trans Z.symm) n
   ·rw [ep]
    intro _ c x
    cases x
    exact R k q n2 A
  ·rcases val k q Y with ⟨Z,eq⟩ | ⟨n2,A⟩
   ·rw [eq]
    intro hf c x d
    rcases Dw.mp d with e | d
    ·obtain ⟨_,b,L2,D,S,_⟩:=(w.okS j p m).own hf
     rw [x] at D;cases D
     exact R j p n1 m (by rw [<- e,S];exact Dq)
    ·exact (U c d).1.1 j p m hf x
   ·exact w.ss j k p q n m A
 ·rcases val j u h with ⟨J,F⟩ | ⟨n,h'⟩
  ·rw [F]
   refine ⟨fun _ c x=>by cases x;exact X t E,fun hf c x d=>?_⟩
   rcases Dw.mp d with e | d
   ·obtain ⟨_,b,L2,D,S,_⟩:=(w.okT t E).own hf
    rw [x] at D;cases D
    exact X t E (by rw [<- e,S];exact Dq)
   ·exact (U c d).1.2 t E hf x
  ·exact w.st j u h' t E
 ·have:b ≠ a:=fun z=>by
   subst z
   rcases v4 hu with h | h
   ·rw [e] at h;cases h
   ·exact n h
  rw [av this];exact w.base b o e n
 ·rcases val j u h with ⟨J,F⟩ | ⟨n,h'⟩
  ·subst J
   rw [F] at W
   cases W
   exact w.fx.frS j y B N s a ev
  ·exact w.fx.frS j u h' N hf b W
 ·obtain ⟨o,O⟩:=w.fx.bin b r
  exact I b o O
 ·obtain ⟨o2,O⟩:=w.fx.ob b o r
  exact I b o2 O
 ·rcases val j u h with ⟨J,F⟩ | ⟨n,h'⟩
  ·rw [F] at P;cases P
  ·exact w.fx.lvS j u h' P
def MutD (K:FG) (r:V->List V->Hp->VK->Prop) (f:D->List D->Option (D × D)):Prop:=∀ (a:Addr) (d:D) (b:List Addr) (as:List It3) (H:Hp) (Q:VK) (p:D × D),Rep K H d (.ref a) (a :: b)->iG d=true->a ∉ b->(∀ x ∈ as,Rep K H x.d x.v x.L)->(∀ x ∈ as,a ∉ x.L)->f d (as.map (·.d))=some p ->
 (∀ (o':HO) (e:List Addr) (w:It3),Rep K (upd H a o') p.1 (.ref a) (a :: e)->iG p.1=true->(∀ c ∈ e,c ∈ b\/cN as c)->w.f=.z->w.d=p.2->Rep K (upd H a o') w.d w.v w.L->(∀ c ∈ w.L,c ∈ b\/cN as c)->Q w.v (upd H a o'))->r (.ref a) (as.map (·.v)) H Q
def chk (ok:D->Bool) (i:Nat):M3 Unit:=fun ρ=>match (ρ[i]?).join with
 | some (d,_)=>if ok d then some (.ok (),ρ) else none
 | none=>none
theorem nG {i:Nat} (e:ae (af i) k ρ=some (r,ρ')):∃ p,(ρ[i]?).join=some p/\k (.pl i) ρ=some (r,ρ'):=by
 unfold ae af at e
 cases q:(ρ[i]?).join with
 | none=>rw [q] at e;exact nsE e
 | some p=>rw [q] at e;exact ⟨p,rfl,e⟩
theorem xJ {i:Nat} (e:ae (chk ok i) k ρ=some (r,ρ')):(∀ p,(ρ[i]?).join=some p->ok p.1=true)/\k () ρ=some (r,ρ'):=by
 unfold ae chk at e
 grind
def t5 (ok:D->Bool) (f:D->List D->Option (D × D)) (i:Nat) (ms:M3 (List R3)):EM:=ae (af i) fun _=>ae (chk ok i) fun _=>ae ms fun rs=>ae (gives rs) fun ds=>fun ρ=>match (ρ[i]?).join with
 | some (d,.u)=>match f d ds with
  | some p=>some (.ok (.val p.2 .z),ρ.set i (some (p.1,.u)))
  | none=>none
 | _=>none
theorem Wf.changed {i:Nat} {as us:List It3} (X:MutD K r f) (w:Wf K G H σ ρ (us ++ T) g) (e:(ρ[i]?).join=some (d,.u)) (V:σ[i]?=some (some v)) (D:∀ y ∈ as,Itm (us ++ T) g y/\y.f=.z) (W:f d (as.map (·.d))=some p) (q:∀ v H',Got K G σ (ρ.set i (some (p.1,.u))) T (.val p.2 .z) v H'->Q v H'):r v (as.map (·.v)) H Q:=by
 obtain ⟨y,B,O,I,t⟩:=w.slot e
 rw [V] at t
 injection t with t
 injection t with t
 have n:y.f ≠ .z:=by rw [I];intro q;cases q
 have E:=w.okS i y B
 obtain ⟨m,a,F,v1,v2,N,_⟩:=E.own n
 have ra:=E.rep
 rw [v1,v2,O] at ra
 rw [O] at m
 rw [t,v1]
 have na:∀ x ∈ as,a ∉ x.L:=fun x o b=>by
  have:=(w.kid (D x o).1 b fun hf=>absurd (D x o).2 hf).1 i y B n
  exact this v1
 refine X a d F as H Q p ra m N (fun x o=>(w.itm (D x o).1).rep) na W fun o' S u U R s1 J Z P C=>?_
 have k:∀ c,(c ∈ F\/cN as c)->cT (us ++ T) g c/\(G.H0 c=none\/G.src c):=fun c b=>by
  rcases b with b | b
  ·have A:c ∈ y.L:=by rw [v2];exact Dr _ b
   exact ⟨w.kid (.inl ⟨i,B⟩) A fun _ l=>by rw [v1] at l;cases l;exact N b,E.src c A⟩
  ·exact w.alls D b
 have M:∀ c,(c ∈ F\/cN as c)->c ≠ a:=fun c b z=>(k c b).1.1 i y B n (by rw [z];exact v1)
 have Y:=w.mutate (o':=o') B I v1 R U (fun h=>M a (s1 a h) rfl) fun c b=>k c (s1 c b)
 have w2:=Y.pushAll (ws:=[u]) fun x o=>by
  rw [DX.mp o]
  refine ⟨J,P,fun c b=>?_⟩
  have s:=k c (C c b)
  refine ⟨⟨fun j z l hf hz=>?_,s.1.2⟩,s.2⟩
  have l:(if j=i then some (⟨p.1,.ref a,a :: S,.u⟩:It3) else g j)=some z:=l
  by_cases q:j=i
  ·rw [if_pos q] at l
   cases l
   cases hz
   exact M a (C a b) rfl
  ·rw [if_neg q] at l
   exact s.1.1 j z l hf hz
 rw [<- Z,<- J] at q
 exact q u.v _ ⟨[u],_,w2.sub ((List.Sublist.refl [u]).append (DE us T)),.val u⟩
theorem Bp {i:Nat} (s:MutD K r f) (hok:∀ d v L H,ok d=true->Rep K H d v L->tyV K Ty v H) (h:tE K G0 W0 (t5 ok f i ms) σ H Q):tBM K Ty r (pW i) (tA K G0 W0 ms) σ H Q:=by
 refine h.use fun G W le ρ T g o ρ' w e q=>?_
 obtain ⟨m,j,e⟩:=nG e
 obtain ⟨t,e⟩:=xJ e
 obtain ⟨A,f0⟩:=m
 obtain ⟨y,n,E,I,k⟩:=w.slot j
 refine ⟨y.v,k,hok A y.v y.L H (t _ j) (by rw [<- E];exact (w.okS i y n).rep),?_⟩
 refine tA.seq le w e q.err fun rs ρ1 e1 J H1 Ts g1 B a1=>?_
 obtain ⟨ds,ρ2,g2,a,_,F,_,ys,D,f1,f2⟩:=a1.gives B e1
 subst f1 f2
 cases c:(ρ2[i]?).join with
 | none=>rw [c] at a;exact nsE a
 | some p3 =>
  obtain ⟨x,C⟩:=p3
  rw [c] at a
  cases C with
  | u =>
   dsimp only at a
   cases b:f x (ys.map (·.d)) with
   | none=>rw [b] at a;exact nsE a
   | some p =>
    rw [b] at a
    cases a
    exact F.changed s c k D b q
  | l=>exact nsE a
  | z=>exact nsE a
def kc (t:V->V->V->Hp->(Hp->Prop)->Prop):V->List V->Hp->VK->Prop:=fun x a H Q=>∃ k v,a=[k,v]/\t x k v H fun H'=>Q .non H'
def iU (f:D->List D->Option (D × D)) (i:Nat) (mk a:EM):SM:=ae a fun c=>ae (af i) fun _=>ae mk fun b=>ae (gives [b,c]) fun ds=>fun ρ=>match (ρ[i]?).join with
 | some (d,.u)=>match f d ds with
  | some p=>some (.ok .nx,ρ.set i (some (p.1,.u)))
  | none=>none
 | _=>none
theorem A9 {i:Nat} (A:MutD K (kc t) f) (h:tS K G0 W0 (iU f i mk mv) E σ H):uY (tE K G0 W0 mv) (gSub (pW i) (tE K G0 W0 mk) t) E σ H:=by
 refine h.use fun G W le ρ T g r ρ' w e q=>?_
 refine tE.seq le w e q.err fun P ρ1 e1 v H1 ⟨Ts,g1,k,a1⟩=>?_
 obtain ⟨s,o,e1⟩:=nG e1
 obtain ⟨X,f0⟩:=s
 obtain ⟨y,V,Z,S,m⟩:=k.slot o
 refine ⟨y.v,m,?_⟩
 ·refine tE.seq le k e1 q.err fun x ρ2 F M H2 ⟨Us,g2,R,a2⟩=>?_
  have a3:Ars σ [x,P] [M,v] (([] ++ Ts) ++ Us):=.cons a2 (.cons a1 .nil)
  have n:Wf K G H2 σ ρ2 ((([] ++ Ts) ++ Us) ++ T) g2:=R.perm (by
   rw [List.nil_append,<- List.append_assoc]
   exact (List.perm_append_comm).append_right T)
  obtain ⟨ds,ρ3,g3,a,_,B,_,ys,O,f1,f2⟩:=a3.gives n F
  subst f1
  cases j:(ρ3[i]?).join with
  | none=>rw [j] at a;exact nsE a
  | some p3 =>
   obtain ⟨D,L⟩:=p3
   rw [j] at a
   cases L with
   | u =>
    dsimp only at a
    cases b:f D (ys.map (·.d)) with
    | none=>rw [b] at a;exact nsE a
    | some p =>
     rw [b] at a
     cases a
     have:=B.changed (Q:=fun _ H'=>E.nx σ H') A j m O b fun I H' ⟨N,Y,C,U⟩=>q _ _ _ (C.sub (DE N T))
     rw [f2] at this
     obtain ⟨k',I,c,J⟩:=this
     cases c
     exact J
   | l=>exact nsE a
   | z=>exact nsE a
end
end L3
end
section
namespace L3
open PySem L2
structure RE (X:Cx) (G0:Gm) (W0:D->Sto->Prop) (e:Expr) (m:EM):Prop where
 h:PE X e (tE X.K G0 W0 m)
structure RT (X:Cx) (G0:Gm) (W0:D->Sto->Prop) (e:Expr) (m:M3 Bool):Prop where
 h:PT X e (tT X.K G0 W0 m)
structure RW (X:Cx) (G0:Gm) (W0:D->Sto->Prop) (e:Expr) (m:M3 Bool):Prop where
 h:PW X e (tT X.K G0 W0 m)
structure RA (X:Cx) (G0:Gm) (W0:D->Sto->Prop) (es:List Expr) (m:M3 (List R3)):Prop where
 h:PA X es (tA X.K G0 W0 m)
structure RS (X:Cx) (G0:Gm) (W0:D->Sto->Prop) (s:Stmt) (m:SM):Prop where
 h:PS X s (tS X.K G0 W0 m)
structure RSs (X:Cx) (G0:Gm) (W0:D->Sto->Prop) (s:List Stmt) (m:SM):Prop where
 h:PSs X s (tS X.K G0 W0 m)
structure RI (X:Cx) (G0:Gm) (W0:D->Sto->Prop) (tg iter:Expr) (m:IM):Prop where
 h:PI X tg iter (tI X.K G0 W0 m)
structure RG (X:Cx) (pr:Nat->Bool) (target:Expr) (bnd:D->Sto->Option Sto):Prop where
 h:∃ tg,PG X target tg/\Bnd X.K pr tg bnd
structure RGs (X:Cx) (pr:Nat->Bool) (targets:List Expr) (bnd:List D->Sto->Option Sto):Prop where
 h:∃ tg,PGs X targets tg/\yi X.K pr tg bnd
theorem PE.imp (h:PE X e t) (f:∀ σ H Q,t' σ H Q->t σ H Q):PE X e t':=fun pins s σ H Q I q=>h pins s σ H Q I (f σ H Q q)
theorem PT.imp (h:PT X e t) (f:∀ σ H Q,t' σ H Q->t σ H Q):PT X e t':=fun pins s σ H Q I q=>h pins s σ H Q I (f σ H Q q)
theorem PW.imp (h:PW X e t) (f:∀ σ H Q,t' σ H Q->t σ H Q):PW X e t':=fun a pins s σ H Q I q=>h a pins s σ H Q I (f σ H Q q)
theorem PA.imp (h:PA X e t) (f:∀ σ H Q,t' σ H Q->t σ H Q):PA X e t':=fun pos pins s σ H Q I q=>h pos pins s σ H Q I (f σ H Q q)
theorem PS.imp (h:PS X e t) (f:∀ D σ H,t' D σ H->t D σ H):PS X e t':=fun pins s σ H D I q=>h pins s σ H D I (f D σ H q)
theorem PSs.imp (h:PSs X e t) (f:∀ D σ H,t' D σ H->t D σ H):PSs X e t':=fun pins s σ H D I q=>h pins s σ H D I (f D σ H q)
theorem PI.imp (h:PI X tg e t) (f:∀ σ H R,t' σ H R->t σ H R):PI X tg e t':=fun pins s σ H R I q=>h pins s σ H R I (f σ H R q)
theorem szl:(16777216:Nat)=sizeLine:=by rw [sizeLine_eq]
section
variable {X:Cx} {G0:Gm} {W0:D->Sto->Prop} {a b c e:Expr} {es:List Expr} {pos:Pos} {ma mb mc m:EM} {ms:M3 (List R3)} {t u:M3 Bool} {dI:List Expr}
theorem mF (i:Nat) (c:X.N[i]?=some x) (b:Vis X.env.scope x) (hd:(x == ("__debug__":Str))=false) (a:(x == ("__classdict__":Str))=false):RE X G0 W0 (.Name x pos) (af i):=⟨PE.imp (iZ c b hd a) fun _ _ _ h=>Bk h⟩
theorem BU:RE X G0 W0 (.Constant (.int i) j pos) (mC (.int i)):=⟨PE.imp Ch fun _ _ _ h=>io (fun _=>.int i) h⟩
theorem re_bl:RE X G0 W0 (.Constant (.bool i) j pos) (mC (.bl i)):=⟨PE.imp pe_bl fun _ _ _ h=>io (fun _=>.bl i) h⟩
theorem BR:RE X G0 W0 (.Constant .none j pos) (mC .non):=⟨PE.imp Cf fun _ _ _ h=>io (fun _=>.non) h⟩
theorem oj {i:Int} (a:Gl X x) (hm:X.mg x=some (.int i tk)) (hd:(x == ("__debug__":Str))=false):RE X G0 W0 (.Name x pos) (mC (.int i)):=⟨PE.imp (zA (v:=V.int i) a hm ⟨_,rfl⟩ hd) fun _ _ _ h=>io (fun _=>.int i) h⟩
theorem iY (d:OpR X (binaryOp op) r) (hd:OpD X.K r f) (e:RE X G0 W0 a ma) (c:RE X G0 W0 b mb):RE X G0 W0 (.BinOp a op b pos) (ah f ma mb):=⟨PE.imp (pe_op d e.h c.h) fun _ _ _ h=>j3 hd h⟩
theorem re_un (b:UnR X (unaryOp op) r) (hd:UnD X.K r f) (c:RE X G0 W0 a ma):RE X G0 W0 (.UnaryOp op a pos) (mUn f ma):=⟨PE.imp (pe_un b c.h) fun _ _ _ h=>AC hd h⟩
theorem mH (d:OpR X (compareOp op) r) (hd:OpD X.K r f) (e:RE X G0 W0 a ma) (c:RE X G0 W0 b mb) (hm:behindInMarks op b=false):RE X G0 W0 (.Compare a [op] [b] pos) (ah f ma mb):=⟨PE.imp (zC d e.h c.h hm) fun _ _ _ h=>j3 hd h⟩
theorem re_ix (d:IxR X r) (hd:OpD X.K r f) (e:RE X G0 W0 a ma) (c:RE X G0 W0 b mb) (g:sP b):RE X G0 W0 (.Subscript a b pos) (ah f ma mb):=⟨PE.imp (pe_ix d e.h c.h g) fun _ _ _ h=>j3 hd h⟩
theorem BV (d:RE X G0 W0 a ma) (c:RE X G0 W0 (.BoolOp .And (b :: dI) pos) mb):RE X G0 W0 (.BoolOp .And (a :: b :: dI) pos) (hU ma mb):=⟨PE.imp (Ci d.h c.h) fun _ _ _ h=>Br h⟩
theorem BP (h:RE X G0 W0 a ma):RE X G0 W0 (.BoolOp op [a] pos) ma:=⟨Cd h.h⟩
theorem BQ (b:RE X G0 W0 a ma):RE X G0 W0 (.UnaryOp .Not a pos) (oU ma):=⟨PE.imp (Ce b.h) fun _ _ _ h=>Bo h⟩
theorem re_if (e:RT X G0 W0 c t) (f:RE X G0 W0 a ma) (d:RE X G0 W0 b mb):RE X G0 W0 (.IfExp c a b pos) (mIf t ma mb):=⟨PE.imp (wk e.h f.h d.h) fun _ _ _ h=>tE_if h⟩
def eI (f a:D->D->Option (D × Fl)) (ma mb mc:EM):EM:=ae ma fun ra=>ae mb fun rb=>ae (der ra) fun da=>ae (der rb) fun db=>ae (aN ((f da db).bind fun p=>asB p.1)) fun k=>if k then ae mc fun rc=>ae (der rb) fun db=>ae (der rc) fun b=>aN ((a db b).map fun p=>R3.val p.1 p.2) else aJ (.val (.bl false) .z)
theorem BH (b:RE X G0 W0 a ma) (he:∀ whole,isTrue a X.env whole=(do let v <- whole;standAt a.pos;holding [v] (truthy v))):RT X G0 W0 a (cB ma):=⟨PT.imp (B3 b.h he) fun _ _ _ h=>tT_b h⟩
theorem rt_w (h:RW X G0 W0 a t):RT X G0 W0 a t:=⟨h.h.pt⟩
theorem BB (b:RT X G0 W0 a t):RW X G0 W0 (.BoolOp .Or [a] pos) t:=⟨BZ b.h⟩
theorem rw_or (d:RT X G0 W0 a t) (c:RW X G0 W0 (.BoolOp .Or (b :: dI) pos) u):RW X G0 W0 (.BoolOp .Or (a :: b :: dI) pos) (cOr t u):=⟨PW.imp (pw_or d.h c.h) fun _ _ _ h=>tT_or h⟩
theorem BI (b:RT X G0 W0 a t):RT X G0 W0 (.UnaryOp .Not a pos) (fQ t):=⟨PT.imp (B4 b.h) fun _ _ _ h=>A8 h⟩
theorem vP:RA X G0 W0 [] ai:=⟨PA.imp mN fun _ _ _ h=>Bt h⟩
theorem rJ (c:RE X G0 W0 e m) (a:RA X G0 W0 es ms) (b:starEach (e :: es) X.env=(false,eval e X.env) :: starEach es X.env):RA X G0 W0 (e :: es) (ad m ms):=⟨PA.imp (f9 c.h a.h b) fun _ _ _ h=>yH h⟩
theorem BO (h:RA X G0 W0 es ms):RE X G0 W0 (.Tuple es x1 pos) (jJ ms):=⟨PE.imp (Cc h.h) fun _ _ _ h=>Bm szl h⟩
theorem BS (h:RA X G0 W0 es ms):RE X G0 W0 (.List es pos) (jK ms):=⟨PE.imp (wj h.h) fun _ _ _ h=>Bq szl h⟩
theorem c6 {id:String} (c:bM X (.builtin id) r) (hd:cM X.K r f) (g:Gl X x) (hm:X.mg x=none) (i:bootBuiltins x=some (.builtin id)) (j:RA X G0 W0 (e :: es) ms) (d:x ≠ "__name__") (b:(x == ("__debug__":Str))=false) (he:starEach (e :: es) X.env=(false,eval e X.env) :: starEach es X.env) (a:(backTo pos (starEach es X.env)).any (·.1)=false):RE X G0 W0 (.Call (.Name x p) (e :: es) [] pos) (aw f ms):=⟨PE.imp (kg c g hm i j.h d b he a) fun _ _ _ h=>j0 hd h⟩
theorem lL (c:bM X (.type T) r) (hd:cM X.K r f) (d:Gl X x) (hm:X.mg x=none) (g:bootBuiltins x=some (.type T)) (i:RA X G0 W0 (e :: es) ms) (j:x ≠ "__name__") (b:(x == ("__debug__":Str))=false) (he:starEach (e :: es) X.env=(false,eval e X.env) :: starEach es X.env) (a:(backTo pos (starEach es X.env)).any (·.1)=false):RE X G0 W0 (.Call (.Name x p) (e :: es) [] pos) (aw f ms):=⟨PE.imp (lM c d hm g i.h j b he a) fun _ _ _ h=>j0 hd h⟩
variable {st:Stmt} {sts:List Stmt} {sm sn:SM}
theorem yX:RSs X G0 W0 [] eB:=⟨PSs.imp zp fun _ _ _ h=>Bd h⟩
theorem vD (h1:RS X G0 W0 st sm) (h2:RSs X G0 W0 sts sn):RSs X G0 W0 (st :: sts) (aI sm sn):=⟨PSs.imp (vW h1.h h2.h) fun _ _ _ h=>Bb h⟩
theorem yW (h1:RS X G0 W0 st sm):RSs X G0 W0 [st] sm:=⟨zo h1.h⟩
theorem yZ (he:RE X G0 W0 e m) (a:swapsWith e none pos.line X.env=pure false):RS X G0 W0 (.Expr e pos) (fA m):=⟨PS.imp (zq he.h a) fun _ _ _ h=>yw h⟩
theorem BJ (np:Nat) (a:∀ i,np<=i->G0.pr i=false) (he:RE X G0 W0 e m):RS X G0 W0 (.Return (some e) pos) (aT np m):=⟨PS.imp (B6 he.h) fun _ _ _ h=>Bc a h⟩
theorem rs_if (b:RT X G0 W0 c t) (d:RSs X G0 W0 x sm) (a:RSs X G0 W0 y sn):RS X G0 W0 (.If c x y pos) (sIf t sm sn):=⟨PS.imp (ps_if b.h d.h a.h) fun _ _ _ h=>tS_if h⟩
theorem vG (i:Nat) (d:X.N.Nodup) (hi:X.N[i]?=some x) (b:Loc X.env.scope x) (he:RE X G0 W0 e m) (c:swapsWith e (some (.Name x pos')) pos.line X.env=pure false) (hf:X.fn x=true\/X.env.scope.names.lookup x=some .local) (a:G0.pr i=false):RS X G0 W0 (.Assign [.Name x pos'] e pos) (ba i m):=⟨PS.imp (B5 d hi b he.h c hf) fun _ _ _ h=>Ba a h⟩
theorem vE (d:PassesOwn (model X.prog X.w) X.A X.env X.xe) (b:RT X G0 W0 c t) (a:RSs X G0 W0 body sm):RS X G0 W0 (.While c body [] pos) (fy t sm):=⟨PS.imp (vX d b.h a.h) fun _ _ _ h=>uV h⟩
theorem BK (d:PassesOwn (model X.prog X.w) X.A X.env X.xe) (b:X.calm=true) (hi:RI X G0 W0 tg iter im) (c:RG X G0.pr tg bnd) (a:RSs X G0 W0 body sm) (e:∀ x,foldedSetIterable iter X.env x=pure x):RS X G0 W0 (.For tg iter body [] pos) (bP im bnd sm):=by
 obtain ⟨g,h1,h2⟩:=c.h
 exact ⟨PS.imp (vZ d b hi.h h1 a.h e) fun _ _ _ h=>Be h2 h⟩
theorem rE (i:Nat) (c:X.N.Nodup) (hi:X.N[i]?=some x) (b:Loc X.env.scope x) (hf:X.fn x=true\/X.env.scope.names.lookup x=some .local) (a:pr i=false):RG X pr (.Name x pos) (aj i):=⟨_,fZ c hi b hf,iM a⟩
theorem zd:RGs X pr [] iO:=⟨_,mL,pK⟩
theorem vK (h1:RG X pr e bn) (h2:RGs X pr es bs) (a:(assignEach (e :: es) X.env).map (·.2)=assign e X.env :: (assignEach es X.env).map (·.2)):RGs X pr (e :: es) (bK bn bs):=by
 obtain ⟨g,a1,a2⟩:=h1.h
 obtain ⟨b,b1,b2⟩:=h2.h
 exact ⟨_,fD a1 b1 a,jl a2 b2⟩
theorem BN {k n:Nat} (b:X.calm=true) (h:RGs X pr es bs) (c:(assignEach es X.env).length=n) (a:(assignEach es X.env).findIdx? (·.1)=none):RG X pr (.Tuple es k pos) (iN n bs):=by
 obtain ⟨d,b1,b2⟩:=h.h
 exact ⟨_,qj b b1 c a,sI b2⟩
theorem zf (NY:List Str) (ix:List (Option Nat)) (g:X.calm=true) (hi:RI X G0 W0 tg iter im) (e:∀ s H C fp,PTs (aC X NY scope s H C fp) ifs (tT X.K (aV ix) noX cm)) (he:∀ s H C fp,RE (aC X NY scope s H C fp) (aV ix) noX elt em) (d:fM scope X.N X.env.scope NY ix=true) (c:Inj ix) (f:∀ x,foldedSetIterable iter X.env x=pure x) (b:∃ a,Bnd X.K (aV ix).pr a bnd/\∀ s H C fp,PG (aC X NY scope s H C fp) tg a):RE X G0 W0 (.ListComp elt [⟨tg,iter,ifs,0⟩] scope pos) (bx im bnd cm em ix):=by
 obtain ⟨a,b1,b2⟩:=b
 exact ⟨PE.imp (zB NY ix g hi.h b2 e (fun s H C fp=>(he s H C fp).h) d f) fun _ _ _ h=>yG szl c b1 h⟩
end
end L3
end
section
namespace L3
open PySem L2
noncomputable def am (F:Fn) (ms:M3 (List R3)):EM:=ae ms fun rs=>fun ρ=>match prs (frz (jM rs) ρ) rs with
 | none=>none
 | some ps=>match F ps with
  | none=>none
  | some (.ok p,qs)=>if qs.length=ps.length then some (.ok (.val p.1 p.2),back rs ps qs (frz (jM rs) ρ)) else none
  | some (.error _,_)=>none
def sY (K:FG) (F:Fn):Sp:=fun a H Q _=>∃ (ps:List It3) (p:D × Fl) (fs:List (D × Fl)),a=ps.map (·.v)/\(∀ p ∈ ps,Arg K H p)/\ps.Pairwise Apart3/\F (ps.map fun p=>(p.d,p.f))=some (.ok p,fs) /\
 ∀ x qs H',Behind K H H' ps qs x->x.d=p.1->x.f=p.2->qs.map (fun q=>(q.d,q.f))=fs->Q x.v H'
section
variable {K:FG} {G G0:Gm} {W W0:D->Sto->Prop} {H H':Hp} {σ:St} {ρ ρ':Sto} {T T':List It3} {g:Nat->Option It3} {x y z:It3} {α β:Type}
theorem uX (h:tE K G0 W0 (am F ms) σ H Q):tA K G0 W0 ms σ H fun u H1=>sY K F u H1 Q E0:=by
 refine h.use fun G W le ρ T g o ρ' w e q=>?_
 refine tA.seq le w e q.err fun rs ρ1 e1 u H1 Ts g1 t a1=>?_
 obtain ⟨g2,d,A⟩:=Wf.frz (is:=jM rs) t
 cases k:prs (L3.frz (jM rs) ρ1) rs with
 | none=>rw [k] at e1;exact nsE e1
 | some pfs =>
  rw [k] at e1
  dsimp only at e1
  have hd:∀ i,2<=(pls rs).count i->∀ y,g2 i=some y->y.f=.z:=fun i D y s=>by
   have hm:i ∈ jM rs:=DZ.mpr ⟨List.count_pos_iff.mp (by lia),by simpa using D⟩
   have s1:=d.sl i
   rw [s] at s1
   have M:∃ y0,g1 i=some y0:=by
    cases N:g1 i with
    | some y0=>exact ⟨y0,rfl⟩
    | none =>
     exfalso
     have s2:=t.sl i
     rw [N] at s2
     have:=o8 (is:=jM rs) s2.symm
     rw [this] at s1
     cases s1
   obtain ⟨y0,l⟩:=M
   obtain ⟨V,b,_,O⟩:=A i y0 l
   rw [s] at b
   cases b
   exact O hm
  obtain ⟨ps,f1,f2,J,f4,P⟩:=Ars.args a1 d hd k
  have hit:∀ p ∈ ps,Itm (Ts ++ T) g2 p:=fun p j=>by
   rcases f4 p j with ⟨i,_,I⟩ | h
   ·exact .inl ⟨i,I⟩
   ·exact .inr (Du _ h)
  have c:∀ p ∈ ps,Arg K H1 p:=fun p j=>⟨(d.itm (hit p j)).rep,fun hf=>by
   obtain ⟨m,a,L',v1,v2,L,_⟩:=(d.itm (hit p j)).own hf
   exact ⟨m,a,L',v1,v2,L⟩⟩
  subst f2
  cases b:F pfs with
  | none=>rw [b] at e1;exact nsE e1
  | some r =>
   obtain ⟨out,fs⟩:=r
   rw [b] at e1
   cases out with
   | ok p =>
    dsimp only at e1
    split at e1
    ·cases e1
     refine ⟨ps,p,fs,rfl,c,J,by rw [f1];exact b,?_⟩
     intro x qs H' B E R C
     obtain ⟨g',U,S⟩:=Wf.after d k f1 f4 P B.toBehindX
     have n:=S x B.rep B.own B.src B.apx
     rw [C] at n
     rw [<- E,<- R] at q
     exact q x.v H' ⟨[x],g',n,.val x⟩
    ·exact nsE e1
   | error er=>exact nsE e1
def de (b:Bool) (p:It3):It3:=if b then cG p else p
theorem lT:∀ {mask:List Bool} {ps:List It3},(List.zipWith de mask ps).map (fun p=>(p.d,p.f))=List.zipWith k6 mask (ps.map fun p=>(p.d,p.f))
 | [],_=>rfl
 | _ :: _,[]=>rfl
 | b :: mask,p :: ps=>by
  simp only [List.zipWith_cons_cons,DL,lT]
  cases b <;> rfl
theorem t6 {i:Nat} (h:(List.zipWith de mask ps)[i]?=some q):∃ b p,mask[i]?=some b/\ps[i]?=some p/\q=de b p:=by grind
theorem oV {i:Nat} (a:ps.length=mask.length) (h:ps[i]?=some p):∃ b,mask[i]?=some b/\(List.zipWith de mask ps)[i]?=some (de b p):=by
 have hi:i < mask.length:=by have:=(DC.mp h).1;omega
 simp_all
theorem c9 (b:Bool) (p:It3):(de b p).d=p.d/\(de b p).v=p.v/\(de b p).L=p.L/\((de b p).f=p.f\/(de b p).f=.z):=by
 cases b
 ·exact ⟨rfl,rfl,rfl,.inl rfl⟩
 ·exact ⟨rfl,rfl,rfl,.inr rfl⟩
theorem NoRoot.low (h:NoRoot a b) (g:a'.v=a.v) (hf:a'.f=a.f\/a'.f=.z) (d:b'.L=b.L):NoRoot a' b':=fun q c e=>by
 rw [d]
 rcases hf with f | f
 ·exact h (by rw [<- f];exact q) c (by rw [<- g];exact e)
 ·exact absurd f q
def prM (mask:List Bool) (i:Nat):Bool:=match mask[i]? with
 | some b=>!b
 | none=>false
theorem zX {f:α->β} {l:List α} {i:Nat} {a:α} (h:l[i]?=some a):(l.map f)[i]?=some (f a):=by rw [DG,h];rfl
theorem su {n:Nat} (hn:mask.length<=n) (h:sY K (fnM mask n m) vs H Q E) :
  ∃ G:Gm,G.pr=prM mask/\tS K G noX m { nx:=fun _ H'=>Q .non H',rt:=Q } (vs.map some ++ List.replicate (n - vs.length) none) H:=by
 obtain ⟨ps,p,fs,rfl,V,hp,l,q⟩:=h
 unfold fnM at l
 rw [DB] at l
 split at l
 ·rename_i hl
  rw [<- lT] at l
  generalize w:List.zipWith de mask ps=g at l
  have S:g.length=ps.length:=by rw [<- w,List.length_zipWith];lia
  have R:g.map (·.v)=ps.map (·.v):=by
   refine List.ext_getElem? fun i=>?_
   rw [DG,DG]
   cases e:ps[i]? with
   | none=>rw [List.getElem?_eq_none (by have:=List.getElem?_eq_none_iff.mp e;lia)]
   | some u =>
    obtain ⟨b,_,t⟩:=oV (mask:=mask) hl e
    rw [w] at t
    rw [t]
    show some (de b u).v=some u.v
    rw [(c9 b u).2.1]
  have up:∀ (i:Nat) (u:It3),g[i]?=some u->∃ b s,mask[i]?=some b/\ps[i]?=some s/\u=de b s:=fun i u e=>by rw [<- w] at e;exact t6 e
  have A:∀ u ∈ g,∃ b s,s ∈ ps/\u=de b s:=fun u hu=>by
   obtain ⟨i,hi,e⟩:=List.mem_iff_getElem.mp hu
   obtain ⟨b,s,_,t,y⟩:=up i u (by rw [Dx hi,e])
   exact ⟨b,s,DD t,y⟩
  have N:∀ u ∈ g,Arg K H u:=fun u hu=>by
   obtain ⟨b,s,h0,rfl⟩:=A u hu
   obtain ⟨e1,t,y,W⟩:=c9 b s
   refine ⟨by rw [e1,t,y];exact (V s h0).rep,fun hf=>?_⟩
   rw [e1,t,y]
   refine (V s h0).own fun z=>hf ?_
   rcases W with f | f
   ·rw [f];exact z
   ·exact f
  have J:g.Pairwise Apart3:=by
   rw [List.pairwise_iff_getElem]
   intro i j hi hj lt
   obtain ⟨b,s,_,t,y⟩:=up i _ (Dx hi)
   obtain ⟨C,ab,_,T,X⟩:=up j _ (Dx hj)
   have ap:=cx hp (fun _ _=>Apart3.symm) (DJ lt) t T
   rw [y,X]
   obtain ⟨_,a2,a3,a4⟩:=c9 b s
   obtain ⟨_,b2,b3,b4⟩:=c9 C ab
   exact ⟨ap.1.low a2 a4 b3,ap.2.low b2 b4 a3⟩
  have I:∀ (i:Nat) (u:It3),g[i]?=some u->u.f ≠ .z->prM mask i=true:=fun i u e hf=>by
   obtain ⟨b,s,e1,t,y⟩:=up i u e
   unfold prM
   rw [e1]
   cases b with
   | false=>rfl
   | true=>rw [y] at hf;exact absurd rfl hf
  have alls:∀ c,cN g c->cN ps c:=fun c ⟨u,hu,O⟩=>by
   obtain ⟨b,s,h0,rfl⟩:=A u hu
   exact ⟨s,h0,by rw [<- (c9 b s).2.2.1];exact O⟩
  have lift:∀ {H':Hp} {qs:List It3},BehindX K H H' g qs->BehindX K H H' ps qs:=fun {H' qs} B=>by
   refine ⟨fun b o hb hn=>B.frame b o hb fun u hu hf R=>?_,Paired.ofGet ?_ fun k u v eu ev=>?_,B.apart⟩
   ·obtain ⟨C,s,h0,rfl⟩:=A u hu
    obtain ⟨_,t,_,W⟩:=c9 C s
    rcases W with f | f
    ·exact hn s h0 (by rw [<- f];exact hf) (by rw [<- t];exact R)
    ·rw [f] at hf;cases hf
   ·rw [<- S];exact Paired.length B.back
   ·obtain ⟨b,_,t⟩:=oV (mask:=mask) hl eu
    rw [w] at t
    have b1:=Paired.at B.back t ev
    obtain ⟨a1,a2,a3,a4⟩:=c9 b u
    refine ⟨fun hz=>?_,by rw [b1.v,a2],?_,b1.arg,fun c O=>(b1.src c O).imp id (alls c),fun hf C P=>?_⟩
    ·have:de b u=u:=by
      cases b
      ·rfl
      ·obtain ⟨d,v,L,f⟩:=u
       have hz:f=.z:=hz
       subst hz;rfl
     rw [<- this]
     exact b1.z (by rw [this];exact hz)
    ·rcases b1.f with h | h
     ·rcases a4 with f | f
      ·exact .inl (h.trans f)
      ·exact .inr (h.trans f)
     ·exact .inr h
    ·rcases a4 with f | f
     ·exact b1.there (by rw [f];exact hf) C (by rw [a2];exact P)
     ·-- lowered: as it was
      obtain ⟨_,a,L',v1,v2,_⟩:=(V u (DD eu)).own (by rw [hf];intro q;cases q)
      rw [P] at v1;cases v1
      have U:=b1.z f
      have r:=b1.arg.rep
      rw [U,a1,a2,a3] at r
      exact (r.inH C (by rw [v2];exact Dq)).ex
  have ar:g.length<=n:=by lia
  have wf:=uK (K:=K) (H:=H) (n:=n) (pr:=prM mask) ar N J I
  rw [R] at wf
  refine ⟨gOf H (prM mask) ((ps.map (·.v)).map some ++ List.replicate (n - (ps.map (·.v)).length) none) g,rfl,?_⟩
  have h0:∀ (i:Nat) (u:It3),g[i]?=some u->((ps.map (·.v)).map some ++ List.replicate (n - (ps.map (·.v)).length) none)[i]?=some (some u.v):=fun i u e=>lC (by rw [<- R];exact zX e)
  unfold fn0 at l
  cases e:m (eZ n (g.map fun p=>(p.d,p.f))) with
  | none=>rw [e] at l;exact nsE l
  | some rr =>
   obtain ⟨r,ρ2⟩:=rr
   rw [e] at l
   refine tS.mk (r:=r) (Le.refl K _ _) wf e ?_
   have fin:∀ {x:It3} {σ':St} {H':Hp} {g':Nat->Option It3} {d:D} {f:Fl},Wf K (gOf H (prM mask) ((ps.map (·.v)).map some ++ List.replicate (n - (ps.map (·.v)).length) none) g) H' σ' ρ2 [x] g'->x.d=d->x.f=f ->
     ((dY ρ2 0 (g.map fun p=>(p.d,p.f))).map fun fs=>((.ok (d,f),fs):Except D (D × Fl) × List (D × Fl)))=some (.ok p,fs)->Q x.v H':=fun {x σ' H' g' d f} M xd xf l=>by
    cases F:dY ρ2 0 (g.map fun p=>(p.d,p.f)) with
    | none=>rw [F] at l;exact nsE l
    | some fs' =>
     rw [F] at l
     cases l
     obtain ⟨qs,B,U⟩:=q5 (n:=n) N J I h0 M F
     have BX:=lift B.toBehindX
     exact q x qs H' ⟨BX,B.rep,B.own,fun c O=>(B.src c O).imp id (alls c),B.apx⟩ xd xf U
   cases r with
   | error er=>
    dsimp only at l
    cases F:dY ρ2 0 (g.map fun p=>(p.d,p.f)) with
    | none=>rw [F] at l;exact nsE l
    | some fs'=>rw [F] at l;cases l
   | ok fl =>
    cases fl with
    | nx =>
     intro σ' H' g' M
     obtain ⟨Ts,g2,w2,a2⟩:=M.const .non
     obtain ⟨x,rfl,Z,Y,x3⟩:=a2.val_inv
     have:=fin w2 Z Y l
     rw [x3] at this
     exact this
    | br=>exact nsE l
    | ct=>exact nsE l
    | rt d f =>
     intro x σ' H' g' M Z Y
     exact fin M Z Y l
 ·exact nsE l
end
abbrev aF (P:Program) (w:World) (K:FG) (mg:Str->Option Value) (base:Heap) (x:Str) (k:Nat) (ps:List Str) (F:Fn):Prop:=Callee P w K mg base x k ps (sY K F)
theorem aM {k:Nat} {nn:Nat} (D:Def K mg x st) (S:FnScope N ps (ag st)) (c:mask.length=ps.length) (b:N.length=nn) (l:∀ (kV doc pm:Value) (an:Option Addr) (a ct:Value) (us:List Value),us.length=ps.length->bindArgs (PySem.W.fnOf x x (aP st) (aH st) (ag st) .none kV doc pm an a ct) ⟨us,[]⟩=pure (ps.zip us)) (body:∀ (a:Value) (A:Around) (outer:List Env) (s:Shared) (H:Hp) (E:XK) (f:Addr) (G:Gm),Room k (A.deeper (PyProof.Rows.envOfC x (ag st) s.heap.objs.size f a))->G.pr=prM mask->RSs (pi CX0 P w K mg base N x (ag st) f a A outer s H E).nox G noX (aH st) m) :
  aF P w K mg base x (k+1) ps (fnM mask nn m):=by
 refine D.callee l fun f fd F=>F.ok S (fun n H Q E h=>?_) fun a A outer s H n Q E d h=>?_
 ·obtain ⟨g,p,fs,rfl,_,_,i,_⟩:=h
  unfold fnM at i
  grind
 ·have hle:mask.length<=nn:=by
   rw [c,<- b]
   have:=congrArg List.length S.pre
   rw [DT] at this
   omega
  obtain ⟨G,e,j⟩:=su hle h
  subst b
  exact ⟨_,(body a A outer s H E f G d e).h,j⟩
theorem zg {k:Nat} (c:aF X.prog X.w X.K X.mg X.base x k ps F) (f:Room k X.A) (g:RA X G0 W0 (e :: es) ms) (d:Gl X x) (b:(x == ("__debug__":Str))=false) (he:starEach (e :: es) X.env=(false,eval e X.env) :: starEach es X.env) (a:(backTo pos (starEach es X.env)).any (·.1)=false):RE X G0 W0 (.Call (.Name x p) (e :: es) [] pos) (am F ms) :=
 ⟨PE.imp (pe_fn c f g.h d b he a) fun _ _ _ h=>uX h⟩
end L3
end
section
namespace L3
open PySem L2
def orD (f g:D->D->Option (D × Fl)) (a b:D):Option (D × Fl):=match f a b with
 | some p=>some p
 | none=>g a b
section
variable {K:FG} {H:Hp} {Ks:Addr->Prop} {d:D} {v:V} {L:List Addr} {X:Cx}
theorem di (r:Rep K H d v []):New K H H Ks ⟨d,v,[],.z⟩:=⟨Same.refl _,r,fun _ h=>(by cases h),fun h=>absurd rfl h⟩
theorem mP (r:Rep K H d v L) (h:∀ c ∈ L,Ks c):New K H H Ks ⟨d,v,L,.z⟩:=⟨Same.refl _,r,fun c a=>.inr (h c a),fun h=>absurd rfl h⟩
theorem qu (a:H p=none) (r:Reps (Rep K H) ds vs L) (h:∀ c ∈ L,Ks c):New K H (upd H p (.lst vs)) Ks ⟨.lst ds,.ref p,p :: L,.u⟩:=by
 have np:p ∉ L:=fun b=>by obtain ⟨o,d⟩:=(r.inH p b).ex;rw [a] at d;exact nsE d
 refine ⟨aX a,.lst aQ (r.same (aX a)),fun c b=>?_,fun _=>⟨rfl,p,L,rfl,rfl,np,a⟩⟩
 grind
theorem wz (a:H p=none) (r:Reps (Rep K H) ds vs L) (h:∀ c ∈ L,Ks c):New K H (upd H p (.tup vs)) Ks ⟨.tup ds,.ref p,L,.z⟩ :=
 ⟨aX a,.tup aQ (r.same (aX a)),fun c b=>.inr (h c b),fun h=>absurd rfl h⟩
theorem i8 (b:y ∈ ys) (h:Arg K H y) (hm:iG y.d=false):∀ c ∈ y.L,cJ ys c:=fun c a=>⟨y,b,a,fun hf=>by
 have:=(h.own hf).1
 rw [hm] at this;cases this⟩
theorem kA (i:y ∈ ys) (h:Arg K H y) (d:y.v=.ref a) (f:y.L=a :: L):∀ c ∈ L,cJ ys c:=fun c b=>⟨y,i,by rw [f];exact Dr _ b,fun hf e=>by
 obtain ⟨_,j,L',v1,v2,g⟩:=h.own hf
 rw [d] at v1;cases v1
 rw [f] at v2;cases v2
 rw [d] at e;cases e
 exact g b⟩
theorem OpD.or (h:OpD K r f) (h':OpD K r' g):OpD K (fun x y H Q=>r x y H Q\/r' x y H Q) (orD f g):=fun a b H Q p ra rb e q=>by
 unfold orD at e
 cases c:f a.d b.d with
 | some p'=>rw [c] at e;cases e;exact .inl (h a b H Q _ ra rb c q)
 | none=>rw [c] at e;exact .inr (h' a b H Q p ra rb e q)
def cH (C:Int->Int->Bool) (g:Int->Int->D):D->D->Option (D × Fl)
 | .int i,.int j=>if C i j then some (g i j,.z) else none
 | _,_=>none
theorem iI (c:∀ i j,Cb i j=true->C i j) (f:∀ i j H,Rep K H (gd i j) (g i j) []):OpD K (rI C g) (cH Cb gd):=fun a b H Q p ra rb e q=>by
 obtain ⟨da,l,m,h⟩:=a
 obtain ⟨db,o,k,r⟩:=b
 obtain ⟨ra,n⟩:=ra
 obtain ⟨rb,ob⟩:=rb
 dsimp only at ra rb
 cases da <;> try (exact nsE e)
 rename_i i
 obtain ⟨rfl,rfl⟩:=ra.view
 cases db <;> try (exact nsE e)
 rename_i j
 obtain ⟨rfl,rfl⟩:=rb.view
 have e:(if Cb i j then some (gd i j,Fl.z) else none)=some p:=e
 split at e
 ·rename_i d
  cases e
  exact ⟨i,j,rfl,rfl,c i j d,q ⟨gd i j,g i j,[],.z⟩ H (di (f i j H)) rfl rfl⟩
 ·exact nsE e
theorem rI_of:rI0 g=rI (fun _ _=>True) g:=by
 funext x y H Q
 unfold rI0 rI
 grind
theorem dU (a:∀ i j H,Rep K H (gd i j) (g i j) []):OpD K (rI0 g) (cH (fun _ _=>true) gd):=by
 rw [rI_of]
 exact iI (fun _ _ _=>trivial) a
abbrev nE:Int->Int->Bool:=fun _ _=>true
abbrev addI:=cH nE fun i j=>.int (i+j)
abbrev fm:=cH nE fun i j=>.int (i - j)
abbrev dL:=cH (fun i j=>decide ((-(2 ^ 64) < i/\i < 2 ^ 64)\/(-(2 ^ 64) < j/\j < 2 ^ 64))) fun i j=>.int (i * j)
abbrev qv:=cH (fun _ j=>decide (0 < j)) fun i j=>.int (i % j)
abbrev wc:=cH (fun i j=>decide (0<=j/\j<=1000000/\i.natAbs < 2 ^ 64)) fun i j=>.int (i ^ j.toNat)
abbrev ltI:=cH nE fun i j=>.bl (decide (i < j))
abbrev leI:=cH nE fun i j=>.bl (decide (i<=j))
abbrev gtI:=cH nE fun i j=>.bl (decide (j < i))
abbrev geI:=cH nE fun i j=>.bl (decide (j<=i))
theorem od_addI:OpD K (rI0 fun i j=>.int (i+j)) addI:=dU fun i j _=>.int _
theorem zH:OpD K (rI0 fun i j=>.int (i - j)) fm:=dU fun i j _=>.int _
theorem zK:OpD K (rI CMul fun i j=>.int (i * j)) dL:=iI (fun i j h=>by simpa [CMul,uJ,yg] using h) fun i j _=>.int _
theorem zL:OpD K (rI (fun _ j=>0 < j) fun i j=>.int (i % j)) qv:=iI (fun i j h=>by simpa [CMul,uJ,yg] using h) fun i j _=>.int _
theorem zJ:OpD K (rI yg fun i j=>.int (i ^ j.toNat)) wc:=iI (fun i j h=>by simpa [CMul,uJ,yg] using h) fun i j _=>.int _
theorem AO:OpD K (rI0 fun i j=>.bl (decide (i < j))) ltI:=dU fun i j _=>.bl _
theorem AQ:OpD K (rI0 fun i j=>.bl (decide (i<=j))) leI:=dU fun i j _=>.bl _
theorem AR:OpD K (rI0 fun i j=>.bl (decide (j < i))) gtI:=dU fun i j _=>.bl _
theorem od_ge:OpD K (rI0 fun i j=>.bl (decide (j<=i))) geI:=dU fun i j _=>.bl _
def uu:D->D->Option (D × Fl)
 | .tup xs,.tup ys=>if xs.length+ys.length<=16777216 then some (.tup (xs ++ ys),.z) else none
 | _,_=>none
def ux:D->D->Option (D × Fl)
 | .lst xs,.lst ys=>if xs.length+ys.length<=16777216 then some (.lst (xs ++ ys),.u) else none
 | _,_=>none
def uw:D->D->Option (D × Fl)
 | .str xs,.str ys=>if xs.length+ys.length<=16777216 then some (.str (xs ++ ys),.z) else none
 | _,_=>none
theorem Reps.len (r:Reps (Rep K H) ds vs L):ds.length=vs.length:=by
 induction r with
 | nil=>rfl
 | cons _ _ ih=>simp [ih]
theorem Reps.append (r:Reps (Rep K H) ds vs L) (b:Reps (Rep K H) ds' vs' L'):Reps (Rep K H) (ds ++ ds') (vs ++ vs') (L ++ L'):=by
 induction r with
 | nil=>exact b
 | cons a _ ih=>rw [List.append_assoc];exact .cons a ih
theorem Reps.nil_iff (r:Reps (Rep K H) ds vs L):ds=[] ↔ vs=[]:=by cases r <;> simp
def mJ (K:FG):R2:=fun x y H Q=>∃ a b ys,x=.ref a/\y=.ref b/\SqT K H a []/\SqT K H b ys/\Q (.ref b) H
theorem ww:OpR X (binaryOp .Add) (mJ X.K):=by
 intro pins s σ H x y v u Q I p z h
 obtain ⟨a,b,ys,rfl,rfl,t,w,q⟩:=h
 cases p
 cases z
 obtain ⟨its,m,o,_⟩:=I.tuple t
 obtain ⟨l,B,p2,_⟩:=I.tuple w
 have e:its=[]:=m.nil_iff.mpr rfl
 subst e
 obtain ⟨⟨cls,A,data,sl⟩,i,k,n,hd⟩:=id o
 obtain ⟨⟨j,f,data2,g⟩,d,c,r,hd2⟩:=id p2
 simp only at k hd c hd2
 subst k hd c hd2
 exact concat_meets ⟨_,i,rfl⟩ ⟨_,d,rfl⟩ noFill_tuple_add seq_tuple_add PySem.F.slot_tuple_add PySem.F.entry_tuple_add (PySem.F.args_tuple_add_2 _ _)
   (PyProof.Rows.tuple_addW0 a b _ _ n r A f sl g (by simp)) ⟨i,d,⟨.ref b,H,I,rfl,q⟩⟩
theorem od_catT:OpD K (fun x y H Q=>rQ K x y H Q\/mJ K x y H Q) uu:=fun a b H Q p ra rb e q=>by
 obtain ⟨da,B,l,t⟩:=a
 obtain ⟨db,C,k,s⟩:=b
 obtain ⟨ra,r⟩:=ra
 obtain ⟨rb,ob⟩:=rb
 dsimp only at ra rb
 cases da <;> try (exact nsE e)
 rename_i xs
 obtain ⟨f,u,rfl,g,rs⟩:=ra.view
 cases db <;> try (exact nsE e)
 rename_i ys
 obtain ⟨j,ws,rfl,i,d⟩:=rb.view
 have e:(if xs.length+ys.length<=16777216 then some (D.tup (xs ++ ys),Fl.z) else none)=some p:=e
 split at e
 ·rename_i v
  cases e
  by_cases n:u=[]
  ·have m:=rs.nil_iff.mpr n
   subst n m
   refine .inr ⟨f,j,ws,rfl,rfl,SqT.of g,SqT.of i,?_⟩
   exact q ⟨.tup ys,.ref j,k,.z⟩ H (mP (.tup i d) (i8 (y:=⟨.tup ys,.ref j,k,s⟩) (Dr _ (DX.mpr rfl)) ⟨.tup i d,ob⟩ rfl)) rfl rfl
  ·refine .inl ⟨f,j,u,ws,rfl,rfl,SqT.of g,SqT.of i,n,by rw [<- rs.len,<- d.len,<- szl];exact v,fun hw=>?_,fun hw p A=>?_⟩
   ·have o:=d.nil_iff.mpr hw
    subst o
    refine q ⟨.tup (xs ++ []),.ref f,l,.z⟩ H (mP (by rw [List.append_nil];exact .tup g rs) (i8 (y:=⟨.tup xs,.ref f,l,t⟩) Dq ⟨.tup g rs,r⟩ rfl)) rfl rfl
   ·refine q ⟨.tup (xs ++ ys),.ref p,l ++ k,.z⟩ _ (wz A (rs.append d) fun c w=>?_) rfl rfl
    rcases Dz.mp w with h | h
    ·exact i8 (y:=⟨.tup xs,.ref f,l,t⟩) Dq ⟨.tup g rs,r⟩ rfl c h
    ·exact i8 (y:=⟨.tup ys,.ref j,k,s⟩) (Dr _ (DX.mpr rfl)) ⟨.tup i d,ob⟩ rfl c h
 ·exact nsE e
theorem zP:OpD K zh ux:=fun a b H Q p ra rb e q=>by
 obtain ⟨da,w,i,m⟩:=a
 obtain ⟨db,x,f,v⟩:=b
 obtain ⟨ra,s⟩:=ra
 obtain ⟨rb,ob⟩:=rb
 dsimp only at ra rb
 cases da <;> try (exact nsE e)
 rename_i xs
 obtain ⟨g,t,i,rfl,rfl,k,rs⟩:=ra.view
 cases db <;> try (exact nsE e)
 rename_i ys
 obtain ⟨j,ws,f,rfl,rfl,l,d⟩:=rb.view
 have e:(if xs.length+ys.length<=16777216 then some (D.lst (xs ++ ys),Fl.u) else none)=some p:=e
 split at e
 ·rename_i n
  cases e
  refine ⟨g,j,t,ws,rfl,rfl,k,l,by rw [<- rs.len,<- d.len,<- szl];exact n,fun p r=>?_⟩
  refine q ⟨.lst (xs ++ ys),.ref p,p :: (i ++ f),.u⟩ _ (qu r (rs.append d) fun c o=>?_) rfl rfl
  rcases Dz.mp o with h | h
  ·exact kA (y:=⟨.lst xs,.ref g,g :: i,m⟩) Dq ⟨.lst k rs,s⟩ rfl rfl c h
  ·exact kA (y:=⟨.lst ys,.ref j,j :: f,v⟩) (Dr _ (DX.mpr rfl)) ⟨.lst l d,ob⟩ rfl rfl c h
 ·exact nsE e
theorem od_catS:OpD K (fun x y H Q=>∃ i j,x=.str i/\y=.str j/\i.length+j.length<=sizeLine/\Q (.str (i ++ j)) H) uw:=fun a b H Q p ra rb e q=>by
 obtain ⟨da,g,h,d⟩:=a
 obtain ⟨db,l,f,m⟩:=b
 obtain ⟨ra,k⟩:=ra
 obtain ⟨rb,ob⟩:=rb
 dsimp only at ra rb
 cases da <;> try (exact nsE e)
 rename_i i
 obtain ⟨rfl,rfl⟩:=ra.view
 cases db <;> try (exact nsE e)
 rename_i j
 obtain ⟨rfl,rfl⟩:=rb.view
 have e:(if i.length+j.length<=16777216 then some (D.str (i ++ j),Fl.z) else none)=some p:=e
 split at e
 ·rename_i c
  cases e
  exact ⟨i,j,rfl,rfl,by rw [<- szl];exact c,q ⟨.str (i ++ j),.str (i ++ j),[],.z⟩ H (di (.str _)) rfl rfl⟩
 ·exact nsE e
abbrev cE:=orD addI (orD uw (orD uu ux))
theorem Cv:OpD K (fun x y H Q=>rI0 (fun i j=>.int (i+j)) x y H Q\/((∃ i j,x=.str i/\y=.str j/\i.length+j.length<=sizeLine/\Q (.str (i ++ j)) H)\/((rQ K x y H Q\/mJ K x y H Q)\/zh x y H Q))) cE:=od_addI.or (od_catS.or (od_catT.or zP))
theorem zE:OpR X (binaryOp .Add) (fun x y H Q=>rI0 (fun i j=>.int (i+j)) x y H Q\/((∃ i j,x=.str i/\y=.str j/\i.length+j.length<=sizeLine/\Q (.str (i ++ j)) H)\/((rQ X.K x y H Q\/mJ X.K x y H Q)\/zh x y H Q))):=op_add.or (op_add_str.or ((op_catT.or ww).or Cq))
def eqS:D->D->Option Bool
 | .non,.non=>some true | .non,.int _=>some false | .int _,.non=>some false | .non,.bl _=>some false | .bl _,.non=>some false | .non,.str _=>some false | .str _,.non=>some false
 | .int i,.int j=>some (decide (i=j)) | .bl i,.bl j=>some (decide (i=j)) | .str i,.str j=>some (decide (i=j))
 | .int _,.str _=>some false | .str _,.int _=>some false | .bl _,.str _=>some false | .str _,.bl _=>some false
 | _,_=>none
theorem xy (ra:Rep K H a u L) (rb:Rep K H b v L') (e:eqS a b=some k):Bz u v=true/\k=decide (u=v):=by
 cases a <;> cases b <;> first | exact nsE e | (obtain ⟨rfl,rfl⟩:=ra.view;obtain ⟨rfl,rfl⟩:=rb.view;cases e;exact ⟨rfl,by simp⟩)
def jC:D->Bool
 | .non=>true
 | _=>false
def isN:D->D->Option (D × Fl)
 | a,.non=>some (.bl (jC a),.z)
 | _,_=>none
def zQ:D->D->Option (D × Fl)
 | a,.non=>some (.bl (!jC a),.z)
 | _,_=>none
theorem Rep.non_iff (ra:Rep K H a u L):jC a=decide (u=.non):=by cases ra <;> simp [jC]
theorem Cu:OpD K (fun x y H Q=>y=.non/\Q (.bl (decide (x=.non))) H) isN:=fun a b H Q p ra rb e q=>by
 obtain ⟨db,d,c,f⟩:=b
 obtain ⟨rb,ob⟩:=rb
 dsimp only at rb
 cases db <;> try (exact nsE e)
 obtain ⟨rfl,rfl⟩:=rb.view
 unfold isN at e
 cases e
 refine ⟨rfl,?_⟩
 rw [<- ra.rep.non_iff]
 exact q ⟨_,_,[],.z⟩ H (di (.bl _)) rfl rfl
def kj:D->Option (D × Fl)
 | .int i=>some (.int (-i),.z)
 | _=>none
theorem A5:UnD K (rU fun i=>.int (-i)) kj:=fun a H Q p ra e q=>by
 obtain ⟨da,f,c,b⟩:=a
 obtain ⟨ra,d⟩:=ra
 dsimp only at ra
 cases da <;> try (exact nsE e)
 obtain ⟨rfl,rfl⟩:=ra.view
 cases e
 exact ⟨_,rfl,q ⟨_,_,[],.z⟩ H (di (.int _)) rfl rfl⟩
theorem Reps.at:∀ {ds:List D} {b:List V} {L:List Addr} {i:Nat} {d:D},Reps (Rep K H) ds b L->ds[i]?=some d->∃ v L',b[i]?=some v/\Rep K H d v L'/\∀ c ∈ L',c ∈ L
 | _,_,_,_,_,.nil,h=>by simp at h
 | _,_,_,0,_,.cons r _,h=>by simp at h;subst h;exact ⟨_,_,rfl,r,fun c a=>Du _ a⟩
 | _,_,_,i+1,_,.cons _ t,h=>by
  obtain ⟨v,L',h1,h2,h3⟩:=Reps.at (i:=i) t (by simpa using h)
  exact ⟨v,L',by simpa using h1,h2,fun c a=>Dv _ (h3 c a)⟩
theorem Reps.atI {i:Int} (r:Reps (Rep K H) ds vs L) (h:atI ds i=some d):∃ v L',atI vs i=some v/\Rep K H d v L'/\∀ c ∈ L',c ∈ L:=by
 unfold L2.atI at h ⊢
 rw [<- r.len]
 cases e:ixN ds.length i with
 | none=>rw [e] at h;exact nsE h
 | some j=>rw [e] at h;exact r.at h
def ixD:D->D->Option (D × Fl)
 | .lst xs,.int i=>(atI xs i).map fun d=>(d,.z)
 | .fls xs,.int i=>(atI xs i).map fun d=>(d,.z)
 | .tup xs,.int i=>(atI xs i).map fun d=>(d,.z)
 | _,_=>none
theorem od_ix:OpD K (fun x y H Q=>vU K x y H Q\/vT K x y H Q) ixD:=fun a b H Q p ra rb e q=>by
 obtain ⟨da,s,l,m⟩:=a
 obtain ⟨db,t,n,r⟩:=b
 obtain ⟨rb,ob⟩:=rb
 have g:=ra
 obtain ⟨ra,o⟩:=ra
 dsimp only at ra rb
 cases da <;> try (exact nsE e)
 all_goals (cases db <;> try (exact nsE e))
 all_goals (rename_i xs i;obtain ⟨rfl,rfl⟩:=rb.view)
 ·obtain ⟨f,k,rfl,j,rs⟩:=ra.view
  obtain ⟨d,h1,h2⟩:=Dt.mp (show (atI xs i).map (fun d=>(d,Fl.z))=some p from e)
  subst h2
  obtain ⟨v,L',g1,g2,g3⟩:=rs.atI h1
  refine .inr ⟨f,k,i,v,rfl,rfl,SqT.of j,g1,q ⟨d,v,L',.z⟩ H (mP g2 fun c h=>?_) rfl rfl⟩
  exact i8 (y:=⟨.tup xs,.ref f,l,m⟩) Dq g rfl c (g3 c h)
 ·obtain ⟨f,k,l,rfl,rfl,j,rs⟩:=ra.view
  obtain ⟨d,h1,h2⟩:=Dt.mp (show (atI xs i).map (fun d=>(d,Fl.z))=some p from e)
  subst h2
  obtain ⟨v,L',g1,g2,g3⟩:=rs.atI h1
  refine .inl ⟨f,k,i,v,rfl,rfl,SqL.of j,g1,q ⟨d,v,L',.z⟩ H (mP g2 fun c h=>?_) rfl rfl⟩
  exact kA (y:=⟨.lst xs,.ref f,f :: l,m⟩) Dq g rfl rfl c (g3 c h)
 ·obtain ⟨f,k,rfl,j,rs⟩:=ra.view
  obtain ⟨d,h1,h2⟩:=Dt.mp (show (atI xs i).map (fun d=>(d,Fl.z))=some p from e)
  subst h2
  obtain ⟨v,L',g1,g2,g3⟩:=rs.atI h1
  refine .inl ⟨f,k,i,v,rfl,rfl,j.sq,g1,q ⟨d,v,L',.z⟩ H (mP g2 fun c h=>?_) rfl rfl⟩
  exact i8 (y:=⟨.fls xs,.ref f,l,m⟩) Dq g rfl c (g3 c h)
theorem ix_ok:IxR X (fun x y H Q=>vU X.K x y H Q\/vT X.K x y H Q):=ix_list.or CP
end
end L3
end
section
namespace L3
open PySem L2
def orC (f g:List D->Option (D × Fl)) (a:List D):Option (D × Fl):=match f a with
 | some p=>some p
 | none=>g a
section
variable {K:FG} {H:Hp} {Ks:Addr->Prop} {d:D} {v:V} {L:List Addr} {X:Cx}
def c1 (f:D->Option (D × Fl)):List D->Option (D × Fl)
 | [d]=>f d
 | _=>none
def c2 (f:D->D->Option (D × Fl)):List D->Option (D × Fl)
 | [d,d']=>f d d'
 | _=>none
theorem ie {ys:List It3} (e:c1 f (ys.map (·.d))=some p):∃ y,ys=[y]/\f y.d=some p:=by
 match ys,e with
 | [],e=>exact nsE e
 | [y],e=>exact ⟨y,rfl,e⟩
 | _ :: _ :: _,e=>exact nsE e
theorem qV {ys:List It3} (e:c2 f (ys.map (·.d))=some p):∃ y z,ys=[y,z]/\f y.d z.d=some p:=by
 match ys,e with
 | [],e=>exact nsE e
 | [_],e=>exact nsE e
 | [y,z],e=>exact ⟨y,z,rfl,e⟩
 | _ :: _ :: _ :: _,e=>exact nsE e
def mV:D->Option (D × Fl)
 | .lst xs=>some (.int xs.length,.z)
 | .fls xs=>some (.int xs.length,.z)
 | .tup xs=>some (.int xs.length,.z)
 | _=>none
abbrev dS:=c1 mV
theorem C8:cM K (fun xs H Q=>∃ p ys,xs=[.ref p]/\(SqL K H p ys\/SqT K H p ys)/\Q (.int ys.length) H) dS:=fun ys H Q p ra e q=>by
 obtain ⟨y,rfl,f⟩:=ie e
 clear e
 have e:=f
 clear f
 have d:=(ra y Dq).rep
 obtain ⟨da,i,g,h⟩:=y
 dsimp only at d e
 cases da <;> try (exact nsE e)
 ·rename_i xs
  obtain ⟨a,c,rfl,b,rs⟩:=d.view
  cases e
  exact ⟨a,c,rfl,.inr (SqT.of b),by rw [<- rs.len];exact q ⟨_,_,[],.z⟩ H (di (.int _)) rfl rfl⟩
 ·rename_i xs
  obtain ⟨a,c,g,rfl,rfl,b,rs⟩:=d.view
  cases e
  exact ⟨a,c,rfl,.inl (SqL.of b),by rw [<- rs.len];exact q ⟨_,_,[],.z⟩ H (di (.int _)) rfl rfl⟩
 ·rename_i xs
  obtain ⟨a,c,rfl,b,rs⟩:=d.view
  cases e
  exact ⟨a,c,rfl,.inl b.sq,by rw [<- rs.len];exact q ⟨_,_,[],.z⟩ H (di (.int _)) rfl rfl⟩
def uP:D->Option (D × Fl)
 | .lst xs=>some (.tup xs,.z)
 | .tup xs=>some (.tup xs,.z)
 | _=>none
abbrev yq:=c1 uP
theorem C6:cM K (fun xs H Q=>∃ p ys,xs=[.ref p]/\((SqL K H p ys/\∀ l,H l=none->Q (.ref l) (upd H l (.tup ys)))\/(SqT K H p ys/\Q (.ref p) H))) yq:=fun ys H Q p ra e q=>by
 obtain ⟨y,rfl,i⟩:=ie e
 clear e
 have e:=i
 clear i
 have d:=ra y Dq
 have f:=d.rep
 obtain ⟨da,k,b,h⟩:=y
 dsimp only at f e
 cases da <;> try (exact nsE e)
 ·rename_i xs
  obtain ⟨a,g,rfl,c,rs⟩:=f.view
  cases e
  exact ⟨a,g,rfl,.inr ⟨SqT.of c,q ⟨.tup xs,.ref a,b,.z⟩ H (mP (.tup c rs) (i8 (y:=⟨.tup xs,.ref a,b,h⟩) Dq d rfl)) rfl rfl⟩⟩
 ·rename_i xs
  obtain ⟨a,g,b,rfl,rfl,c,rs⟩:=f.view
  cases e
  exact ⟨a,g,rfl,.inl ⟨SqL.of c,fun l j=>q ⟨.tup xs,.ref l,b,.z⟩ _ (wz j rs (kA (y:=⟨.lst xs,.ref a,a :: b,h⟩) Dq d rfl rfl)) rfl rfl⟩⟩
def wQ:D->Option (D × Fl)
 | .lst xs=>some (.lst xs,.u)
 | .tup xs=>some (.lst xs,.u)
 | _=>none
abbrev CH:=c1 wQ
theorem C7:cM K (fun xs H Q=>∃ p ys,xs=[.ref p]/\(SqL K H p ys\/SqT K H p ys)/\∀ l,H l=none->Q (.ref l) (upd H l (.lst ys))) CH:=fun ys H Q p ra e q=>by
 obtain ⟨y,rfl,j⟩:=ie e
 clear e
 have e:=j
 clear j
 have f:=ra y Dq
 have g:=f.rep
 obtain ⟨da,k,b,i⟩:=y
 dsimp only at g e
 cases da <;> try (exact nsE e)
 ·rename_i xs
  obtain ⟨a,h,rfl,c,rs⟩:=g.view
  cases e
  exact ⟨a,h,rfl,.inr (SqT.of c),fun l d=>q ⟨.lst xs,.ref l,l :: b,.u⟩ _ (qu d rs (i8 (y:=⟨.tup xs,.ref a,b,i⟩) Dq f rfl)) rfl rfl⟩
 ·rename_i xs
  obtain ⟨a,h,b,rfl,rfl,c,rs⟩:=g.view
  cases e
  exact ⟨a,h,rfl,.inl (SqL.of c),fun l d=>q ⟨.lst xs,.ref l,l :: b,.u⟩ _ (qu d rs (kA (y:=⟨.lst xs,.ref a,a :: b,i⟩) Dq f rfl rfl)) rfl rfl⟩
def xX:D->Option (D × Fl)
 | .int i=>some (.int (if i < 0 then -i else i),.z)
 | _=>none
abbrev absD:=c1 xX
theorem Rep.int_inv {i:Int} (r:Rep K H (.int i) v L):v=.int i:=by cases r;rfl
theorem Da:cM K (fun xs H Q=>∃ i,xs=[.int i]/\Q (.int (if i < 0 then -i else i)) H) absD:=fun ys H Q p ra e q=>by
 obtain ⟨y,rfl,b⟩:=ie e
 clear e
 have e:=b
 clear b
 have a:=(ra y Dq).rep
 obtain ⟨da,f,d,c⟩:=y
 dsimp only at a e
 cases a <;> try (exact nsE e)
 cases e
 exact ⟨_,rfl,q ⟨_,_,[],.z⟩ H (di (.int _)) rfl rfl⟩
def iH (C:Int->Int->Bool) (g:Int->Int->D):D->D->Option (D × Fl)
 | .int i,.int j=>if C i j then some (g i j,.z) else none
 | _,_=>none
theorem jc (e:iH C g a b=some p):∃ i j,a=.int i/\b=.int j/\C i j=true/\p=(g i j,.z):=by
 cases a <;> cases b <;> try (exact nsE e)
 rename_i i j
 have e:(if C i j then some (g i j,Fl.z) else none)=some p:=e
 split at e
 ·rename_i h;cases e;exact ⟨i,j,rfl,rfl,h,rfl⟩
 ·exact nsE e
abbrev oM:=c2 (iH nE fun i j=>.int (if j > i then j else i))
abbrev AS:=c2 (iH nE fun i j=>.int (if j < i then j else i))
abbrev xC:=c2 (iH (fun _ j=>decide (0 < j/\j < 1073741824)) fun i j=>.tup [.int (i / j),.int (i % j)])
theorem Aq:cM K (fun xs H Q=>∃ i j,xs=[.int i,.int j]/\Q (.int (if j > i then j else i)) H) oM:=fun ys H Q p ra e q=>by
 obtain ⟨y,z,rfl,a⟩:=qV e
 clear e
 have e:=a
 clear a
 obtain ⟨i,j,f,d,_,rfl⟩:=jc e
 have b:=(ra y Dq).rep
 have c:=(ra z (Dr _ Dq)).rep
 rw [f] at b
 rw [d] at c
 refine ⟨i,j,?_,q ⟨_,_,[],.z⟩ H (di (.int _)) rfl rfl⟩
 show [y.v,z.v]=_
 rw [b.int_inv,c.int_inv]
theorem Ap:cM K (fun xs H Q=>∃ i j,xs=[.int i,.int j]/\Q (.int (if j < i then j else i)) H) AS:=fun ys H Q p ra e q=>by
 obtain ⟨y,z,rfl,a⟩:=qV e
 clear e
 have e:=a
 clear a
 obtain ⟨i,j,f,d,_,rfl⟩:=jc e
 have b:=(ra y Dq).rep
 have c:=(ra z (Dr _ Dq)).rep
 rw [f] at b
 rw [d] at c
 refine ⟨i,j,?_,q ⟨_,_,[],.z⟩ H (di (.int _)) rfl rfl⟩
 show [y.v,z.v]=_
 rw [b.int_inv,c.int_inv]
theorem ut:cM K (fun xs H Q=>∃ i j,xs=[.int i,.int j]/\uJ i j/\∀ p,H p=none->Q (.ref p) (upd H p (.tup [.int (i / j),.int (i % j)]))) xC:=fun ys H Q p ra e q=>by
 obtain ⟨y,z,rfl,b⟩:=qV e
 clear e
 have e:=b
 clear b
 obtain ⟨i,j,k,g,a,rfl⟩:=jc e
 have d:=(ra y Dq).rep
 have f:=(ra z (Dr _ Dq)).rep
 rw [k] at d
 rw [g] at f
 refine ⟨i,j,?_,by simpa [uJ] using a,fun p h=>q ⟨_,.ref p,[],.z⟩ _ (wz h (L:=[]) (.cons (L:=[]) (.int _) (.cons (L:=[]) (.int _) .nil)) fun c a=>by cases a) rfl rfl⟩
 show [y.v,z.v]=_
 rw [d.int_inv,f.int_inv]
def gr:List D->Option (List Bool)
 | []=>some []
 | .bl b :: ds=>(gr ds).map (b :: ·)
 | _=>none
theorem pL:∀ {ds:List D} {bs:List Bool},gr ds=some bs->ds=bs.map D.bl
 | [],bs,e=>by cases e;rfl
 | d :: ds,bs,e=>by
  cases d <;> try (exact nsE e)
  rename_i b
  obtain ⟨r,h1,h2⟩:=Dt.mp (show (gr ds).map (b :: ·)=some bs from e)
  subst h2
  rw [pL h1];rfl
theorem Reps.bls:∀ {bs:List Bool} {a:List V} {L:List Addr},Reps (Rep K H) (bs.map D.bl) a L->a=bs.map V.bl
 | [],_,_,.nil=>rfl
 | b :: bs,_,_,.cons r rs=>by
  rw [Reps.bls rs]
  cases r;rfl
def Dj:D->Option (D × Fl)
 | .lst xs=>(gr xs).map fun bs=>(.bl (bs.all id),.z)
 | _=>none
abbrev q8:=c1 Dj
theorem C9:cM K (fun xs H Q=>∃ (a:Addr) (bs:List Bool),xs=[.ref a]/\SqL K H a (bs.map V.bl)/\Q (.bl (bs.all id)) H) q8:=fun ys H Q p ra e q=>by
 obtain ⟨y,rfl,b⟩:=ie e
 clear e
 have e:=b
 clear b
 have c:=(ra y Dq).rep
 obtain ⟨da,i,g,h⟩:=y
 dsimp only at c e
 cases da <;> try (exact nsE e)
 rename_i xs
 obtain ⟨d,j,g,rfl,rfl,f,rs⟩:=c.view
 obtain ⟨bs,h1,h2⟩:=Dt.mp (show (gr xs).map (fun bs=>(D.bl (bs.all id),Fl.z))=some p from e)
 subst h2
 have:=pL h1
 subst this
 have:=rs.bls
 subst this
 exact ⟨d,bs,rfl,SqL.of f,q ⟨_,_,[],.z⟩ H (di (.bl _)) rfl rfl⟩
def jN (xs:List D) (lo hi:Option Int):List D:=(xs.drop (HT.sIx xs.length 0 lo)).take (HT.sIx xs.length xs.length hi - HT.sIx xs.length 0 lo)
end
end L3
end
section
namespace L3
open PySem L2
def rz:D->Option (List D)
 | .lst xs=>some xs
 | .fls xs=>some xs
 | .tup xs=>some xs
 | _=>none
def cf (m:EM):IM:=ae m fun r=>ae (der r) fun d=>aN ((rz d).map fun ds=>([r],ds))
def iSeq (K:FG) (tl:TE):TI:=fun σ H R=>tl σ H fun x H1=>(∃ a,x=.ref a/\(∃ xs,SqL K H1 a xs)/\R (Itl K a) H1)\/∃ a,x=.ref a/\(∃ xs,SqT K H1 a xs)/\R (Itt K a) H1
theorem B9 (i:PE X l tl):PI X tg l (iSeq X.K tl):=by
 intro pins s σ H R I h
 exact thn (i pins s σ H _ I h) fun v s1 ⟨x,H1,c,g,j⟩=>by
   rcases j with ⟨a,e,⟨xs,d⟩,q⟩ | ⟨a,e,⟨xs,d⟩,q⟩
   ·subst e
    cases g
    obtain ⟨its,k,p,hz⟩:=c.list d
    refine wpAny_pyIter_list p.isList ?_
    refine ⟨s1.heap.objs.size,[s1.heap.objs.size],_,_,H1,rfl,c.kept (t':=s1.toks) fun b o e=>Ds _ e,sT a _,⟨_,DA _ rfl,rfl,rfl⟩,fun b f=>?_,q⟩
    have e:b=s1.heap.objs.size:=by simpa using f
    subst e
    exact c.fpOk (DH _) (c.hok.fresh (DH _))
   ·subst e
    cases g
    obtain ⟨its,k,p,hz⟩:=c.tuple d
    refine wpAny_pyIter_tuple (show s1.heap.IsTuple a its.toArray from p) ?_
    refine ⟨s1.heap.objs.size,[s1.heap.objs.size],_,_,H1,rfl,c.kept (t':=s1.toks) fun b o e=>Ds _ e,pR a _,⟨_,DA _ rfl,rfl,rfl⟩,fun b f=>?_,q⟩
    have e:b=s1.heap.objs.size:=by simpa using f
    subst e
    exact c.fpOk (DH _) (c.hok.fresh (DH _))
section
variable {K:FG} {G G0:Gm} {W W0:D->Sto->Prop} {H H':Hp} {σ:St} {ρ ρ':Sto} {T T':List It3} {g:Nat->Option It3} {x y z:It3} {α β:Type} {X:Cx}
theorem Ar.item2 (w:Wf K G H σ ρ (Ts ++ T) g) (a:Ar σ r v Ts) (e:der r ρ=some (.ok d,ρ)):∃ y,y.d=d/\y.v=v/\((∃ i,i ∈ pls [r]/\g i=some y)\/y ∈ Ts):=by
 cases a with
 | @pl i v h =>
  have j:der (.pl i) ρ=((ρ[i]?).join).map fun p=>(.ok p.1,ρ):=rfl
  rw [j] at e
  cases q:(ρ[i]?).join with
  | none=>rw [q] at e;exact nsE e
  | some p =>
   rw [q] at e
   obtain ⟨y,e1,c,l,b⟩:=w.slot (d:=p.1) (f:=p.2) q
   have k:p.1=d:=by cases e;rfl
   rw [h] at b
   injection b with b
   injection b with b
   exact ⟨y,c.trans k,b.symm,.inl ⟨i,Dq,e1⟩⟩
 | val x=>cases e;exact ⟨x,rfl,rfl,.inr (by simp)⟩
theorem mq (j:Reps (Rep K H1) ds vs m) (q:∀ c ∈ m,cJ [y] c) (n:∀ c ∈ m,c ∈ y.L) (g:∀ (M:Addr->Prop) (H':Hp),(∀ b,M b->MutAt H1 b)->(∀ b o,H1 b=some o->¬ M b->H' b=some o)->(∀ b ∈ y.L,¬ M b)->(∀ (i:Nat) (v:V),vs[i]?=some v->J.go i H'/\∀ x a,J.yld i H' x a->a=H'/\x=v)/\J.stop vs.length H'):Walk K J H1 [y] ds:=by
 obtain ⟨ws,h1,h2,h3⟩:=Reps.split j
 refine ⟨ws,fun x h=>⟨(h3 x h).1,(h3 x h).2.1,fun c f=>q c ((h3 x h).2.2 c f)⟩,fun M H' hm e k=>?_⟩
 obtain ⟨go,stop⟩:=g M H' hm e (k y Dq)
 refine ⟨fun i d hd=>?_,by rw [j.len];exact stop⟩
 have hi:∃ u,ws[i]?=some u/\u.d=d:=by
  grind
 obtain ⟨u,l,w⟩:=hi
 have p:vs[i]?=some u.v:=by rw [<- h2,DG,l];rfl
 obtain ⟨g1,g2⟩:=go i u.v p
 refine ⟨g1,fun x a s=>?_⟩
 obtain ⟨e1,r⟩:=g2 x a s
 subst e1 r
 have hu:=DD l
 refine ⟨u,⟨Same.refl _,(h3 u hu).2.1.keep e hm fun b t=>k y Dq b (n b ((h3 u hu).2.2 b t)),fun c f=>.inr ⟨u,hu,f⟩,fun hf=>absurd (h3 u hu).1 hf⟩,w,(h3 u hu).1,rfl⟩
theorem lu {y:It3} {a:Addr} {ds:List D} {c:List V} (k:∀ H',SqL K H' a c->True) (j:∀ (M:Addr->Prop) (H':Hp),(∀ b,M b->MutAt H b)->(∀ b o,H b=some o->¬ M b->H' b=some o)->(∀ b ∈ y.L,¬ M b)->SqL K H' a c) :
  ∀ (M:Addr->Prop) (H':Hp),(∀ b,M b->MutAt H b)->(∀ b o,H b=some o->¬ M b->H' b=some o)->(∀ b ∈ y.L,¬ M b)->(∀ (i:Nat) (v:V),c[i]?=some v->(Itl K a).go i H'/\∀ x d,(Itl K a).yld i H' x d->d=H'/\x=v)/\(Itl K a).stop c.length H':=fun M H' hm f g=>by
 have sq:SqL K H' a c:=j M H' hm f g
 refine ⟨fun i v e=>⟨⟨c,v,sq,e⟩,fun x d ⟨e1,h⟩=>⟨e1,?_⟩⟩,⟨c,sq,DH _⟩⟩
 have:=h c sq
 rw [e] at this
 injection this with this
 exact this.symm
theorem Bi (h:tI K G0 W0 (cf m) σ H R):iSeq K (tE K G0 W0 m) σ H R:=by
 obtain ⟨G,W,le,ρ,T,g,o,ρ',w,e,q⟩:=h
 have k:∀ x,o=.error x->W x ρ':=fun x U=>by subst U;exact q
 refine tE.seq le w e k fun ra ρ1 e1 v H1 ⟨Ts,g1,D,a1⟩=>?_
 obtain ⟨d,d1,s⟩:=aB e1
 obtain ⟨p,L,rfl,rfl⟩:=bp s
 obtain ⟨ds,r,V⟩:=Dt.mp L
 subst V
 obtain ⟨y,O,S,E⟩:=a1.item2 D d1
 have Q:Itm (Ts ++ T) g1 y:=by
  rcases E with ⟨i,_,P⟩ | h
  ·exact .inl ⟨i,P⟩
  ·exact .inr (Du _ h)
 have I:=(D.itm Q).arg
 have A:∀ J,Walk K J H1 [y] ds->R J H1:=fun J hw=>q J H1 [v] Ts g1 [y] D (by simpa using Ars.cons a1 .nil) (fun z hz=>by rw [DX.mp hz];exact E) hw
 clear e1 s L q
 subst O S
 have f:=I
 obtain ⟨da,Y,t,B⟩:=y
 obtain ⟨u,X⟩:=I
 dsimp only at u r
 cases da with
 | tup xs =>
  obtain ⟨a,j,rfl,b,rs⟩:=u.view
  cases r
  refine .inr ⟨a,rfl,⟨_,SqT.of b⟩,A _ (mq rs (i8 (y:=⟨.tup ds,.ref a,t,B⟩) Dq f rfl) (fun c l=>l) fun M H' hm n C=>?_)⟩
  have sq:SqT K H' a j:=SqT.of (n a _ b fun z=>(hm a z).notup b)
  refine ⟨fun i v F=>⟨⟨j,v,sq,F⟩,fun x N ⟨e1,s⟩=>⟨e1,?_⟩⟩,⟨j,sq,DH _⟩⟩
  have:=s j sq
  rw [F] at this
  injection this with this
  exact this.symm
 | lst xs =>
  obtain ⟨a,j,t,rfl,rfl,b,rs⟩:=u.view
  cases r
  refine .inl ⟨a,rfl,⟨_,SqL.of b⟩,A _ (mq rs (kA (y:=⟨.lst ds,.ref a,a :: t,B⟩) Dq f rfl rfl) (fun c l=>Dr _ l) (lu (ds:=ds) (fun _ _=>trivial) fun M H' hm n C=>SqL.of (n a _ b (C a Dq))))⟩
 | fls xs =>
  obtain ⟨a,j,rfl,b,rs⟩:=u.view
  cases r
  refine .inl ⟨a,rfl,⟨_,b.sq⟩,A _ (mq rs (i8 (y:=⟨.fls ds,.ref a,t,B⟩) Dq f rfl) (fun c l=>l) (lu (ds:=ds) (fun _ _=>trivial) fun M H' hm n C=>(b.keep n hm).sq))⟩
 | _=>exact nsE r
theorem BM (h:RE X G0 W0 l m):RI X G0 W0 tg l (cf m):=⟨PI.imp (B9 h.h) fun _ _ _ h=>Bi h⟩
def bc (lo:Int) (n:Nat):List D:=(List.range n).map fun (k:Nat)=>D.int (lo+(k:Int))
theorem nF {lo:Int} {n:Nat}:Walk K (Itr lo n) H1 ys (bc lo n):=by
 refine ⟨[],fun x g=>(by cases g),fun M H' _ _ _=>⟨fun i d hd=>?_,?_⟩⟩
 ·unfold bc at hd
  rw [DG] at hd
  obtain ⟨k,a,b⟩:=Dt.mp hd
  obtain ⟨c,e⟩:=DC.mp a
  rw [List.getElem_range] at e
  subst e
  rw [List.length_range] at c
  refine ⟨c,fun x f ⟨e1,h⟩=>?_⟩
  subst e1
  exact ⟨⟨d,x,[],.z⟩,di (by rw [<- b,h];exact .int _),rfl,rfl,rfl⟩
 ·show n<=(bc lo n).length
  unfold bc
  simp
def eX (j:Int):Bool:=decide (-(2 ^ 62)<=j/\j < 2 ^ 62)
def cn:List D->Option (List D)
 | [.int j]=>if eX j then some (bc 0 j.toNat) else none
 | _=>none
def iX:List D->Option (List D)
 | [.int i,.int j]=>if eX i && eX j then some (bc i (j - i).toNat) else none
 | _=>none
def bf (f:List D->Option (List D)) (ms:M3 (List R3)):IM:=ae ms fun rs=>ae (cb rs) fun ds=>aN ((f ds).map fun xs=>([],xs))
theorem yA (h:tI K G0 W0 (bf cn ms) σ H R):AV (tA K G0 W0 ms) σ H R:=by
 obtain ⟨G,W,le,ρ,T,g,o,ρ',w,e,q⟩:=h
 have b:∀ x,o=.error x->W x ρ':=fun x k=>by subst k;exact q
 refine tA.seq le w e b fun rs ρ1 e1 t H1 Ts g1 i a1=>?_
 obtain ⟨ds,d1,m⟩:=bu e1
 obtain ⟨p,n,rfl,rfl⟩:=bp m
 obtain ⟨xs,a,s⟩:=Dt.mp n
 subst s
 obtain ⟨ys,f,f1,f2⟩:=a1.items i (fun x k=>Du _ k) d1
 subst f1 f2
 match ys,a,f,a1 with
 | [],a,_,_=>exact nsE a
 | y :: z :: r,a,_,_=>cases hd:y.d <;> (rw [DL,DL,hd] at a;exact nsE a)
 | [y],a,f,a1 =>
  have l:=(i.itm (f y Dq)).rep
  cases hd:y.d <;> (rw [DL,hd] at a;try (exact nsE a))
  rename_i j
  rw [hd] at l
  have a:(if eX j then some (bc 0 j.toNat) else none)=some xs:=a
  split at a
  ·rename_i c
   cases a
   have c:=of_decide_eq_true c
   refine ⟨j,by show [y.v]=_;rw [l.int_inv],c.1,c.2,?_⟩
   exact q _ H1 [] [] g1 [] (i.sub (DE Ts T)) .nil (fun _ h=>by cases h) nF
  ·exact nsE a
theorem yz (h:tI K G0 W0 (bf iX ms) σ H R):AU (tA K G0 W0 ms) σ H R:=by
 obtain ⟨G,W,le,ρ,T,g,o,ρ',w,e,q⟩:=h
 have b:∀ x,o=.error x->W x ρ':=fun x m=>by subst m;exact q
 refine tA.seq le w e b fun rs ρ1 e1 E H1 Ts g1 k a1=>?_
 obtain ⟨ds,d1,t⟩:=bu e1
 obtain ⟨p,B,rfl,rfl⟩:=bp t
 obtain ⟨xs,A,C⟩:=Dt.mp B
 subst C
 obtain ⟨ys,f,f1,f2⟩:=a1.items k (fun x m=>Du _ m) d1
 subst f1 f2
 have inv:∀ {ds:List D},iX ds=some xs->∃ i j,ds=[.int i,.int j]/\eX i=true/\eX j=true/\xs=bc i (j - i).toNat:=fun {ds} h=>by
  unfold iX at h
  split at h
  ·rename_i i j
   split at h
   ·rename_i l
    cases h
    simp only [Bool.and_eq_true] at l
    exact ⟨i,j,rfl,l.1,l.2,rfl⟩
   ·exact nsE h
  ·exact nsE h
 obtain ⟨i,j,a,hi,c,rfl⟩:=inv A
 match ys,a,f,a1 with
 | [],a,_,_=>cases a
 | [y],a,_,_=>exact absurd (congrArg List.length a) (by simp)
 | y :: z :: u :: r,a,_,_=>exact absurd (congrArg List.length a) (by simp)
 | [y,z],a,f,a1 =>
  have n:=(k.itm (f y Dq)).rep
  have s:=(k.itm (f z (Dr _ Dq))).rep
  have h1:y.d=.int i:=by injection a
  have h2:z.d=.int j:=by injection a with _ h;injection h
  rw [h1] at n
  rw [h2] at s
  have hi:=of_decide_eq_true hi
  have c:=of_decide_eq_true c
  refine ⟨i,j,by show [y.v,z.v]=_;rw [n.int_inv,s.int_inv],⟨hi.1,hi.2,c.1,c.2⟩,?_⟩
  exact q _ H1 [] [] g1 [] (k.sub (DE Ts T)) .nil (fun _ h=>by cases h) nF
theorem za (d:Gl X "range") (hm:X.mg "range"=none) (c:RA X G0 W0 [a] ms) (b:starEach [a] X.env=[(false,eval a X.env)]):RI X G0 W0 tg (.Call (.Name "range" p) [a] [] pos) (bf cn ms):=⟨PI.imp (tL d hm c.h b) fun _ _ _ h=>yA h⟩
theorem y9 (f:Gl X "range") (hm:X.mg "range"=none) (e:RA X G0 W0 [a,b] ms) (d:starEach [a,b] X.env=[(false,eval a X.env),(false,eval b X.env)]) (c:starEach [b] X.env=[(false,eval b X.env)]):RI X G0 W0 tg (.Call (.Name "range" p) [a,b] [] pos) (bf iX ms):=⟨PI.imp (tK f hm e.h d c) fun _ _ _ h=>yz h⟩
end
end L3
end
section
namespace L3
open PySem L2
section
variable {K:FG} {G G0:Gm} {W W0:D->Sto->Prop} {H H':Hp} {σ:St} {ρ ρ':Sto} {T T':List It3} {g:Nat->Option It3} {x y z:It3} {α β:Type} {X:Cx} {L:List Addr}
def kW (bnd:D->Sto->Option Sto) (m:EM):SM:=ae m fun r=>ae (cK r) fun p=>fun ρ=>(bnd p.1 ρ).map fun ρ1=>(.ok .nx,ρ1)
theorem Bf (k:Bnd K G0.pr tg bnd) (h:tS K G0 W0 (kW bnd m) E σ H):uY (tE K G0 W0 m) tg E σ H:=by
 refine h.use fun G W le ρ T g r ρ' w e q=>?_
 refine tE.seq le w e q.err fun ra ρ1 e1 v H1 ⟨Ts,g1,c,a1⟩=>?_
 obtain ⟨p,ρ2,g2,x,b,n,f1,_,_,i⟩:=a1.take c e1
 have a:=Wf.lowT (Ts:=[x]) n
 obtain ⟨ρ3,l,j⟩:=Dt.mp b
 cases j
 rw [<- i]
 exact k G H1 σ ρ2 _ T g2 (cG x) _ le.pr rfl a (by show bnd x.d ρ2=_;rw [f1];exact l) fun σ2 g3 f=>q _ _ _ f
theorem BL (c:RG X G0.pr tg bnd) (he:RE X G0 W0 e m) (d:swapsWithSole [tg] e pos.line X.env=pure false) (hw:swappedStores [tg] e X.env=pure none) (h1:(assignEach [tg] X.env).map (·.2)=[assign tg X.env]):RS X G0 W0 (.Assign [tg] e pos) (kW bnd m):=by
 obtain ⟨g,a,b⟩:=c.h
 exact ⟨PS.imp (wa he.h a d hw h1) fun _ _ _ h=>Bf b h⟩
theorem qc {i:Nat} {y:Str} (n:X.N.Nodup) (j:X.N[i]?=some y) (m:Loc X.env.scope y) (NY:List Str) (ix:List (Option Nat)) (k:X.calm=true) (hi:RI X G0 W0 tg iter im) (f:∀ s H C fp,PTs (aC X NY scope s H C fp) ifs (tT X.K (aV ix) noX cm)) (he:∀ s H C fp,RE (aC X NY scope s H C fp) (aV ix) noX elt em) (e:fM scope X.N X.env.scope NY ix=true) (d:Inj ix) (b:swapsWith (.ListComp elt [⟨tg,iter,ifs,0⟩] scope pos) (some (.Name y py)) spos.line X.env=pure true) (hf:X.fn y=true\/X.env.scope.names.lookup y=some .local) (g:∀ x,foldedSetIterable iter X.env x=pure x) (l:G0.pr i=false) (c:∃ a,Bnd X.K (aV ix).pr a bnd/\∀ s H C fp,PG (aC X NY scope s H C fp) tg a):RS X G0 W0 (.Assign [.Name y py] (.ListComp elt [⟨tg,iter,ifs,0⟩] scope pos) spos) (ba i (bx im bnd cm em ix)):=by
 obtain ⟨a,b1,b2⟩:=c
 exact ⟨PS.imp (qg n j m NY ix k hi.h b2 f (fun s H C fp=>(he s H C fp).h) e b hf g) fun _ _ _ h=>pX szl d b1 l h⟩
def isL:D->Bool
 | .lst _=>true
 | _=>false
theorem xb:∀ d v L H,isL d=true->Rep K H d v L->tyV K "list" v H:=fun d v L H h r=>by
 cases r with
 | lst ha _=>exact .inl ⟨rfl,_,SqL.of ha⟩
 | _=>cases h
def Av:D->List D->Option (D × D)
 | .lst xs,[d]=>if xs.length < 16777216 then some (.lst (xs ++ [d]),.non) else none
 | _,_=>none
theorem CD:MutD K rR Av:=fun a d l as H Q p r m na ra j e q=>by
 cases d with
 | lst xs =>
  obtain ⟨_,g,_,e1,s,k,rs⟩:=r.view
  cases e1
  cases s
  match as,e,ra,j with
  | [],e,_,_=>exact nsE e
  | _ :: _ :: _,e,_,_=>exact nsE e
  | [y],e,ra,j =>
   have e:(if xs.length < 16777216 then some (D.lst (xs ++ [y.d]),D.non) else none)=some p:=e
   split at e
   ·rename_i u
    cases e
    refine ⟨a,g,y.v,rfl,rfl,k,by rw [<- rs.len,<- szl];exact u,?_⟩
    have w:=ra y Dq
    have t:=j y Dq
    have ma:MutAt H a:=.inl ⟨_,k⟩
    have keep:∀ {d v L},Rep K H d v L->a ∉ L->Rep K (upd H a (.lst (g ++ [y.v]))) d v L:=fun {d v L} r n=>r.keep (M:=fun b=>b=a) (fun b o f h=>by rw [av h];exact f) (fun b e=>by rw [e];exact ma) fun b f e=>n (by rw [<- e];exact f)
    have keeps:Reps (Rep K (upd H a (.lst (g ++ [y.v])))) xs g l:=rs.keep (M:=fun b=>b=a) (fun b o f h=>by rw [av h];exact f) (fun b e=>by rw [e];exact ma) fun b f e=>na (by rw [<- e];exact f)
    exact q (.lst (g ++ [y.v])) (l ++ (y.L ++ [])) ⟨.non,.non,[],.z⟩ (.lst aQ (keeps.append (.cons (keep w t) .nil))) rfl (fun c i=>by
     rcases Dz.mp i with h | h
     ·exact .inl h
     ·rw [List.append_nil] at h;exact .inr ⟨y,Dq,h⟩) rfl rfl .non fun c i=>by cases i
   ·exact nsE e
 | _=>exact nsE e
def xw:D->List D->Option (D × D)
 | .lst xs,[.lst ys]=>if xs.length+ys.length<=16777216 then some (.lst (xs ++ ys),.non) else none
 | _,_=>none
theorem ext2 (a:D):xw (.lst xs) (a :: b :: r)=none:=by cases a <;> rfl
theorem CC:MutD K rO xw:=fun a d B as H Q p r m na ra k e q=>by
 cases d with
 | lst xs =>
  obtain ⟨_,l,_,e1,A,t,rs⟩:=r.view
  cases e1
  cases A
  match as,e,ra,k with
  | [],e,_,_=>exact nsE e
  | y :: _ :: _,e,_,_=>exact nsE ((ext2 y.d).symm.trans e)
  | [y],e,ra,k =>
   have u:=ra y Dq
   have s:=k y Dq
   obtain ⟨x,F,C,E⟩:=y
   dsimp only at u s e
   cases x with
   | lst ys =>
    obtain ⟨b,ws,v,rfl,rfl,i,g⟩:=u.view
    have e:(if xs.length+ys.length<=16777216 then some (D.lst (xs ++ ys),D.non) else none)=some p:=e
    split at e
    ·rename_i w
     cases e
     refine ⟨a,b,l,ws,rfl,rfl,t,i,by rw [<- rs.len,<- g.len,<- szl];exact w,?_⟩
     have ma:MutAt H a:=.inl ⟨_,t⟩
     have keeps:∀ {ds f L},Reps (Rep K H) ds f L->a ∉ L->Reps (Rep K (upd H a (.lst (l ++ ws)))) ds f L:=fun {ds f L} r n=>r.keep (M:=fun b=>b=a) (fun b o i h=>by rw [av h];exact i) (fun b e=>by rw [e];exact ma) fun b i e=>n (by rw [<- e];exact i)
     exact q (.lst (l ++ ws)) (B ++ v) ⟨.non,.non,[],.z⟩ (.lst aQ ((keeps rs na).append (keeps g fun h=>s (Dr _ h)))) rfl (fun c j=>by
      rcases Dz.mp j with h | h
      ·exact .inl h
      ·exact .inr ⟨_,Dq,Dr _ h⟩) rfl rfl .non fun c j=>by cases j
    ·exact nsE e
   | _=>exact nsE e
 | _=>exact nsE e
def nY:D->List D->Option (D × D)
 | .lst xs,[.int i,d]=>(ixN xs.length i).map fun j=>(.lst (xs.set j d),.non)
 | _,_=>none
theorem Reps.set:∀ {ds:List D} {b:List V} {L L':List Addr} {d:D} {v:V} (j:Nat),Reps (Rep K H) ds b L->Rep K H d v L'->∃ L2,Reps (Rep K H) (ds.set j d) (b.set j v) L2/\∀ c ∈ L2,c ∈ L\/c ∈ L'
 | _,_,_,_,_,_,j,.nil,_=>⟨[],.nil,fun c a=>by cases a⟩
 | _,_,_,L',_,_,0,.cons (L:=L1) (L':=L1') r rs,r'=>⟨L' ++ L1',.cons r' rs,fun c a=>by
  rcases Dz.mp a with h | h
  ·exact .inr h
  ·exact .inl (Dv _ h)⟩
 | _,_,_,L',_,_,j+1,.cons (L:=L1) (L':=L1') r rs,r'=>by
  obtain ⟨L2,h1,h2⟩:=Reps.set j rs r'
  refine ⟨L1 ++ L2,.cons r h1,fun c a=>?_⟩
  rcases Dz.mp a with h | h
  ·exact .inl (Du _ h)
  ·rcases h2 c h with h | h
   ·exact .inl (Dv _ h)
   ·exact .inr h
theorem set1 (a:D):nY (.lst xs) [a]=none:=by cases a <;> rfl
theorem set3' (a:D):nY (.lst xs) (a :: b :: c :: r)=none:=by cases a <;> rfl
theorem zS:MutD K (kc rK) nY:=fun a d C as H Q p r m na ra n e q=>by
 cases d with
 | lst xs =>
  obtain ⟨_,g,_,e1,A,u,rs⟩:=r.view
  cases e1
  cases A
  match as,e,ra,n with
  | [],e,_,_=>exact nsE e
  | [y],e,_,_=>exact nsE ((set1 y.d).symm.trans e)
  | y :: _ :: _ :: _,e,_,_=>exact nsE ((set3' y.d).symm.trans e)
  | [k,y],e,ra,n =>
   have t:=ra k Dq
   have B:=ra y (Dr _ Dq)
   have w:=n y (Dr _ Dq)
   obtain ⟨kd,F,G,E⟩:=k
   dsimp only at t
   cases kd with
   | int i =>
    obtain ⟨rfl,rfl⟩:=t.view
    obtain ⟨j,h1,h2⟩:=Dt.mp (show (ixN xs.length i).map (fun j=>(D.lst (xs.set j y.d),D.non))=some p from e)
    subst h2
    refine ⟨.int i,y.v,rfl,a,g,i,j,rfl,rfl,u,by rw [<- rs.len];exact h1,?_⟩
    have ma:MutAt H a:=.inl ⟨_,u⟩
    have s:Rep K (upd H a (.lst (g.set j y.v))) y.d y.v y.L:=B.keep (M:=fun b=>b=a) (fun b o f h=>by rw [av h];exact f) (fun b e=>by rw [e];exact ma) fun b f e=>w (by rw [<- e];exact f)
    have keeps:Reps (Rep K (upd H a (.lst (g.set j y.v)))) xs g C:=rs.keep (M:=fun b=>b=a) (fun b o f h=>by rw [av h];exact f) (fun b e=>by rw [e];exact ma) fun b f e=>na (by rw [<- e];exact f)
    obtain ⟨L2,h3,x⟩:=keeps.set j s
    exact q (.lst (g.set j y.v)) L2 ⟨.non,.non,[],.z⟩ (.lst aQ h3) rfl (fun c l=>(x c l).imp id fun h=>⟨y,Dr _ Dq,h⟩) rfl rfl .non fun c l=>by cases l
   | _=>exact nsE e
 | _=>exact nsE e
theorem rH {i:Nat} {x:Str} {id:String} (k:PlainAttrs Ty) (slot:Slot Ty nm id) (j:typeOf (.builtin id)=pure (.type "method_descriptor")) (hm:MtR X id r) (o:MutD X.K r f) (hok:∀ d v L H,ok d=true->Rep X.K H d v L->tyV X.K Ty v H) (l:PE X (.Name x pn) (pW i)) (m:RA X G0 W0 (e :: es) ms) (b:attributeBase (.Name x pn) nm X.env (eval (.Name x pn) X.env)=eval (.Name x pn) X.env) (g:((backTo cpos (starEach (e :: es) X.env)).all (fun x=>!x.1) && (backToKw cpos (keywordEach [] X.env)).all (fun x=>x.1.isSome) && decide ((e :: es).length+([]:List Keyword).length+(if ([]:List Keyword).isEmpty then 0 else 1) < 30))=true) (c:(apos.endLine == cpos.line)=true) (n:starEach (e :: es) X.env=(false,eval e X.env) :: starEach es X.env) (a:(backTo cpos (starEach es X.env)).any (·.1)=false):RE X G0 W0 (.Call (.Attribute (.Name x pn) nm apos) (e :: es) [] cpos) (t5 ok f i ms) :=
 ⟨PE.imp (AL k slot j hm l m.h b g c n a) fun _ _ _ h=>Bp o hok h⟩
theorem vF {i:Nat} {x:Str} (l:x5 X t) (g:MutD X.K (kc t) f) (j:PE X (.Name x pn) (pW i)) (c:RE X G0 W0 k mk) (d:RE X G0 W0 e mv) (m:∀ v,assign (.Subscript (.Name x pn) k p2) X.env v=(do
   let a <- holding [v] (eval (.Name x pn) X.env)
   let b <- holding [v,a] (eval k X.env)
   standAt p2
   holding [v,a,b] (setItem a b v)
   release [v,a,b] [])) (h1:swapsWithSole [.Subscript (.Name x pn) k p2] e pos.line X.env=pure false) (h2:swappedStores [.Subscript (.Name x pn) k p2] e X.env=pure none) (h3:(assignEach [.Subscript (.Name x pn) k p2] X.env).map (·.2)=[assign (.Subscript (.Name x pn) k p2) X.env]):RS X G0 W0 (.Assign [.Subscript (.Name x pn) k p2] e pos) (iU f i mk mv) :=
 ⟨PS.imp (wa d.h (Ca j c.h l m) h1 h2 h3) fun _ _ _ h=>A9 g h⟩
end
end L3
end
section
namespace L3
open PySem L2
section
variable {K:FG} {G G0:Gm} {W W0:D->Sto->Prop} {H H':Hp} {σ:St} {ρ ρ':Sto} {T T':List It3} {g:Nat->Option It3} {x y z:It3} {α β:Type} {X:Cx} {L:List Addr}
theorem vJ:PTs Y [] (tT K (aV ix) noX fg):=fun pins s σ H Q I h=>zm pins s σ H Q I (A7 h)
theorem vI (h:RT Y (aV ix) noX c m):PTs Y [c] (tT Y.K (aV ix) noX m):=zk h.h
theorem xg (h:(ix.filterMap id).Nodup):Inj ix:=by
 intro j k i a b
 induction ix generalizing j k with
 | nil=>simp at a
 | cons o ix ih =>
  grind
def vp:SM:=fun _=>none
theorem vH:RS X G0 W0 st vp:=⟨PS.imp vY fun _ _ _ h=>by
 refine h.use fun G W le ρ T g r ρ' w e q=>?_
 cases e⟩
theorem uW (ho:OpD K r f) (n:OpD K r' f') (h:tE K G0 W0 (eI f f' ma mb mc) σ H Q):pY r r' (tE K G0 W0 ma) (tE K G0 W0 mb) (tE K G0 W0 mc) σ H Q:=by
 refine h.use fun G W le ρ T g o ρ' w e q=>?_
 refine tE.seq le w e q.err fun ra ρ1 e1 va H1 ⟨Ts,g1,w1,a1⟩=>?_
 refine tE.seq le w1 e1 q.err fun rb ρ2 e2 vb H2 ⟨Us,g2,j,a2⟩=>?_
 obtain ⟨da,d1,e3⟩:=aB e2
 obtain ⟨db,d2,e4⟩:=aB e3
 obtain ⟨k,e5,B⟩:=i7 e4
 obtain ⟨N,S,f1,f2⟩:=a1.item j (fun x i=>Dv _ (Du _ i)) d1
 obtain ⟨V,M,f3,f4⟩:=a2.item j (fun x i=>Du _ i) d2
 obtain ⟨p,R,e8⟩:=DW.mp e5
 have Z:=xT e8
 subst f1 f2 f4
 rw [<- f3] at R
 refine ho N V H2 _ p (j.itm S).arg (j.itm M).arg R fun u H3 L ud uf=>?_
 have X:=j.push L fun c h=>j.kids (ys:=[N,V]) (fun y d=>by
  rcases Dw.mp d with h | d
  ·rw [h];exact S
  ·rw [DX.mp d];exact M) h
 have E:=L.rep
 rw [ud,Z] at E
 refine ⟨k,E.bl_eq.1,?_⟩
 have I:=X.sub (List.sublist_cons_self u _)
 cases k with
 | false =>
  cases B
  have b:=I.sub (T':=T) ((DE Ts T).trans (DE Us _))
  exact q _ _ (b.const (.bl false))
 | true =>
  simp only [if_true] at B ⊢
  refine tE.seq le I B q.err fun rc ρ5 e9 vc H5 ⟨m,U,b,a5⟩=>?_
  obtain ⟨D,d3,A⟩:=aB e9
  obtain ⟨dc,Y,t⟩:=aB A
  obtain ⟨p',a,rfl,rfl⟩:=bp t
  obtain ⟨l,F,f5,f6⟩:=a2.item b (fun x i=>Dv _ (Du _ i)) d3
  obtain ⟨P,J,f7,f8⟩:=a5.item b (fun x i=>Du _ i) Y
  cases v:f' D dc with
  | none=>rw [v] at a;exact nsE a
  | some s =>
   rw [v] at a
   cases a
   have O:=b
   rw [show m ++ (Us ++ (Ts ++ T))=(m ++ (Us ++ Ts)) ++ T by simp] at O
   have z:Itm ((m ++ (Us ++ Ts)) ++ T) U l:=by simpa using F
   have C:Itm ((m ++ (Us ++ Ts)) ++ T) U P:=by simpa using J
   rw [<- f6,<- f8]
   refine n l P H5 Q s (b.itm F).arg (b.itm J).arg (by rw [f5,f7];exact v) (l6 O (fun y d=>?_) q)
   rcases Dw.mp d with h | d
   ·rw [h];exact z
   ·rw [DX.mp d];exact C
theorem vO (k:OpR X (compareOp op) r) (hd:OpD X.K r f) (i:OpR X (compareOp op') r') (d:OpD X.K r' f') (j:RE X G0 W0 a ma) (e:RE X G0 W0 b mb) (g:RE X G0 W0 c mc) (h:PE X a (tE X.K G0 W0 ma)->PE X b (tE X.K G0 W0 mb)->PE X c (tE X.K G0 W0 mc)->PE X (.Compare a [op,op'] [b,c] pos) (pY r r' (tE X.K G0 W0 ma) (tE X.K G0 W0 mb) (tE X.K G0 W0 mc))):RE X G0 W0 (.Compare a [op,op'] [b,c] pos) (eI f f' ma mb mc):=⟨PE.imp (h j.h e.h g.h) fun _ _ _ h=>uW hd d h⟩
theorem iV (d:OpR X (compareOp op) r) (hd:OpD X.K r f) (e:RE X G0 W0 a ma) (c:RE X G0 W0 b mb) (hm:behindInMarks op b=false):RT X G0 W0 (.Compare a [op] [b] pos) (cB (ah f ma mb)):=⟨PT.imp (zn d e.h c.h hm) fun _ _ _ h=>j3 hd (tT_b h)⟩
def fL (n:Nat):List D->List D
 | []=>[]
 | d :: ds=>.tup [.int n,d] :: fL (n+1) ds
theorem jg:∀ {ds:List D} {n i:Nat},(fL n ds)[i]?=(ds[i]?).map fun d=>.tup [.int ((n+i:Nat):Int),d]
 | [],n,i=>by simp [fL]
 | d :: ds,n,0=>by simp [fL]
 | d :: ds,n,i+1=>by
  show (fL (n+1) ds)[i]?=_
  rw [jg]
  simp only [List.getElem?_cons_succ]
  rw [show n+1+i=n+(i+1) by lia]
theorem jf:∀ {ds:List D} {n:Nat},(fL n ds).length=ds.length
 | [],_=>rfl
 | d :: ds,n=>by simp [fL,jf]
def kC (ms:M3 (List R3)):IM:=ae ms fun rs=>ae (cb rs) fun ds=>aN (match ds with
 | [.lst xs]=>some (rs,fL 0 xs)
 | _=>none)
theorem yC (h:tI K G0 W0 (kC ms) σ H R):AX K (tA K G0 W0 ms) σ H R:=by
 obtain ⟨G,W,le,ρ,T,g,o,ρ',w,e,q⟩:=h
 have l:∀ x,o=.error x->W x ρ':=fun x n=>by subst n;exact q
 refine tA.seq le w e l fun rs ρ1 e1 j H1 Ts g1 t a1=>?_
 obtain ⟨ds,d1,E⟩:=bu e1
 obtain ⟨p,m,rfl,rfl⟩:=bp E
 have inv:∃ xs,ds=[.lst xs]/\p=(rs,fL 0 xs):=by
  split at m
  ·cases m;exact ⟨_,rfl,rfl⟩
  ·exact nsE m
 obtain ⟨xs,rfl,rfl⟩:=inv
 match rs,d1,a1,q with
 | [],d1,_,_=>cases d1
 | r :: r' :: rs,d1,_,_ =>
  obtain ⟨_,_,f⟩:=aB (k:=fun d=>ae (cb (r' :: rs)) fun ds=>aJ (d :: ds)) d1
  obtain ⟨ab,e6,e7⟩:=bu f
  obtain ⟨_,_,e8⟩:=aB (k:=fun d=>ae (cb rs) fun ds=>aJ (d :: ds)) e6
  obtain ⟨Y,_,e9⟩:=bu e8
  cases e9
  cases e7
 | [r],d1,a1,q =>
  obtain ⟨d,B,f⟩:=aB (k:=fun d=>ae (cb []) fun ds=>aJ (d :: ds)) d1
  have hd:d=.lst xs:=by
   have f:some ((.ok [d],ρ'):Except D (List D) × Sto)=some (.ok [.lst xs],ρ'):=f
   cases f;rfl
  subst hd
  cases a1 with
  | @cons _ v Ts1 _ vs1 Us1 a as =>
   cases as with
   | nil =>
    obtain ⟨y,F,y2,Q⟩:=Ar.item2 (T:=T) (by simpa using t) a B
    have hy:Itm (([] ++ Ts1) ++ T) g1 y:=by
     rcases Q with ⟨i,_,ei⟩ | h
     ·exact .inl ⟨i,ei⟩
     ·exact .inr (by simpa using Du T h)
    have P:=(t.itm hy).arg
    have Z:∀ J,Walk K J H1 [y] (fL 0 xs)->R J H1:=fun J hw=>q J H1 [v] ([] ++ Ts1) g1 [y] t (.cons a .nil) (fun z hz=>by
     rw [DX.mp hz]
     rcases Q with h | h
     ·exact .inl h
     ·exact .inr (by simpa using h)) hw
    clear q
    subst y2
    have A:=P
    obtain ⟨yd,yv,yL,yf⟩:=y
    obtain ⟨V,oo⟩:=P
    dsimp only at V F
    subst F
    cases V with
    | @lst _ pa j La ha rs =>
     refine ⟨pa,rfl,⟨_,SqL.of ha⟩,Z _ ?_⟩
     obtain ⟨ws,h1,h2,h3⟩:=Reps.split rs
     refine ⟨ws,fun x n=>⟨(h3 x n).1,(h3 x n).2.1,fun c C=>kA (y:=⟨.lst xs,.ref pa,pa :: La,yf⟩) Dq A rfl rfl c ((h3 x n).2.2 c C)⟩,fun M H' hm I N=>?_⟩
     have sq:SqL K H' pa j:=SqL.of (I pa _ ha (N _ Dq pa Dq))
     refine ⟨fun i d hd=>?_,by rw [jf];exact ⟨j,sq,by rw [<- rs.len];exact DH _⟩⟩
     rw [jg] at hd
     obtain ⟨U,s,rfl⟩:=Dt.mp hd
     have hw:∃ u,ws[i]?=some u/\u.d=U:=by
      rw [<- h1,DG] at s
      obtain ⟨u,a,b⟩:=Dt.mp s
      exact ⟨u,a,b⟩
     obtain ⟨u,O,ud⟩:=hw
     have S:j[i]?=some u.v:=by rw [<- h2,DG,O];rfl
     have hu:=DD O
     refine ⟨⟨j,u.v,sq,S⟩,fun x ax ⟨Tt,yv,e1,E,m,B⟩=>?_⟩
     have f:=B j sq
     rw [S] at f
     cases f
     subst e1 m
     have X:Rep K H' u.d u.v u.L:=(h3 u hu).2.1.keep I hm fun b hb=>N _ Dq b (Dr _ ((h3 u hu).2.2 b hb))
     refine ⟨⟨.tup [.int ((0+i:Nat):Int),U],.ref Tt,[] ++ (u.L ++ []),.z⟩,wz E (.cons (L:=[]) (by rw [DP];exact .int _) (.cons (by rw [<- ud];exact X) .nil)) (fun c C=>⟨u,hu,by simpa using C⟩),rfl,rfl,rfl⟩
theorem zc {k:Nat} (d:Gl X "enumerate") (hm:X.mg "enumerate"=none) (b:RA X G0 W0 [a] ms) (c:starEach [a] X.env=[(false,eval a X.env)]):RI X G0 W0 (.Tuple elts k tp) (.Call (.Name "enumerate" p) [a] [] pos) (kC ms):=⟨PI.imp (zy d hm b.h c) fun _ _ _ h=>yC h⟩
end
end L3
namespace L3
theorem zr {i:Nat} (h:mask.length<=i):prM mask i=false:=by
 unfold prM
 rw [List.getElem?_eq_none h]
end L3
end
section
namespace L3
open PySem L2
structure Bl (mg:Str->Option Value):Prop where
 len:mg "len"=none
 range:mg "range"=none
 abs:mg "abs"=none
 divmod:mg "divmod"=none
 enumerate:mg "enumerate"=none
 tuple:mg "tuple"=none
 isinstance:mg "isinstance"=none
 int:mg "int"=none
 bool:mg "bool"=none
 all:mg "all"=none
 str:mg "str"=none
 max:mg "max"=none
 min:mg "min"=none
 list:mg "list"=none
 dict:mg "dict"=none
 repr:mg "repr"=none
 sorted:mg "sorted"=none
 set:mg "set"=none
 zip:mg "zip"=none
 reversed:mg "reversed"=none
theorem b_len:bootBuiltins "len"=some (.builtin "len"):=by decide +kernel
theorem b_abs:bootBuiltins "abs"=some (.builtin "abs"):=by decide +kernel
theorem xS:bootBuiltins "divmod"=some (.builtin "divmod"):=by decide +kernel
theorem sK:bootBuiltins "tuple"=some (.type "tuple"):=by decide +kernel
theorem nz:bootBuiltins "isinstance"=some (.builtin "isinstance"):=by decide +kernel
theorem b_int:bootBuiltins "int"=some (.type "int"):=by decide +kernel
theorem De:bootBuiltins "bool"=some (.type "bool"):=by decide +kernel
theorem b_all:bootBuiltins "all"=some (.builtin "all"):=by decide +kernel
theorem A0:bootBuiltins "max"=some (.builtin "max"):=by decide +kernel
theorem b_min:bootBuiltins "min"=some (.builtin "min"):=by decide +kernel
theorem Dc:bootBuiltins "list"=some (.type "list"):=by decide +kernel
theorem Dd:bootBuiltins "dict"=some (.type "dict"):=by decide +kernel
theorem pN:bootBuiltins "sorted"=some (.builtin "sorted"):=by decide +kernel
theorem b_set:bootBuiltins "set"=some (.type "set"):=by decide +kernel
end L3
end
section
namespace L3
open PySem L2
section
variable {K:FG} {G G0:Gm} {W W0:D->Sto->Prop} {H H':Hp} {σ:St} {ρ ρ':Sto} {T T':List It3} {g:Nat->Option It3} {x y z:It3} {α β:Type} {X:Cx} {L:List Addr}
theorem yE (h:tE K G0 W0 m σ H Q) (f:∀ v H,Q v H->Q' v H):tE K G0 W0 m σ H Q':=by
 refine h.use fun G W le ρ T g o ρ' w e q=>?_
 refine tE.mk le w e ?_
 cases o with
 | ok r=>exact fun v H' g=>f v H' (q v H' g)
 | error x=>exact q
def lU:D->Option String
 | .non=>some "NoneType" | .bl _=>some "bool" | .int _=>some "int" | .str _=>some "str"
 | .tup _=>some "tuple" | .lst _=>some "list" | .fls _=>some "list" | .dk _=>some "dict" | .dt _=>some "dict" | .exc _ _=>none
def iF (t:String) (d:D):Option (D × Fl):=(lU d).map fun k=>(.bl (i9 k t),.z)
theorem Rep.kind (r:Rep K H d v L) (e:lU d=some k):KindOf K H v k:=by
 cases r with
 | non=>cases e;exact .non
 | bl b=>cases e;exact .bool b
 | int i=>cases e;exact .int i
 | str s=>cases e;exact .str s
 | tup h _=>cases e;exact .tuple (SqT.of h)
 | lst h _=>cases e;exact .list (SqL.of h)
 | lstF h _=>cases e;exact .list h.sq
 | dK h _ _=>cases e;exact .dK h
 | dT h _ _=>cases e;exact .dT h
 | exc _ _=>cases e
 | excV _ _ _ _ _ _ _ _=>cases e
theorem mG (j:bM X (.builtin "isinstance") (fun xs H Q=>∃ x k,xs=[x,.ty t]/\KindOf X.K H x k/\Q (.bl (i9 k t)) H)) (l:Gl X "isinstance") (hm:X.mg "isinstance"=none) (g:PE X (.Name tn pT) (tC (.ty t))) (i:RE X G0 W0 a ma) (b:starEach [a,.Name tn pT] X.env=(false,eval a X.env) :: starEach [.Name tn pT] X.env) (c:starEach [.Name tn pT] X.env=(false,eval (.Name tn pT) X.env) :: starEach [] X.env) (d:(backTo pos (starEach [.Name tn pT] X.env)).any (·.1)=false):RE X G0 W0 (.Call (.Name "isinstance" p) [a,.Name tn pT] [] pos) (mUn (iF t) ma) :=
 ⟨PE.imp (kg j l hm nz (f9 i.h (f9 g mN c) b) (by decide) (by decide) b d) fun σ H Q h=>by
  have h:=AC (r:=fun x H Q=>∃ k,KindOf X.K H x k/\Q (.bl (i9 k t)) H) (fun a H Q p ra e q=>by
   obtain ⟨k,h1,h2⟩:=Dt.mp e
   subst h2
   exact ⟨k,ra.rep.kind h1,q ⟨.bl (i9 k t),.bl (i9 k t),[],.z⟩ H (di (.bl _)) rfl rfl⟩) h
  refine yE h fun x H1 ⟨k,f,q⟩=>?_
  exact ⟨x,k,rfl,f,q⟩⟩
def wZ:D->Option Key
 | .int i=>some (.inl i)
 | .str s=>some (.inr s)
 | _=>none
def cp:List D->Option (List Key)
 | []=>some []
 | d :: ds=>match wZ d,cp ds with
  | some k,some ks=>some (k :: ks)
  | _,_=>none
theorem t8 (r:Rep K H d v L) (e:wZ d=some k):v=kV k:=by
 cases r <;> cases e <;> rfl
theorem dC:∀ {ds:List D} {a:List V} {L:List Addr} {ks:List Key},Reps (Rep K H) ds a L->cp ds=some ks->a=ks.map kV
 | _,_,_,ks,.nil,e=>by cases e;rfl
 | _,_,_,ks,.cons (d:=d) (ds:=ds) r rs,e=>by
  unfold cp at e
  cases h1:wZ d with
  | none=>rw [h1] at e;exact nsE e
  | some k =>
   cases h2:cp ds with
   | none=>rw [h1,h2] at e;exact nsE e
   | some ks' =>
    rw [h1,h2] at e
    cases e
    rw [t8 r h1,dC rs h2];rfl
def cA (kvs:List (List Key × D)) (k:List Key):Option D:=(kvs.find? fun a=>decide (a.1=k)).map (·.2)
def ff (kvs:List (List Key × D)) (k:List Key) (v:D):List (List Key × D) :=
 if (kvs.any fun a=>decide (a.1=k))=true then kvs.map (fun a=>if a.1=k then (a.1,v) else a) else kvs ++ [(k,v)]
theorem kF:∀ {kvs:List (List Key × D)} {ps:List (List Key × V)} {L:List Addr} {k:List Key} {d:D},kvs.map (·.1)=ps.map (·.1)->Reps (Rep K H) (kvs.map (·.2)) (ps.map (·.2)) L->cA kvs k=some d->∃ v L',gu ps k=some v/\Rep K H d v L'/\∀ c ∈ L',c ∈ L
 | [],ps,L,k,d,hk,r,e=>by cases e
 | f :: kvs,[],L,k,d,hk,r,e=>by cases hk
 | f :: kvs,p :: ps,L,k,d,hk,r,e=>by
  have b:f.1=p.1/\kvs.map (·.1)=ps.map (·.1):=by simpa using hk
  generalize i:(f :: kvs).map (·.2)=xs at r
  generalize j:(p :: ps).map (·.2)=ys at r
  cases r with
  | nil=>cases i
  | cons a as =>
   cases i
   cases j
   unfold cA at e
   rw [List.find?_cons] at e
   by_cases h:f.1=k
   ·rw [DM h] at e
    cases e
    exact ⟨_,_,fj (b.1.symm.trans h),a,fun c g=>Du _ g⟩
   ·rw [DN h] at e
    obtain ⟨v,L',h1,h2,h3⟩:=kF b.2 as e
    exact ⟨v,L',by rw [fk (fun z=>h (b.1.trans z))];exact h1,h2,fun c g=>Dv _ (h3 c g)⟩
def jE:D->D->Option (D × Fl)
 | .dt kvs,.tup ks=>match cp ks with
  | some k=>(cA kvs k).map fun d=>(d,.z)
  | none=>none
 | _,_=>none
def rP:R2:=fun x y H Q=>∃ a v,x=.ref a/\DGet H a y (some v)/\Q v H
theorem zN:OpD K rP jE:=fun a b H Q p ra rb e q=>by
 obtain ⟨da,w,x,j⟩:=a
 obtain ⟨db,A,r,u⟩:=b
 have f:=ra
 obtain ⟨ra,s⟩:=ra
 obtain ⟨rb,ob⟩:=rb
 dsimp only at ra rb e
 cases da with
 | dt kvs =>
  obtain ⟨g,ps,o,rfl,rfl,m,l,rs⟩:=ra.view
  cases db with
  | tup ks =>
   obtain ⟨B,ws,rfl,n,h⟩:=rb.view
   have e:(match cp ks with | some k=>(cA kvs k).map fun d=>(d,Fl.z) | none=>none)=some p:=e
   cases h1:cp ks with
   | none=>rw [h1] at e;exact nsE e
   | some k =>
    rw [h1] at e
    obtain ⟨d,h2,h3⟩:=Dt.mp (show (cA kvs k).map (fun d=>(d,Fl.z))=some p from e)
    subst h3
    have hw:=dC h h1
    subst hw
    obtain ⟨v,L',g1,g2,g3⟩:=kF l rs h2
    refine ⟨g,v,rfl,by rw [<- g1];exact DGet.t m n,q ⟨d,v,L',.z⟩ H (mP g2 fun c i=>?_) rfl rfl⟩
    exact kA (y:=⟨.dt kvs,.ref g,g :: o,j⟩) Dq f rfl rfl c (g3 c i)
  | _=>exact nsE e
 | _=>exact nsE e
open PySem.Spec PyProof.Rows in
theorem z9 (hu:X.A.units+1 < cLine):IxR X rP:=by
 intro value slice pins s σ H x y v u Q I i j h f
 obtain ⟨a,w,rfl,g,q⟩:=h
 cases i
 have c:=ph I g
 unfold subscriptTail
 refine Dm ?_
 rw [getitemInPython_of_ne c.not_modules]
 refine Dm (wpAny_specialOf c PySem.F.slot_dict_getitem.lookup ?_)
 have fin:wpAny (model X.prog X.w) X.A (subscripted slice false (.ref a) u) (fun r e=>wpAny (model X.prog X.w) X.A (letTemporaryGo value (.ref a) r >>= fun _=>pure r) (EP X pins σ Q) X.xe e) X.xe s:=by
  rw [f]
  exact wpAny_operating (uo hu I g j fun k s3 d b=>Dm (wpAny_letTemporaryGo (Dn ⟨w,H,d,b,q⟩)))
 first
  | exact Dn (Dm fin)
  | exact Dm (Dn (Dm fin))
  | exact Dm fin
abbrev aG:=orD ixD jE
theorem Cr:OpD K (fun x y H Q=>(vU K x y H Q\/vT K x y H Q)\/rP x y H Q) aG:=od_ix.or zN
theorem CQ (hu:X.A.units+1 < cLine):IxR X (fun x y H Q=>(vU X.K x y H Q\/vT X.K x y H Q)\/rP x y H Q):=ix_ok.or (z9 hu)
def mT:EM:=aJ (.val (.dt []) .u)
theorem vM:RE X G0 W0 (.Dict [] [] pos) mT:=⟨PE.imp wl fun σ H Q h=>by
 refine h.use fun G W le ρ T g o ρ' w e q=>?_
 cases e
 intro p a
 refine q _ _ (Wf.done (Us:=[]) (ys:=[]) (x:=⟨.dt [],.ref p,[p],.u⟩) w (fun _ h=>(by cases h)) ⟨aX a,.dT aQ rfl .nil,fun c b=>?_,fun _=>⟨rfl,p,[],rfl,rfl,(by simp),a⟩⟩)
 rw [DX.mp b];exact .inl a⟩
def js:D->List D->Option (D × D)
 | .dt kvs,[.tup ks,v]=>match cp ks with
  | some k=>if kvs.length < 16777216 then some (.dt (ff kvs k v),.non) else none
  | none=>none
 | _,_=>none
def rL:Dk:=fun o i v H Q=>∃ a H',o=.ref a/\DPut H a i v H'/\Q H'
theorem vi (hu:X.A.units+1 < cLine):x5 X rL:=by
 intro pins s σ H o i v f j u Q I c b e h
 obtain ⟨a,H',rfl,g,q⟩:=h
 cases c
 exact um hu I g b e fun s' d=>⟨H',d,q⟩
theorem ot:∀ {kvs:List (List Key × D)} {ps:List (List Key × V)} {L L':List Addr} {k:List Key} {d:D} {v:V},kvs.map (·.1)=ps.map (·.1)->Reps (Rep K H) (kvs.map (·.2)) (ps.map (·.2)) L->Rep K H d v L' ->
  ∃ L2,Reps (Rep K H) ((kvs.map fun b=>if b.1=k then (b.1,d) else b).map (·.2)) ((ps.map fun b=>if b.1=k then (b.1,v) else b).map (·.2)) L2/\(∀ c ∈ L2,c ∈ L\/c ∈ L')
 | [],[],L,L',k,d,v,hk,r,rd=>⟨[],.nil,fun c f=>by cases f⟩
 | [],_ :: _,_,_,_,_,_,hk,_,_=>by cases hk
 | _ :: _,[],_,_,_,_,_,hk,_,_=>by cases hk
 | b :: kvs,p :: ps,L,L',k,d,v,hk,r,rd=>by
  have e:b.1=p.1/\kvs.map (·.1)=ps.map (·.1):=by simpa using hk
  generalize g:(b :: kvs).map (·.2)=xs at r
  generalize i:(p :: ps).map (·.2)=ys at r
  cases r with
  | nil=>cases g
  | @cons _ _ L1 _ _ L1' a as =>
   cases g
   cases i
   obtain ⟨L2,h1,h2⟩:=ot (k:=k) e.2 as rd
   by_cases h:b.1=k
   ·refine ⟨L' ++ L2,?_,fun c f=>?_⟩
    ·simp only [DL,if_pos h,if_pos (e.1.symm.trans h)]
     exact .cons rd h1
    ·rcases Dz.mp f with z | z
     ·exact .inr z
     ·rcases h2 c z with y | y
      ·exact .inl (Dv _ y)
      ·exact .inr y
   ·refine ⟨L1 ++ L2,?_,fun c f=>?_⟩
    ·simp only [DL,if_neg h,if_neg (fun z=>h (e.1.trans z))]
     exact .cons a h1
    ·rcases Dz.mp f with z | z
     ·exact .inl (Du _ z)
     ·rcases h2 c z with y | y
      ·exact .inl (Dv _ y)
      ·exact .inr y
theorem xU {kvs:List (List Key × D)} {ps:List (List Key × V)} (b:kvs.map (·.1)=ps.map (·.1)):(kvs.any fun a=>decide (a.1=k))=ps.any fun a=>decide (a.1=k):=by
 have h1:(kvs.any fun a=>decide (a.1=k))=(kvs.map (·.1)).any fun x=>decide (x=k):=by rw [List.any_map];rfl
 have h2:(ps.any fun a=>decide (a.1=k))=(ps.map (·.1)).any fun x=>decide (x=k):=by rw [List.any_map];rfl
 rw [h1,h2,b]
theorem oO {kvs:List (List Key × α)} {d:α}:(kvs.map fun a=>if a.1=k then (a.1,d) else a).map (·.1)=kvs.map (·.1):=by
 rw [Eg]
 refine Eh fun a _=>?_
 show (if a.1=k then (a.1,d) else a).1=a.1
 split <;> rfl
theorem put1 (a:D):js (.dt kvs) [a]=none:=by cases a <;> rfl
theorem put3' (a:D):js (.dt kvs) (a :: b :: c :: r)=none:=by cases a <;> rfl
theorem zT:MutD K (kc rL) js:=fun a d u as H Q p r m na ra n e q=>by
 cases d with
 | dt kvs =>
  obtain ⟨_,ps,_,e1,C,x,j,rs⟩:=r.view
  cases e1
  cases C
  match as,e,ra,n with
  | [],e,_,_=>exact nsE e
  | [y],e,_,_=>exact nsE ((put1 y.d).symm.trans e)
  | y :: _ :: _ :: _,e,_,_=>exact nsE ((put3' y.d).symm.trans e)
  | [k,y],e,ra,n =>
   have w:=ra k Dq
   have E:=ra y (Dr _ Dq)
   have B:=n y (Dr _ Dq)
   obtain ⟨kd,I,J,G⟩:=k
   dsimp only at w
   cases kd with
   | tup ks =>
    obtain ⟨F,ws,rfl,f,s⟩:=w.view
    have e:(match cp ks with | some k=>if kvs.length < 16777216 then some (D.dt (ff kvs k y.d),D.non) else none | none=>none)=some p:=e
    cases h1:cp ks with
    | none=>rw [h1] at e;exact nsE e
    | some key =>
     rw [h1] at e
     dsimp only at e
     split at e
     ·rename_i A
      cases e
      have hw:=dC s h1
      subst hw
      have hlen:kvs.length=ps.length:=by have:=congrArg List.length j;simpa using this
      refine ⟨.ref F,y.v,rfl,a,_,rfl,DPut.t x f (by rw [<- hlen,<- szl];exact A),?_⟩
      have ma:MutAt H a:=.inr (.inr ⟨_,x⟩)
      have g:Rep K (upd H a (.dT (eC ps key y.v))) y.d y.v y.L:=E.keep (M:=fun b=>b=a) (fun b o f h=>by rw [av h];exact f) (fun b e=>by rw [e];exact ma) fun b f e=>B (by rw [<- e];exact f)
      have keeps:Reps (Rep K (upd H a (.dT (eC ps key y.v)))) (kvs.map (·.2)) (ps.map (·.2)) u:=rs.keep (M:=fun b=>b=a) (fun b o f h=>by rw [av h];exact f) (fun b e=>by rw [e];exact ma) fun b f e=>na (by rw [<- e];exact f)
      have fin:∃ l,Reps (Rep K (upd H a (.dT (eC ps key y.v)))) ((ff kvs key y.d).map (·.2)) ((eC ps key y.v).map (·.2)) l/\(∀ c ∈ l,c ∈ u\/c ∈ y.L)/\(ff kvs key y.d).map (·.1)=(eC ps key y.v).map (·.1):=by
       generalize upd H a (HO.dT (eC ps key y.v))=H2 at keeps g ⊢
       unfold ff eC
       rw [xU j]
       split
       ·obtain ⟨L2,g1,g2⟩:=ot (k:=key) j keeps g
        exact ⟨L2,g1,g2,by rw [oO,oO];exact j⟩
       ·refine ⟨u ++ (y.L ++ []),?_,fun c i=>?_,by rw [List.map_append,List.map_append,j];rfl⟩
        ·rw [List.map_append,List.map_append]
         exact keeps.append (.cons g .nil)
        ·rcases Dz.mp i with z | z
         ·exact .inl z
         ·rw [List.append_nil] at z;exact .inr z
      obtain ⟨l,g1,g2,g3⟩:=fin
      exact q (.dT (eC ps key y.v)) l ⟨.non,.non,[],.z⟩ (.dT aQ g3 g1) rfl (fun c i=>(g2 c i).imp id fun h=>⟨y,Dr _ Dq,h⟩) rfl rfl .non fun c i=>by cases i
     ·exact nsE e
   | _=>exact nsE e
 | _=>exact nsE e
def qm (f g:D->List D->Option (D × D)) (a:D) (b:List D):Option (D × D):=match f a b with
 | some p=>some p
 | none=>g a b
theorem MutD.or {f g:D->List D->Option (D × D)} (h:MutD K r f) (h':MutD K r' g):MutD K (fun x y H Q=>r x y H Q\/r' x y H Q) (qm f g):=fun a d c as H Q p r m na ra i e q=>by
 unfold qm at e
 cases b:f d (as.map (·.d)) with
 | some p'=>rw [b] at e;cases e;exact .inl (h a d c as H Q _ r m na ra i b q)
 | none=>rw [b] at e;exact .inr (h' a d c as H Q p r m na ra i e q)
abbrev nZ:=qm nY js
theorem wI:MutD K (kc fun o i v H Q=>rK o i v H Q\/rL o i v H Q) nZ:=fun a d b as H Q p r m na ra c e q=>by
 rcases MutD.or zS zT a d b as H Q p r m na ra c e q with ⟨k,v,h1,h2⟩ | ⟨k,v,h1,h2⟩
 ·exact ⟨k,v,h1,.inl h2⟩
 ·exact ⟨k,v,h1,.inr h2⟩
theorem rq (hu:X.A.units+1 < cLine):x5 X (fun o i v H Q=>rK o i v H Q\/rL o i v H Q):=by
 intro pins s σ H o i v d e u Q I b a c h
 rcases h with h | h
 ·exact vg pins s σ H o i v d e u Q I b a c h
 ·exact vi hu pins s σ H o i v d e u Q I b a c h
end
end L3
end
section
namespace L3
open PySem L2
section
open PySem.Spec PyProof.Rows HT
variable {prog:Program} {w:World} {A:Around} {E:Value->Shared->Prop} {s:Shared}
theorem gg {lo hi:Option Int} (a:IsTup s.heap t items) (e:s.heap.IsSliceOf sl vl vu .none) (pl:IsPart vl lo) (pu:IsPart vu hi) (hw:sIx items.size 0 lo=0/\sIx items.size items.size hi=items.size) (h:Q (.ref t) s) (hsz:items.size<=sizeLine):wpAny (model prog w) A (getItem (.ref t) (.ref sl)) Q E s:=by
 obtain ⟨os,c,b,f⟩:=id e
 have d:s.TypeIs (.ref sl) "slice":=⟨os,c,b⟩
 unfold getItem
 try with_reducible refine Dp ?_
 first | refine Dm (Dn ?_) | skip
 refine Dm (wpAny_sequenceKey a.typeIs (by decide) ?_)
 refine Dm (wpAny_callSpecial?_slot (name:=Str.ofString "__getitem__") a.typeIs PyProof.Rows.slot_tuple_getitem
  (wpAny_call_entry PyProof.Rows.slot_tuple_getitem a.typeIs entry_tuple_getitem ?_ (args_tuple_getitem _ _)))
 show wpAny _ _ (Builtin.Tuple.tupleItemsOf (.ref t) >>= _) _ _ s
 refine Dm (tupleItemsOf_ a ?_)
 refine Dm (wpAny_typeOf d ?_)
 rw [if_pos (by decide)]
 refine Dm (dP e pl pu ?_)
 show wpAny _ _ (if (((sIx items.size 0 lo:Nat):Int) == 0 && (1:Int) == 1 && (sIx items.size items.size hi - sIx items.size 0 lo) == items.size)=true then _ else _) _ _ s
 rw [if_pos (by simp [hw.1,hw.2])]
 refine Dm ?_
 unfold Builtin.Tuple.tupleIsExact
 refine Dm (wpAny_typeOf a.typeIs ?_)
 refine Dn ?_
 rw [if_pos (by decide)]
 exact Dm (wpAny_rule (Dn ⟨_,rfl,Dn h⟩))
end
section
variable {K:FG} {G G0:Gm} {W W0:D->Sto->Prop} {H H':Hp} {σ:St} {ρ ρ':Sto} {T T':List It3} {g:Nat->Option It3} {x y z:It3} {α β:Type} {X:Cx} {L:List Addr}
def vS (K:FG):V->Option Int->Option Int->Hp->VK->Prop:=fun x lo hi H Q=>∃ a xs,x=.ref a/\SqT K H a xs/\(HT.sIx xs.length 0 lo=0/\HT.sIx xs.length xs.length hi=xs.length)/\Q (.ref a) H
theorem yI:SlR X (vS X.K):=by
 intro pins s σ H x v g f lo hi sl Q I d c pl pu h
 obtain ⟨a,xs,rfl,e,hw,q⟩:=h
 cases d
 obtain ⟨its,r,b,hz⟩:=I.tuple e
 have hlen:its.toArray.size=xs.length:=by rw [DK];exact r.length.symm
 refine ⟨"tuple",_,PyProof.Rows.slot_tuple_getitem.lookup,b.typeIs,?_⟩
 exact gg b c pl pu (by rw [hlen];exact hw) ⟨.ref a,H,I,rfl,q⟩ (by rw [hlen];exact hz)
def asI:D->Option Int
 | .int i=>some i
 | _=>none
def eU:M3 (Option Int):=aJ none
def dQ (m:EM):M3 (Option Int):=ae m fun r=>ae (der r) fun d=>aN ((asI d).map some)
def EndP (K:FG) (G:Gm) (W:D->Sto->Prop) (σ:St) (T:List It3) (ρ':Sto) (Q:Option Int->Hp->Prop):Except D (Option Int)->Prop
 | .ok b=>∀ H' g',Wf K G H' σ ρ' T g'->Q b H'
 | .error e=>W e ρ'
def tP (K:FG) (G0:Gm) (W0:D->Sto->Prop) (m:M3 (Option Int)):TO:=fun σ H Q=>∃ G W,Le K G W G0 W0/\∃ ρ T g r ρ',Wf K G H σ ρ T g/\m ρ=some (r,ρ')/\EndP K G W σ T ρ' Q r
structure RP (X:Cx) (G0:Gm) (W0:D->Sto->Prop) (e:Option Expr) (m:M3 (Option Int)):Prop where
 h:PO X e (tP X.K G0 W0 m)
theorem PO.imp (h:PO X e t) (f:∀ σ H Q,t' σ H Q->t σ H Q):PO X e t':=fun pins s σ H Q I q=>h pins s σ H Q I (f σ H Q q)
theorem y7:RP X G0 W0 none eU:=⟨PO.imp zu fun σ H Q h=>by
 obtain ⟨G,W,le,ρ,T,g,r,ρ',w,e,q⟩:=h
 cases e
 exact q _ _ w⟩
theorem y6 (h:RE X G0 W0 e m):RP X G0 W0 (some e) (dQ m):=⟨PO.imp (zt h.h) fun σ H Q h=>by
 obtain ⟨G,W,le,ρ,T,g,r,ρ',w,e,q⟩:=h
 have a:∀ x,r=.error x->W x ρ':=fun x f=>by subst f;exact q
 refine tE.seq le w e a fun ra ρ1 e1 v H1 ⟨Ts,g1,b,a1⟩=>?_
 obtain ⟨d,d1,k⟩:=aB e1
 obtain ⟨o,n,rfl,rfl⟩:=bp k
 obtain ⟨i,l,p⟩:=Dt.mp n
 subst p
 obtain ⟨y,j,f1,f2⟩:=a1.item b (fun x f=>Du _ f) d1
 have c:=(b.itm j).rep
 rw [f1] at c
 have hd:d=.int i:=by cases d <;> cases l;rfl
 rw [hd] at c
 refine ⟨i,by rw [<- f2];exact c.int_inv,q _ _ (b.sub (DE Ts T))⟩⟩
def mSl (f:D->Option Int->Option Int->Option (D × Fl)) (ma:EM) (pl pu:M3 (Option Int)):EM:=ae ma fun ra=>ae pl fun lo=>ae pu fun hi=>ae (der ra) fun d=>aN ((f d lo hi).map fun p=>R3.val p.1 p.2)
def SlD (K:FG) (r:V->Option Int->Option Int->Hp->VK->Prop) (f:D->Option Int->Option Int->Option (D × Fl)):Prop:=∀ (a:It3) (lo hi:Option Int) (H:Hp) (Q:VK) (p:D × Fl),Arg K H a->f a.d lo hi=some p ->
 (∀ w H',New K H H' (cJ [a]) w->w.d=p.1->w.f=p.2->Q w.v H')->r a.v lo hi H Q
theorem tP.seq (le:Le K G W G0 W0) (w:Wf K G H σ ρ T g) (e:ae ma k ρ=some (r,ρ')) (he:∀ x,r=.error x->W x ρ') (h:∀ b ρ1,k b ρ1=some (r,ρ')->∀ H1 g1,Wf K G H1 σ ρ1 T g1->P b H1):tP K G0 W0 ma σ H P:=by
 unfold ae at e
 cases q:ma ρ with
 | none=>rw [q] at e;exact nsE e
 | some p =>
  obtain ⟨o,ρ1⟩:=p
  rw [q] at e
  cases o with
  | error x=>cases e;exact ⟨G,W,le,ρ,T,g,.error x,ρ',w,q,he x rfl⟩
  | ok ra=>exact ⟨G,W,le,ρ,T,g,.ok ra,ρ1,w,q,h ra ρ1 e⟩
theorem tE_sl (hd:SlD K r f) (h:tE K G0 W0 (mSl f ma pl pu) σ H Q):tSl r (tE K G0 W0 ma) (tP K G0 W0 pl) (tP K G0 W0 pu) σ H Q:=by
 refine h.use fun G W le ρ T g o ρ' w e q=>?_
 refine tE.seq le w e q.err fun ra ρ1 e1 v H1 ⟨Ts,g1,k,a1⟩=>?_
 refine tP.seq le k e1 q.err fun lo ρ2 j H2 g2 t=>?_
 refine tP.seq le t j q.err fun hi ρ3 m u g3 b=>?_
 obtain ⟨d,d1,l⟩:=aB m
 obtain ⟨p,a,rfl,rfl⟩:=bp l
 obtain ⟨y,i,f1,f2⟩:=a1.item b (fun x n=>Du _ n) d1
 subst f1 f2
 cases c:f y.d lo hi with
 | none=>rw [c] at a;exact nsE a
 | some s =>
  rw [c] at a
  cases a
  exact hd y lo hi u Q s (b.itm i).arg c (l6 b (fun z hz=>by rw [DX.mp hz];exact i) q)
theorem Reps.take:∀ {ds:List D} {b:List V} {L:List Addr} (n:Nat),Reps (Rep K H) ds b L->∃ L',Reps (Rep K H) (ds.take n) (b.take n) L'/\∀ c ∈ L',c ∈ L
 | _,_,_,0,_=>⟨[],by simpa using Reps.nil,fun c a=>by cases a⟩
 | _,_,_,n+1,.nil=>⟨[],by simpa using Reps.nil,fun c a=>by cases a⟩
 | _,_,_,n+1,.cons (L:=L1) r rs=>by
  obtain ⟨L',h1,h2⟩:=Reps.take n rs
  exact ⟨L1 ++ L',by simpa using Reps.cons r h1,fun c a=>by
   rcases Dz.mp a with h | h
   ·exact Du _ h
   ·exact Dv _ (h2 c h)⟩
theorem Reps.drop:∀ {ds:List D} {b:List V} {L:List Addr} (n:Nat),Reps (Rep K H) ds b L->∃ L',Reps (Rep K H) (ds.drop n) (b.drop n) L'/\∀ c ∈ L',c ∈ L
 | _,_,L,0,r=>⟨L,by simpa using r,fun c a=>a⟩
 | _,_,_,n+1,.nil=>⟨[],by simpa using Reps.nil,fun c a=>by cases a⟩
 | _,_,_,n+1,.cons r rs=>by
  obtain ⟨L',h1,h2⟩:=Reps.drop n rs
  exact ⟨L',by simpa using h1,fun c a=>Dv _ (h2 c a)⟩
theorem Reps.cut (lo hi:Option Int) (r:Reps (Rep K H) ds vs L):∃ L',Reps (Rep K H) (jN ds lo hi) (pj vs lo hi) L'/\∀ c ∈ L',c ∈ L:=by
 unfold jN pj
 rw [<- r.len]
 obtain ⟨d,h1,h2⟩:=r.drop (HT.sIx ds.length 0 lo)
 obtain ⟨L2,h3,b⟩:=h1.take (HT.sIx ds.length ds.length hi - HT.sIx ds.length 0 lo)
 exact ⟨L2,h3,fun c a=>h2 c (b c a)⟩
def slD:D->Option Int->Option Int->Option (D × Fl)
 | .lst xs,lo,hi=>some (.lst (jN xs lo hi),.u)
 | .fls xs,lo,hi=>some (.lst (jN xs lo hi),.u)
 | .tup xs,lo,hi=>some (.tup (jN xs lo hi),.z)
 | _,_,_=>none
theorem sd_sl:SlD K (fun x lo hi H Q=>BY K x lo hi H Q\/(BW K x lo hi H Q\/vS K x lo hi H Q)) slD:=fun a lo hi H Q p ra e q=>by
 obtain ⟨da,m,k,j⟩:=a
 have f:=ra
 obtain ⟨ra,n⟩:=ra
 dsimp only at ra e
 cases da with
 | lst xs =>
  obtain ⟨b,d,l,rfl,rfl,g,rs⟩:=ra.view
  cases e
  obtain ⟨L',h1,h2⟩:=rs.cut lo hi
  exact .inl ⟨b,d,rfl,SqL.of g,fun p i=>q ⟨_,.ref p,p :: L',.u⟩ _ (qu i h1 fun c h=>kA (y:=⟨.lst xs,.ref b,b :: l,j⟩) Dq f rfl rfl c (h2 c h)) rfl rfl⟩
 | fls xs =>
  obtain ⟨b,d,rfl,g,rs⟩:=ra.view
  cases e
  obtain ⟨L',h1,h2⟩:=rs.cut lo hi
  exact .inl ⟨b,d,rfl,g.sq,fun p i=>q ⟨_,.ref p,p :: L',.u⟩ _ (qu i h1 fun c h=>i8 (y:=⟨.fls xs,.ref b,k,j⟩) Dq f rfl c (h2 c h)) rfl rfl⟩
 | tup xs =>
  obtain ⟨b,d,rfl,g,rs⟩:=ra.view
  cases e
  by_cases hw:HT.sIx d.length 0 lo=0/\HT.sIx d.length d.length hi=d.length
  ·have h:jN xs lo hi=xs:=by
    unfold jN
    rw [rs.len,hw.1,hw.2,<- rs.len]
    simp
   rw [h] at q
   exact .inr (.inr ⟨b,d,rfl,SqT.of g,hw,q ⟨.tup xs,.ref b,k,.z⟩ H (mP (.tup g rs) (i8 (y:=⟨.tup xs,.ref b,k,j⟩) Dq f rfl)) rfl rfl⟩)
  ·obtain ⟨L',h1,h2⟩:=rs.cut lo hi
   exact .inr (.inl ⟨b,d,rfl,SqT.of g,hw,fun p i=>q ⟨_,.ref p,L',.z⟩ _ (wz i h1 fun c h=>i8 (y:=⟨.tup xs,.ref b,k,j⟩) Dq f rfl c (h2 c h)) rfl rfl⟩)
 | _=>exact nsE e
theorem Bv:SlR X (fun x lo hi H Q=>BY X.K x lo hi H Q\/(BW X.K x lo hi H Q\/vS X.K x lo hi H Q)):=sl_list.or (sl_tup.or yI)
theorem vL (he:RE X G0 W0 e m) (a:RP X G0 W0 lo pl) (hu:RP X G0 W0 hi pu):RE X G0 W0 (.Subscript e (.Slice lo hi none p2) pos) (mSl slD m pl pu):=⟨PE.imp (wg Bv he.h a.h hu.h) fun _ _ _ h=>tE_sl sd_sl h⟩
end
end L3
end
section
namespace L3
open PySem L2
mutual
def pyD:D->Option PyData
 | .non=>some .none
 | .bl b=>some (.bool b)
 | .int i=>some (.int i)
 | .str x=>some (.str x)
 | .tup xs=>(kY xs).map .tuple
 | .lst xs=>(kY xs).map .list
 | .fls xs=>(kY xs).map .list
 | .dk _=>none
 | .dt _=>none
 | .exc _ _=>none
def kY:List D->Option (List PyData)
 | []=>some []
 | d :: ds=>match pyD d,kY ds with
  | some p,some ps=>some (p :: ps)
  | _,_=>none
end
section
variable {K:FG} {H:Hp} {Ks:Addr->Prop} {d:D} {v:V} {L:List Addr} {X:Cx}
theorem Rep.dv (r:Rep K H d v L):∀ p,pyD d=some p->DV K H v p:=by
 refine Rep.rec (motive_1:=fun d v _ _=>∀ p,pyD d=some p->DV K H v p) (motive_2:=fun ds c _ _=>∀ ps,kY ds=some ps->DVs K H c ps) ?_ ?_ ?_ ?_ ?_ ?_ ?_ ?_ ?_ ?_ ?_ ?_ ?_ r
 ·intro p e;unfold pyD at e;cases e;exact .non
 ·intro _ p e;unfold pyD at e;cases e;exact .bl _
 ·intro _ p e;unfold pyD at e;cases e;exact .int _
 ·intro _ p e;unfold pyD at e;cases e;exact .str _
 ·intro xs a c L h _ b p e
  unfold pyD at e
  obtain ⟨ps,e1,rfl⟩:=Dt.mp e
  exact .tup (SqT.of h) (b ps e1)
 ·intro xs a c L h _ b p e
  unfold pyD at e
  obtain ⟨ps,e1,rfl⟩:=Dt.mp e
  exact .lst (SqL.of h) (b ps e1)
 ·intro xs a c L h _ b p e
  unfold pyD at e
  obtain ⟨ps,e1,rfl⟩:=Dt.mp e
  exact .lst h.sq (b ps e1)
 ·intro _ _ _ _ _ _ _ _ p e;unfold pyD at e;exact nsE e
 ·intro _ _ _ _ _ _ _ _ p e;unfold pyD at e;exact nsE e
 ·intros;rename_i e;unfold pyD at e;exact nsE e
 ·intros;rename_i e;unfold pyD at e;exact nsE e
 ·intro ps e;unfold kY at e;cases e;exact .nil
 ·intro d v L ds c L' _ _ f g ps e
  unfold kY at e
  cases h1:pyD d with
  | none=>rw [h1] at e;exact nsE e
  | some p =>
   cases h2:kY ds with
   | none=>rw [h1,h2] at e;exact nsE e
   | some qs=>rw [h1,h2] at e;cases e;exact .cons (f p h1) (g qs h2)
def eqP (a b:D):Option Bool:=match pyD a,pyD b with
 | some p,some q=>if p.canLay0 && q.canLay0 && decide (min p.depth q.depth<=30) then some (PyData.eqv p q) else none
 | _,_=>none
def eqA (a b:D):Option Bool:=match eqS a b with
 | some k=>some k
 | none=>eqP a b
abbrev eqX (a b:D):Option (D × Fl):=(eqA a b).map fun k=>(.bl k,.z)
abbrev neX (a b:D):Option (D × Fl):=(eqA a b).map fun k=>(.bl (!k),.z)
def rEqP:R2:=fun x y H Q=>∃ p q,DV X.K H x p/\DV X.K H y q/\p.canLay0=true/\q.canLay0=true/\min p.depth q.depth<=30/\Q (.bl (PyData.eqv p q)) H
def rNeP:R2:=fun x y H Q=>∃ p q,DV X.K H x p/\DV X.K H y q/\p.canLay0=true/\q.canLay0=true/\min p.depth q.depth<=30/\Q (.bl (!PyData.eqv p q)) H
theorem wu (hu:X.A.units+64 < cLine):OpR X (compareOp .Eq) (fun x y H Q=>rEq x y H Q\/rEqP (X:=X) x y H Q):=by
 intro pins s σ H x y v u Q I a b h
 rcases h with h | ⟨p,q,h1,h2,h3,d,e,c⟩
 ·exact op_eq pins s σ H x y v u Q I a b h
 ·obtain ⟨as,ra⟩:=DV.reads I h1 a
  obtain ⟨bs,rb⟩:=DV.reads I h2 b
  exact PySem.SeqAt.compareEq_reads ra rb h3 d (by lia) ⟨.bl _,H,I,rfl,c⟩
theorem Cl (hu:X.A.units+64 < cLine):OpR X (compareOp .NotEq) (fun x y H Q=>rNe x y H Q\/rNeP (X:=X) x y H Q):=by
 intro pins s σ H x y v u Q I a b h
 rcases h with h | ⟨p,q,h1,h2,h3,d,e,c⟩
 ·exact op_ne pins s σ H x y v u Q I a b h
 ·obtain ⟨as,ra⟩:=DV.reads I h1 a
  obtain ⟨bs,rb⟩:=DV.reads I h2 b
  exact PySem.SeqAt.compareNe_reads ra rb h3 d (by lia) ⟨.bl _,H,I,rfl,c⟩
theorem sA (e:eqP a b=some k):∃ p q,pyD a=some p/\pyD b=some q/\p.canLay0=true/\q.canLay0=true/\min p.depth q.depth<=30/\k=PyData.eqv p q:=by
 unfold eqP at e
 cases h1:pyD a with
 | none=>rw [h1] at e;exact nsE e
 | some p =>
  cases h2:pyD b with
  | none=>rw [h1,h2] at e;exact nsE e
  | some q =>
   rw [h1,h2] at e
   dsimp only at e
   split at e
   ·rename_i h
    cases e
    simp only [Bool.and_eq_true,decide_eq_true_eq] at h
    exact ⟨p,q,rfl,rfl,h.1.1,h.1.2,h.2,rfl⟩
   ·exact nsE e
theorem wx:OpD X.K (fun x y H Q=>rEq x y H Q\/rEqP (X:=X) x y H Q) eqX:=fun a b H Q p ra rb e q=>by
 obtain ⟨k,h1,h2⟩:=Dt.mp e
 subst h2
 unfold eqA at h1
 cases c:eqS a.d b.d with
 | some k' =>
  rw [c] at h1
  cases h1
  obtain ⟨s,g⟩:=xy ra.rep rb.rep c
  exact .inl ⟨s,by rw [<- g];exact q ⟨.bl k,.bl k,[],.z⟩ H (di (.bl k)) rfl rfl⟩
 | none =>
  rw [c] at h1
  obtain ⟨p,f,e1,h,j,i,l,rfl⟩:=sA h1
  exact .inr ⟨p,f,ra.rep.dv p e1,rb.rep.dv f h,j,i,l,q ⟨.bl _,.bl _,[],.z⟩ H (di (.bl _)) rfl rfl⟩
theorem Cs:OpD X.K (fun x y H Q=>rNe x y H Q\/rNeP (X:=X) x y H Q) neX:=fun a b H Q p ra rb e q=>by
 obtain ⟨k,h1,h2⟩:=Dt.mp e
 subst h2
 unfold eqA at h1
 cases c:eqS a.d b.d with
 | some k' =>
  rw [c] at h1
  cases h1
  obtain ⟨s,g⟩:=xy ra.rep rb.rep c
  exact .inl ⟨s,by rw [<- g];exact q ⟨.bl (!k),.bl (!k),[],.z⟩ H (di (.bl _)) rfl rfl⟩
 | none =>
  rw [c] at h1
  obtain ⟨p,f,e1,h,j,i,l,rfl⟩:=sA h1
  exact .inr ⟨p,f,ra.rep.dv p e1,rb.rep.dv f h,j,i,l,q ⟨.bl _,.bl _,[],.z⟩ H (di (.bl _)) rfl rfl⟩
theorem xz (h:pyD a=some p) (b:p.canLay0=true) (hd:p.depth<=30):eqP a a=some true:=by
 unfold eqP
 rw [h]
 simp [b,hd,PySem.SeqAt.eqv_refl p b]
end
end L3
end
section
namespace L3
open PySem L2
theorem C0 {k:Nat} {nn:Nat} (F:Fun K x x st f fd) (S:FnScope N ps (ag st)) (c:mask.length=ps.length) (b:N.length=nn) (body:∀ (a:Value) (A:Around) (outer:List Env) (s:Shared) (H:Hp) (E:XK) (f:Addr) (G:Gm),Room k (A.deeper (PyProof.Rows.envOfC x (ag st) s.heap.objs.size f a))->G.pr=prM mask->RSs (pi CX0 P w K mg base N x (ag st) f a A outer s H E).nox G noX (aH st) m) :
  FnOk P w K mg base CX0 (k+1) f fd ps (sY K (fnM mask nn m)):=by
 refine F.ok S (fun l H Q E h=>?_) fun a A outer s H l Q E j h=>?_
 ·obtain ⟨e,p,fs,rfl,_,_,g,_⟩:=h
  unfold fnM at g
  grind
 ·have hle:mask.length<=nn:=by
   rw [c,<- b]
   have:=congrArg List.length S.pre
   rw [DT] at this
   omega
  obtain ⟨G,d,i⟩:=su hle h
  subst b
  exact ⟨_,(body a A outer s H E f G j d).h,i⟩
def u3 (K:FG):Sp:=fun b H Q _=>∃ (a:Addr) (ns:List Int),b=[.ref a]/\SqL K H a (ns.map V.int)/\Ax H/\ns.length<=63/\∀ H',Q (.bl true) H'
theorem lK:∀ ns:List Int,Reps (Rep K H) (ns.map D.int) (ns.map V.int) []
 | []=>.nil
 | n :: ns=>.cons (L:=[]) (.int n) (lK ns)
theorem z5 (b:∀ ns:List Int,ns.length<=63->∃ fs,F [(.fls (ns.map .int),.z)]=some (.ok (.bl true,.z),fs)) (h:u3 K vs H Q E):sY K F vs H Q E:=by
 obtain ⟨a,ns,rfl,f,d,j,q⟩:=h
 obtain ⟨fs,e⟩:=b ns j
 have c:FzL K H a (ns.map V.int):=by
  rcases f with (h | h) | h
  ·rcases d a with z | ⟨o,xs,z⟩
   ·rw [h] at z;cases z
   ·rw [h] at z;cases z
  ·exact .inl h
  ·exact .inr h
 refine ⟨[⟨.fls (ns.map .int),.ref a,[],.z⟩],(.bl true,.z),fs,rfl,fun p i=>?_,.cons (fun _ h=>by cases h) .nil,e,fun x qs H' B g k _=>?_⟩
 ·rw [DX.mp i]
  exact ⟨.lstF c (lK ns),fun h=>absurd rfl h⟩
 ·have r:=B.rep
  rw [g] at r
  have inv:∀ {v:V} {L:List Addr},Rep K H' (.bl true) v L->v=.bl true:=fun r=>by cases r;rfl
  rw [inv r]
  exact q H'
end L3
end
section
namespace L3
open PySem L2
def ky (ok:D->Bool) (f:List D->Option (D × Fl)) (c:EM) (ms:M3 (List R3)):EM:=ae c fun a=>ae (der a) fun b=>if ok b then ae ms fun rs=>ae (cb (a :: rs)) fun ds=>aN ((f ds).map fun p=>R3.val p.1 p.2) else fun _=>none
section
variable {K:FG} {G G0:Gm} {W W0:D->Sto->Prop} {H H':Hp} {σ:St} {ρ ρ':Sto} {T T':List It3} {g:Nat->Option It3} {x y z:It3} {α β:Type} {X:Cx} {v:V} {d:D} {L:List Addr}
theorem yF (z:cM K (fun xs H Q=>∃ x m,xs=x :: m/\r x m H Q) f) (hok:∀ d v L H,ok d=true->Rep K H d v L->tyV K Ty v H) (h:tE K G0 W0 (ky ok f mo ms) σ H Q) :
  tBM K Ty r (tE K G0 W0 mo) (tA K G0 W0 ms) σ H Q:=by
 refine h.use fun G W le ρ T g o ρ' w e q=>?_
 refine tE.seq le w e q.err fun I ρ1 e1 u H1 ⟨Ts,g1,k,a1⟩=>?_
 obtain ⟨t,d1,a⟩:=aB e1
 cases j:ok t with
 | false=>rw [j] at a;exact nsE a
 | true =>
  rw [j] at a
  obtain ⟨y0,A,f0,f1⟩:=a1.item k (fun x l=>Du _ l) d1
  refine ⟨hok t u _ H1 j (by rw [<- f0,<- f1];exact (k.itm A).rep),?_⟩
  refine tA.seq le k a q.err fun rs ρ2 F m H2 Us g2 b a2=>?_
  obtain ⟨ds,d2,E⟩:=bu F
  obtain ⟨p,c,rfl,rfl⟩:=bp E
  rw [<- List.append_assoc] at b
  obtain ⟨ys,n,f2,C⟩:=(Ars.cons a1 a2).items b (fun x l=>Du _ l) d2
  subst f2
  cases i:f (ys.map (·.d)) with
  | none=>rw [i] at c;exact nsE c
  | some s =>
   rw [i] at c
   cases c
   obtain ⟨J,B,h1,h2⟩:=z ys H2 Q s (fun y D=>(b.itm (n y D)).arg) i (l6 b n q)
   rw [C] at h1
   cases h1
   exact h2
theorem ze {id:String} (k:PlainAttrs Ty) (slot:Slot Ty nm id) (i:typeOf (.builtin id)=pure (.type "method_descriptor")) (hm:MtR X id r) (p:cM X.K (fun xs H Q=>∃ x j,xs=x :: j/\r x j H Q) f) (hok:∀ d v L H,ok d=true->Rep X.K H d v L->tyV X.K Ty v H) (l:RE X G0 W0 o mo) (m:RA X G0 W0 (e :: es) ms) (b:attributeBase o nm X.env (eval o X.env)=eval o X.env) (g:((backTo cpos (starEach (e :: es) X.env)).all (fun x=>!x.1) && (backToKw cpos (keywordEach [] X.env)).all (fun x=>x.1.isSome) && decide ((e :: es).length+([]:List Keyword).length+(if ([]:List Keyword).isEmpty then 0 else 1) < 30))=true) (c:(apos.endLine == cpos.line)=true) (n:starEach (e :: es) X.env=(false,eval e X.env) :: starEach es X.env) (a:(backTo cpos (starEach es X.env)).any (·.1)=false):RE X G0 W0 (.Call (.Attribute o nm apos) (e :: es) [] cpos) (ky ok f mo ms) :=
 ⟨PE.imp (AL k slot i hm l.h m.h b g c n a) fun _ _ _ h=>yF p hok h⟩
def bj:List D->Option (List Int)
 | []=>some []
 | .int i :: ds=>(bj ds).map (i :: ·)
 | _=>none
theorem gc:∀ {ds:List D} {ns:List Int},bj ds=some ns->ds=ns.map D.int
 | [],ns,e=>by cases e;rfl
 | d :: ds,ns,e=>by
  cases d <;> try (exact nsE e)
  rename_i b
  obtain ⟨r,h1,h2⟩:=Dt.mp (show (bj ds).map (b :: ·)=some ns from e)
  subst h2
  rw [gc h1];rfl
theorem Reps.ints:∀ {ns:List Int} {a:List V} {L:List Addr},Reps (Rep K H) (ns.map D.int) a L->a=ns.map V.int
 | [],_,_,.nil=>rfl
 | b :: bs,_,_,.cons r rs=>by
  rw [Reps.ints rs]
  cases r;rfl
def leastI:List Int->Option Int
 | []=>none
 | x :: xs=>some (xs.foldl (fun a b=>if b < a then b else a) x)
def rX:List Int->Option Int
 | []=>none
 | x :: xs=>some (xs.foldl (fun a b=>if a < b then b else a) x)
theorem pc:∀ (xs:List Int) (x:Int),(xs.foldl (fun a b=>if b < a then b else a) x) ∈ x :: xs/\∀ n ∈ x :: xs,(xs.foldl (fun a b=>if b < a then b else a) x)<=n
 | [],x=>⟨Dq,fun n h=>by simp at h;subst h;exact Int.le_refl _⟩
 | y :: xs,x=>by
  obtain ⟨h1,h2⟩:=pc xs (if y < x then y else x)
  rw [List.foldl_cons]
  refine ⟨?_,fun n c=>?_⟩
  ·rcases Dw.mp h1 with h | h
   ·rw [h];split <;> simp
   ·exact Dr _ (Dr _ h)
  ·have h3:=h2 _ Dq
   have d:(if y < x then y else x)<=x/\(if y < x then y else x)<=y:=by split <;> lia
   rcases Dw.mp c with h | c
   ·subst h;exact Int.le_trans h3 d.1
   ·rcases Dw.mp c with h | c
    ·subst h;exact Int.le_trans h3 d.2
    ·exact h2 n (Dr _ c)
theorem eK:∀ (xs:List Int) (x:Int),(xs.foldl (fun a b=>if a < b then b else a) x) ∈ x :: xs/\∀ n ∈ x :: xs,n<=(xs.foldl (fun a b=>if a < b then b else a) x)
 | [],x=>⟨Dq,fun n h=>by simp at h;subst h;exact Int.le_refl _⟩
 | y :: xs,x=>by
  obtain ⟨h1,h2⟩:=eK xs (if x < y then y else x)
  rw [List.foldl_cons]
  refine ⟨?_,fun n c=>?_⟩
  ·rcases Dw.mp h1 with h | h
   ·rw [h];split <;> simp
   ·exact Dr _ (Dr _ h)
  ·have h3:=h2 _ Dq
   have d:x<=(if x < y then y else x)/\y<=(if x < y then y else x):=by split <;> lia
   rcases Dw.mp c with h | c
   ·subst h;exact Int.le_trans d.1 h3
   ·rcases Dw.mp c with h | c
    ·subst h;exact Int.le_trans d.2 h3
    ·exact h2 n (Dr _ c)
theorem wE {m:Int} (h:rX ns=some m):ns ≠ []/\∀ k,k ∈ ns->(∀ n ∈ ns,n<=k)->k=m:=by
 cases ns with
 | nil=>exact nsE h
 | cons x xs =>
  cases h
  obtain ⟨h1,h2⟩:=eK xs x
  grind
end
end L3
end
section
namespace L3
open PySem L2
end L3
end
section
namespace L3
open PySem L2
section
variable {K:FG} {G G0:Gm} {W W0:D->Sto->Prop} {H H':Hp} {σ:St} {ρ ρ':Sto} {T T':List It3} {g:Nat->Option It3} {x y z:It3} {α β:Type} {X:Cx} {v:V} {d:D} {L:List Addr}
def AH (g:List Int->Option Int):D->D->Option (D × Fl)
 | .lst xs,.non=>(bj xs).map fun ns=>match g ns with
  | some m=>(.int m,.z)
  | none=>(.non,.z)
 | .lst xs,.int k=>(bj xs).map fun ns=>match g ns with
  | some m=>(.int m,.z)
  | none=>(.int k,.z)
 | _,_=>none
abbrev zV:=AH rX
theorem zI {g:List Int->Option Int} (i:∀ ns m,g ns=some m->ns ≠ []/\∀ k,k ∈ ns->P ns k->k=m) (h0:∀ ns,g ns=none->ns=[]):OpD K (fun x d H Q=>rM K P x d H Q) (AH g):=fun a b H Q p ra rb e q=>by
 obtain ⟨da,w,o,v⟩:=a
 obtain ⟨db,y,s,u⟩:=b
 obtain ⟨ra,t⟩:=ra
 obtain ⟨rb,ob⟩:=rb
 dsimp only at ra rb e
 cases da with
 | lst xs =>
  obtain ⟨h,A,o,rfl,rfl,l,rs⟩:=ra.view
  have key:∀ (f:D) (dv:V),Rep K H f dv []->((bj xs).map fun ns=>match g ns with | some m=>((.int m,.z):D × Fl) | none=>(f,.z))=some p->rM K P (.ref h) dv H Q:=fun f dv n e=>by
   obtain ⟨ns,h1,h2⟩:=Dt.mp e
   have:=gc h1
   subst this
   have:=rs.ints
   subst this
   refine ⟨h,ns,rfl,SqL.of l,fun r=>?_,fun m hm j=>?_⟩
   ·cases c:g ns with
    | some m=>exact absurd r (i ns m c).1
    | none =>
     rw [c] at h2
     subst h2
     exact q ⟨f,dv,[],.z⟩ H (di n) rfl rfl
   ·cases c:g ns with
    | none=>rw [h0 ns c] at hm;cases hm
    | some m' =>
     rw [c] at h2
     subst h2
     rw [(i ns m' c).2 m hm j]
     exact q ⟨.int m',.int m',[],.z⟩ H (di (.int _)) rfl rfl
  cases db with
  | non =>
   obtain ⟨rfl,rfl⟩:=rb.view
   exact key .non .non .non e
  | int k =>
   obtain ⟨rfl,rfl⟩:=rb.view
   exact key (.int k) (.int k) (.int k) e
  | _=>exact nsE e
 | _=>first | exact nsE e | (cases db <;> exact nsE e)
theorem zM:OpD K (fun x d H Q=>rM K (fun ns m=>∀ n ∈ ns,n<=m) x d H Q) zV:=zI (fun _ _=>wE) fun ns h=>by cases ns with | nil=>rfl | cons=>cases h
theorem BT {id:String} {e d:Expr} {r:V->V->Hp->VK->Prop} (b:∀ {pins:List (Addr × Obj)} {s:Shared} {σ:St} {H:Hp} {x d:V} {u l:Value} {Q:VK},Inv X pins σ H s->RelV x u->RelV d l->r x d H Q->wpAny (model X.prog X.w) X.A (call (.builtin id) [u] [("default",l)]) (EP X pins σ Q) X.xe s) (m:OpD X.K (fun x d H Q=>r x d H Q) f) (o:Gl X nm) (hm:X.mg nm=none) (q:bootBuiltins nm=some (.builtin id)) (he:RE X G0 W0 e ma) (hd:RE X G0 W0 d mb) (t:nm ≠ "__name__") (i:(nm == ("__debug__":Str))=false) (n:backTo pos (starEach [e] X.env)=(false,eval e X.env) :: backTo pos (starEach [] X.env)) (g:backTo pos (starEach [] X.env)=[]) (a:(backTo pos (starEach [e] X.env)).any (·.1)=false) (c:(backToKw pos (keywordEach [⟨some "default",d,kpos⟩] X.env)).all (·.1.isSome)=true) (j:(backToKw pos (keywordEach [⟨some "default",d,kpos⟩] X.env)).any (·.1.isNone)=false) (k:(backToKw pos (keywordEach [⟨some "default",d,kpos⟩] X.env)).filterMap (·.1)=(["default"]:List Str)) :
  RE X G0 W0 (.Call (.Name nm p) [e] [⟨some "default",d,kpos⟩] pos) (ah f ma mb):=⟨PE.imp (Cg b o hm q he.h hd.h t i n g a c j k) fun _ _ _ h=>j3 m h⟩
theorem Reps.rep (r:Reps (Rep K H) ds vs L):∀ n:Nat,∃ L',Reps (Rep K H) (List.replicate n ds).flatten (List.replicate n vs).flatten L'/\∀ c ∈ L',c ∈ L
 | 0=>⟨[],.nil,fun _ h=>by cases h⟩
 | n+1=>by
  obtain ⟨L',h1,h2⟩:=Reps.rep r n
  refine ⟨L ++ L',?_,fun c a=>?_⟩
  ·rw [List.replicate_succ,List.replicate_succ,List.flatten_cons,List.flatten_cons];exact r.append h1
  ·rcases Dz.mp a with h | h
   ·exact h
   ·exact h2 c h
def yh (i j:Int):Prop:=0 < j/\j < 1267650600228229401496703205376
theorem wr:OpR X (binaryOp .FloorDiv) (rI yh fun i j=>.int (i / j)):=opI fun i j _ _ _ _ _ a q=>by
 have h1:(0:Int) < j:=a.1
 have h2:j < 1267650600228229401496703205376:=a.2
 refine PyProof.Rows.floordiv_int (by lia) (by rw [Int.fdiv_eq_ediv_of_nonneg i (by lia)];exact q) (.inl (PyProof.noPylong_of_log2 ?_))
 have h3:j.natAbs < 2 ^ 100:=by lia
 exact Nat.lt_trans ((Nat.log2_lt (by lia)).mpr h3) (by decide)
abbrev ul:=cH (fun _ j=>decide (0 < j/\j < 1267650600228229401496703205376)) fun i j=>.int (i / j)
theorem zO:OpD K (rI yh fun i j=>.int (i / j)) ul:=iI (fun i j h=>by simpa [yh] using h) fun i j _=>.int _
end
end L3
end
section
namespace L3
open PySem L2
end L3
end
section
namespace L3
open PySem L2
end L3
end
section
namespace L3
open PySem L2
section
variable {K:FG} {G G0:Gm} {W W0:D->Sto->Prop} {H H':Hp} {σ:St} {ρ ρ':Sto} {T T':List It3} {g:Nat->Option It3} {x y z:It3} {α β:Type} {X:Cx} {v:V} {d:D} {L:List Addr}
def keyD:Key->D
 | .inl i=>.int i
 | .inr s=>.str s
def CO (k:List Key):D:=.tup (k.map keyD)
def keysD:D->Option (List D)
 | .dt kvs=>some (kvs.map fun a=>CO a.1)
 | _=>none
def m4 (m:EM):IM:=ae m fun r=>ae (der r) fun d=>aN ((keysD d).map fun ds=>([r],ds))
theorem j9:∀ k:List Key,Reps (Rep K H) (k.map keyD) (k.map kV) []
 | []=>.nil
 | .inl i :: k=>.cons (L:=[]) (.int i) (j9 k)
 | .inr s :: k=>.cons (L:=[]) (.str s) (j9 k)
theorem sR {kvs:List (List Key × D)} (m:H1 a=some (.dT ps)) (h:kvs.map (·.1)=ps.map (·.1)) (n:a ∈ y.L):Walk K (Itk a ps.length) H1 [y] (kvs.map fun g=>CO g.1):=by
 refine ⟨[],fun x t=>(by cases t),fun M H' hm f j=>?_⟩
 have h':H' a=some (.dT ps):=f a _ m (j y Dq a n)
 have o:kvs.length=ps.length:=by have:=congrArg List.length h;simpa using this
 refine ⟨fun i d hd=>?_,⟨ps,.inl h',rfl,by rw [DB,o];exact DH _⟩⟩
 rw [DG] at hd
 obtain ⟨g,h1,h2⟩:=Dt.mp hd
 have hi:i < kvs.length:=(DC.mp h1).1
 obtain ⟨p,s,c⟩:∃ p,ps[i]?=some p/\p.1=g.1:=by
  have e:=congrArg (fun l=>l[i]?) h
  grind
 refine ⟨⟨ps,.inl h',rfl,by omega⟩,fun x r ⟨e1,k⟩=>?_⟩
 subst e1
 obtain ⟨b,rfl,q⟩:=k ps p (.inl h') s
 exact ⟨⟨d,.ref b,[],.z⟩,di (by rw [<- h2,<- c];exact .tup q (j9 _)),rfl,rfl,rfl⟩
theorem yB (h:tI K G0 W0 (m4 m) σ H R):AW (tE K G0 W0 m) σ H R:=by
 obtain ⟨G,W,le,ρ,T,g,o,ρ',w,e,q⟩:=h
 have a:∀ x,o=.error x->W x ρ':=fun x E=>by subst E;exact q
 refine tE.seq le w e a fun ra ρ1 e1 v H1 ⟨Ts,g1,b,a1⟩=>?_
 obtain ⟨d,d1,j⟩:=aB e1
 obtain ⟨p,l,rfl,rfl⟩:=bp j
 obtain ⟨ds,c,F⟩:=Dt.mp l
 subst F
 obtain ⟨y,t,D,f⟩:=a1.item2 b d1
 have C:Itm (Ts ++ T) g1 y:=by
  rcases f with ⟨i,_,u⟩ | h
  ·exact .inl ⟨i,u⟩
  ·exact .inr (Du _ h)
 have B:=(b.itm C).arg
 have s:∀ J,Walk K J H1 [y] ds->R J H1:=fun J hw=>q J H1 [v] Ts g1 [y] b (by simpa using Ars.cons a1 .nil) (fun z hz=>by rw [DX.mp hz];exact f) hw
 clear e1 j l q
 subst t D
 obtain ⟨da,M,N,L⟩:=y
 obtain ⟨n,I⟩:=B
 dsimp only at n c
 cases da with
 | dt kvs =>
  obtain ⟨r,ps,O,rfl,rfl,k,A,rs⟩:=n.view
  cases c
  exact ⟨r,ps,rfl,.inl k,s _ (sR k A Dq)⟩
 | _=>exact nsE c
theorem zb (h:RE X G0 W0 l m):RI X G0 W0 tg l (m4 m):=⟨PI.imp (zx h.h) fun _ _ _ h=>yB h⟩
end
end L3
theorem L2.Room.hu {k:Nat} (a:L2.Room k A):A.units+1 < PySem.cLine:=L2.hu_of a
end
section
namespace L3
open PySem L2
section
variable {K:FG} {G G0:Gm} {W W0:D->Sto->Prop} {H H':Hp} {σ:St} {ρ ρ':Sto} {T T':List It3} {g:Nat->Option It3} {x y z:It3} {α β:Type} {X:Cx} {v:V} {d:D} {L:List Addr}
def qG (x:Int):List Int->List Int
 | []=>[x]
 | y :: ys=>if x<=y then x :: y :: ys else y :: qG x ys
def srt:List Int->List Int
 | []=>[]
 | x :: xs=>qG x (srt xs)
theorem jd (x:Int):∀ l:List Int,(qG x l).Perm (x :: l)
 | []=>.refl _
 | y :: ys=>by
  unfold qG
  split
  ·exact .refl _
  ·exact ((jd x ys).cons y).trans (.swap x y ys)
theorem j4:∀ l:List Int,(srt l).Perm l
 | []=>.refl _
 | x :: xs=>(jd x (srt xs)).trans ((j4 xs).cons x)
theorem jD (x:Int):∀ {l:List Int},l.Pairwise (·<=·)->(qG x l).Pairwise (·<=·)
 | [],_=>by simp [qG]
 | y :: ys,h=>by
  unfold qG
  have h1:=List.pairwise_cons.mp h
  split
  ·rename_i a
   refine List.pairwise_cons.mpr ⟨fun z hz=>?_,h⟩
   rcases Dw.mp hz with rfl | hz
   ·exact a
   ·have:=h1.1 z hz
    lia
  ·rename_i a
   refine List.pairwise_cons.mpr ⟨fun z hz=>?_,jD x h1.2⟩
   rcases Dw.mp ((jd x ys).subset hz) with rfl | hz
   ·lia
   ·exact h1.1 z hz
theorem gz:∀ l:List Int,(srt l).Pairwise (·<=·)
 | []=>.nil
 | x :: xs=>jD x (gz xs)
theorem fq:∀ {l c:List Int},l.Perm c->l.Pairwise (·<=·)->c.Pairwise (·<=·)->l=c
 | [],c,p,_,_=>by rw [List.nil_perm.mp p]
 | a :: l,[],p,_,_=>by cases p.length_eq
 | a :: l,b :: c,p,h,h'=>by
  have h1:=List.pairwise_cons.mp h
  have h2:=List.pairwise_cons.mp h'
  have e:a=b:=by
   have d:=p.subset (Dq (a:=a) (l:=l))
   have f:=p.symm.subset (Dq (a:=b) (l:=c))
   rcases Dw.mp d with e | d
   ·exact e
   ·rcases Dw.mp f with e | f
    ·exact e.symm
    ·have:=h2.1 a d
     have:=h1.1 b f
     lia
  subst e
  rw [fq (List.Perm.cons_inv p) h1.2 h2.2]
theorem jr:∀ ns:List Int,Reps (Rep K H) (ns.map D.int) (ns.map V.int) []
 | []=>.nil
 | n :: ns=>.cons (L:=[]) (.int n) (jr ns)
end
end L3
end
section
namespace L3
open PySem L2
section
variable {K:FG} {G G0:Gm} {W W0:D->Sto->Prop} {H H':Hp} {σ:St} {ρ ρ':Sto} {T T':List It3} {g:Nat->Option It3} {x y z:It3} {α β:Type} {X:Cx} {v:V} {d:D} {L:List Addr}
theorem o3:∀ {kvs:List (List Key × D)} {ps:List (List Key × V)} {k:List Key},kvs.map (·.1)=ps.map (·.1)->(cA kvs k).isSome=(gu ps k).isSome
 | [],[],k,_=>rfl
 | [],_ :: _,_,h=>by cases h
 | _ :: _,[],_,h=>by cases h
 | kv :: kvs,p :: ps,k,hk=>by
  have a:kv.1=p.1/\kvs.map (·.1)=ps.map (·.1):=by simpa using hk
  have b:=o3 (k:=k) a.2
  unfold cA at b ⊢
  rw [List.find?_cons]
  by_cases h:kv.1=k
  ·rw [DM h,fj (a.1.symm.trans h)];rfl
  ·rw [DN h,fk (fun z=>h (a.1.trans z))];exact b
end
end L3
end
section
namespace L3
open PySem L2
section
variable {K:FG} {G G0:Gm} {W W0:D->Sto->Prop} {H H':Hp}
def ntD (n:List Int):D:=.tup (n.map D.int)
theorem qE:∀ n:List Int,bj (n.map D.int)=some n
 | []=>rfl
 | a :: n=>by
  show (bj (n.map D.int)).map _=_
  rw [qE n];rfl
theorem iz:∀ n:List Int,Reps (Rep K H) (n.map D.int) (n.map V.int) []
 | []=>.nil
 | a :: n=>.cons (L:=[]) (.int a) (iz n)
end
end L3
end
section
namespace L3
open PySem L2
end L3
end
section
namespace L3
open PySem L2
section
variable {K:FG} {H H':Hp}
theorem rF:∀ {ns:List (List Int)} {bs:List Addr},bs.length=ns.length->(∀ (i:Nat) (b:Addr) (n:List Int),bs[i]?=some b->ns[i]?=some n->H b=some (.tup (n.map V.int)))->Reps (Rep K H) (ns.map ntD) (bs.map V.ref) []
 | [],[],_,_=>.nil
 | [],_ :: _,h,_=>by cases h
 | _ :: _,[],h,_=>by cases h
 | n :: ns,b :: bs,h,q=>.cons (L:=[]) (.tup (q 0 b n rfl rfl) (iz n)) (rF (by simpa using h) fun i b n e1 a=>q (i+1) b n (by simpa using e1) (by simpa using a))
end
end L3
end
section
namespace L3
open PySem L2
end L3
end
section
namespace L3
open PySem L2
section
variable {K:FG} {H H':Hp}
def jn:List D->Option (List (List Int))
 | []=>some []
 | .tup ys :: ds=>(bj ys).bind fun n=>(jn ds).map (n :: ·)
 | _=>none
theorem nK:∀ {ds:List D} {ns:List (List Int)},jn ds=some ns->ds=ns.map ntD
 | [],ns,h=>by cases h;rfl
 | d :: ds,ns,h=>by
  cases d with
  | tup ys =>
   obtain ⟨n,h1,h2⟩:=DW.mp (show ((bj ys).bind fun n=>(jn ds).map (n :: ·))=some ns from h)
   obtain ⟨ms,h3,a⟩:=Dt.mp h2
   rw [nK h3,<- a,gc h1];rfl
  | _=>exact nsE h
def xa (ns:List (List Int)):Bool:=ns.all (fun n=>!n.isEmpty) || (match ns with | [] :: _=>true | _=>false)
theorem z8 (h:xa ns=true):kOk ns:=by
 rcases Bool.or_eq_true_iff.mp h with h | h
 ·refine .inl fun n a z=>?_
  have:=List.all_eq_true.mp h n a
  subst z;simp at this
 ·refine .inr ?_
  grind
def Bu:D->Option (D × Fl)
 | .lst ds=>(jn ds).bind fun ns=>if (xa ns && decide (ns.length<=16777216))=true then (aW ns).bind fun is=>if (decide (is.length<=16777216) && is.all fun i=>decide (i < ns.length))=true then some (.lst (is.map fun i=>ntD (ns.getD i [])),.u) else none else none
 | _=>none
abbrev iT:=c1 Bu
theorem lJ:∀ {ns:List (List Int)} {c:List V} {L:List Addr},Reps (Rep K H) (ns.map ntD) c L->∃ bs:List Addr,c=bs.map V.ref/\ns.length=bs.length/\∀ (i:Nat) (b:Addr) (n:List Int),bs[i]?=some b->ns[i]?=some n->H b=some (.tup (n.map V.int))
 | [],_,_,.nil=>⟨[],rfl,rfl,fun i b n e=>by simp at e⟩
 | n :: ns,_,_,.cons r rs=>by
  obtain ⟨bs,e1,g,d⟩:=lJ rs
  cases r with
  | @tup _ a c _ ha hr =>
   have f:c=n.map V.int:=Reps.ints hr
   subst f e1
   refine ⟨a :: bs,rfl,by simp [g],fun i b m h1 h2=>?_⟩
   cases i with
   | zero=>cases h1;cases h2;exact ha
   | succ i=>exact d i b m (by simpa using h1) (by simpa using h2)
theorem xK:cM K (vR K) iT:=fun ys H Q p ra e q=>by
 obtain ⟨y,rfl,d⟩:=ie e
 clear e
 have e:=d
 clear d
 have l:=(ra y Dq).rep
 obtain ⟨da,B,C,A⟩:=y
 dsimp only at l e
 cases da with
 | lst ds =>
  obtain ⟨ns,h1,h2⟩:=DW.mp (show ((jn ds).bind fun ns=>_)=some p from e)
  by_cases f:(xa ns && decide (ns.length<=16777216))=true
  ·rw [if_pos f] at h2
   obtain ⟨h3,t⟩:=Bool.and_eq_true_iff.mp f
   obtain ⟨is,w,g⟩:=DW.mp h2
   by_cases hd:(decide (is.length<=16777216) && is.all fun i=>decide (i < ns.length))=true
   ·rw [if_pos hd] at g
    cases g
    obtain ⟨m,o⟩:=Bool.and_eq_true_iff.mp hd
    cases nK h1
    obtain ⟨a,E,D,rfl,rfl,v,rs⟩:=l.view
    obtain ⟨bs,rfl,z,k⟩:=lJ rs
    refine ⟨a,bs,ns,is,rfl,SqL.of v,z,k,z8 h3,w,by rw [sizeLine_eq];exact of_decide_eq_true t,by rw [sizeLine_eq];exact of_decide_eq_true m,fun p r=>?_⟩
    have x:(is.map fun i=>V.ref (bs.getD i 0))=(is.map fun i=>bs.getD i 0).map V.ref:=by rw [Eg];rfl
    have h:(is.map fun i=>ntD (ns.getD i []))=(is.map fun i=>ns.getD i []).map ntD:=by rw [Eg];rfl
    rw [x]
    refine q ⟨.lst (is.map fun i=>ntD (ns.getD i [])),.ref p,[p],.u⟩ _ (qu r ?_ fun c f=>by cases f) rfl rfl
    rw [h]
    refine rF (by simp) fun i b n e1 d=>?_
    rw [DG] at e1 d
    cases hi:is[i]? with
    | none=>rw [hi] at e1;cases e1
    | some j =>
     rw [hi] at e1 d
     have s:j < ns.length:=of_decide_eq_true (List.all_eq_true.mp o j (DD hi))
     have g1:bs[j]?=some bs[j]:=Dx (by lia)
     have g2:ns[j]?=some ns[j]:=Dx s
     have e1:bs.getD j 0=b:=Ei e1
     have d:ns.getD j []=n:=Ei d
     rw [List.getD,g1] at e1
     rw [List.getD,g2] at d
     subst e1 d
     exact k j _ _ g1 g2
   ·rw [if_neg hd] at g;exact nsE g
  ·rw [if_neg f] at h2;exact nsE h2
 | _=>exact nsE e
end
end L3
end
section
namespace L3
open PySem L2
section
variable {K:FG} {G0:Gm} {W0:D->Sto->Prop} {X:Cx}
def ssQ:D->Option (D × Fl)
 | .tup xs=>(bj xs).bind fun ns=>if ns.length < 64 then some (.lst ((srt (ns.foldl met [])).map .int),.u) else none
 | _=>none
abbrev ssD:=c1 ssQ
def rSS (X:Cx):List V->Hp->VK->Prop:=fun xs H Q=>rSet X xs H fun v H1=>vQ X [v] H1 Q
theorem cd_ss:cM X.K (rSS X) ssD:=fun ys H Q p ra e q=>by
 obtain ⟨y,rfl,h⟩:=ie e
 clear e
 have k:=(ra y Dq).rep
 obtain ⟨da,x,t,o⟩:=y
 dsimp only at k h
 cases da <;> try (exact nsE h)
 rename_i xs
 obtain ⟨j,A,rfl,r,rs⟩:=k.view
 obtain ⟨ns,h1,h2⟩:=DW.mp h
 split at h2
 ·rename_i f
  cases h2
  have v:=gc h1
  subst v
  have s:=rs.ints
  subst s
  refine ⟨j,ns,rfl,SqT.of r,f,fun a l=>⟨a,ns.foldl met [],rfl,aQ,?_,fun b i n m p2=>?_⟩⟩
  ·have:=oH ns []
   simp at this
   lia
  ·rw [fq (m.trans (j4 _).symm) p2 (gz _)]
   have d:H b=none:=by
    by_cases z:b=a
    ·rw [z];exact l
    ·rw [av z] at i;exact i
   have w:=qu (K:=X.K) (Ks:=cJ [⟨.tup (ns.map .int),.ref j,t,o⟩]) i (jr (K:=X.K) (H:=upd H a (yO X a (ns.foldl met []))) (srt (ns.foldl met []))) (fun c g=>by cases g)
   refine q ⟨.lst ((srt (ns.foldl met [])).map .int),.ref b,[b],.u⟩ _ ⟨(aX l).trans w.same,w.rep,fun c g=>?_,fun _=>⟨rfl,b,[],rfl,rfl,List.not_mem_nil,d⟩⟩ rfl rfl
   cases DX.mp g
   exact .inl d
 ·exact nsE h2
theorem re_ss (g:X.calm=true) (j:Gl X x) (hm:X.mg x=none) (k:bootBuiltins x=some (.builtin "sorted")) (c:Gl X y) (d:X.mg y=none) (a:bootBuiltins y=some (.type "set")) (l:RE X G0 W0 e m) (i:x ≠ "__name__") (hd:(x == ("__debug__":Str))=false) (f:y ≠ "__name__") (b:(y == ("__debug__":Str))=false) (s1:starEach [e] X.env=(false,eval e X.env) :: starEach [] X.env) (s2:starEach [.Call (.Name y p') [e] [] pos'] X.env=(false,eval (.Call (.Name y p') [e] [] pos') X.env) :: starEach [] X.env) :
  RE X G0 W0 (.Call (.Name x p) [.Call (.Name y p') [e] [] pos'] [] pos) (aw ssD (ad m ai)) :=
 ⟨PE.imp (kg (qN g) j hm k (f9 (lM (uy g) c d a (rJ l vP s1).h f b s1 rfl) mN s2) i hd s2 rfl) fun σ H Q h=>(j0 (r:=rSS X) cd_ss h:tCB (rSS X) (tA X.K G0 W0 (ad m ai)) σ H Q)⟩
end
end L3
end
section
namespace L3
open PySem L2
end L3
end
section
namespace L3
open PySem L2
section
variable {K:FG} {X:Cx}
def kvI:List (List Key × D)->Option (List (List Key × Int))
 | []=>some []
 | (k,.int n) :: r=>(kvI r).map ((k,n) :: ·)
 | _=>none
theorem qD:∀ {kvs:List (List Key × D)} {ns:List (List Key × Int)},kvI kvs=some ns->kvs=ns.map fun p=>(p.1,D.int p.2)
 | [],ns,e=>by cases e;rfl
 | (k,d) :: r,ns,e=>by
  cases d <;> try (exact nsE e)
  obtain ⟨ms,h1,h2⟩:=Dt.mp (show (kvI r).map _=some ns from e)
  subst h2
  rw [qD h1]
  rfl
theorem AK {H:Hp} {ns:List (List Key × Int)} {ps:List (List Key × V)} {L:List Addr} (a:(ns.map fun p=>(p.1,D.int p.2)).map (·.1)=ps.map (·.1)) (rs:Reps (Rep K H) ((ns.map fun p=>(p.1,D.int p.2)).map (·.2)) (ps.map (·.2)) L):ps=ns.map fun p=>(p.1,V.int p.2):=by
 have b:Reps (Rep K H) ((ns.map (·.2)).map D.int) (ps.map (·.2)) L:=by
  rw [Eg] at rs ⊢
  exact rs
 have e:=b.ints
 rw [Eg] at a
 clear rs b
 induction ns generalizing ps with
 | nil =>
  cases ps with
  | nil=>rfl
  | cons p ps=>simp at e
 | cons n ns ih =>
  cases ps with
  | nil=>simp at e
  | cons p ps =>
   simp only [DL,List.cons.injEq] at e a ⊢
   refine ⟨Prod.ext a.1.symm e.1,ih a.2 e.2⟩
end
end L3
end
section
namespace L3
open PySem L2
section
variable {K:FG} {X:Cx}
theorem oZ:∀ {a b:List Int},a.map V.int=b.map V.int->a=b
 | [],[],_=>rfl
 | [],b :: bs,e=>by cases e
 | a :: as,[],e=>by cases e
 | a :: as,b :: bs,e=>by
  rw [DL,DL] at e
  injection e with e1 e2
  injection e1 with e1
  rw [e1,oZ e2]
abbrev sO (H:Hp) (b:Addr) (ns:List Int):Prop:=H b=some (.tup (ns.map V.int))
def wH (H:Hp) (ks:List Int) (w:Value):Bool:=@decide (∃ b,w=.ref b/\sO H b ks) (Classical.propDecidable _)
theorem wG (h:sO H b ns):wH H ks (.ref b)=decide (ns=ks):=by
 unfold wH
 by_cases e:ns=ks
 ·grind
 ·rw [DN e]
  refine @DN _ (Classical.propDecidable _) ?_
  rintro ⟨c,e1,h2⟩
  injection e1 with e1
  subst e1
  unfold sO at h h2
  rw [h] at h2
  injection h2 with h2
  injection h2 with h2
  exact e (oZ h2)
inductive TupsAt (H:Hp):List V->List (List Int)->Prop
 | nil:TupsAt H [] []
 | cons {b:Addr} {ns:List Int} {vs:List V} {nss:List (List Int)}:sO H b ns->TupsAt H vs nss->TupsAt H (.ref b :: vs) (ns :: nss)
theorem TupsAt.any:∀ {a:List V} {nss:List (List Int)} {us:List Value},TupsAt H a nss->Vals a us->us.any (wH H ks)=decide (ks ∈ nss)
 | _,_,_,.nil,.nil=>rfl
 | _,_,_,.cons (b:=b) (ns:=ns) (nss:=nss) h t,.cons r rs=>by
  have c:=TupsAt.any (ks:=ks) t rs
  cases r
  rw [List.any_cons,c,wG h,Bool.eq_iff_iff]
  simp only [Bool.or_eq_true,decide_eq_true_eq,Dw]
  constructor
  ·rintro (h | h)
   ·exact .inl h.symm
   ·exact .inr h
  ·rintro (h | h)
   ·exact .inl h.symm
   ·exact .inr h
end
end L3
end
section
namespace L2
open PySem PySem.Spec PyProof.Rows
variable {cmp:Nat->Nat->Option Bool} {α β:Type}
theorem aa {m:StateT SortSt Sem α} {f:α->StateT SortSt Sem β} {st st1:SortSt} {a:α} (h1:ev cmp (m.run st) none=some ((a,st1),none)) (h2:ev cmp ((f a).run st1) none=r):ev cmp ((m >>= f).run st) none=r:=by
 show ev cmp ((m.run st).bind fun x=>(f x.1).run x.2) none=r
 rw [sy,h1]
 exact h2
theorem aD {f:Nat->β->StateT SortSt Sem (ForInStep β)} {i:Nat} {st st1:SortSt} (h:ev cmp ((f i b).run st) none=some ((.yield b1,st1),none)) (h2:ev cmp ((forIn l b1 f).run st1) none=r):ev cmp ((forIn (i :: l) b f).run st) none=r:=by
 rw [List.forIn_cons]
 exact aa h h2
theorem a9 {f:Nat->β->StateT SortSt Sem (ForInStep β)} {i:Nat} {st st1:SortSt} (h:ev cmp ((f i b).run st) none=some ((.done b1,st1),none)):ev cmp ((forIn (i :: l) b f).run st) none=some ((b1,st1),none):=by
 rw [List.forIn_cons]
 exact aa h rfl
def ac (l:List Nat) (p:List (Nat × Nat × Nat)) (g:Nat):SortSt:=SortSt.mk' (aO true) ((l.map fun i=>((Value.ref i,Value.ref i):Keyed)).toArray) p.toArray g none
theorem lO:∀ L:List Nat,(L.map fun i=>((Value.ref i,Value.ref i):Keyed)).mapM ki=some L
 | []=>rfl
 | x :: L=>by
  have a:=lO L
  rw [DL,List.mapM_cons,a]
  rfl
theorem ft {n:Nat} {g:Nat} (h0:ns.length=n) (h:ev (ay ns) (sortRuns'.run (ac (List.range n) [] 7)) none=some (((),ac L1 p g),none)):aW ns=some L1:=by
 unfold aW
 subst h0
 have e:SortSt.mk' (aO true) (lP ns.length) #[] 7 none=ac (List.range ns.length) [] 7:=rfl
 rw [e,h]
 show (arrOf (ac L1 p g)).toList.mapM ki=some L1
 show ((L1.map fun i=>((Value.ref i,Value.ref i):Keyed)).toArray).toList.mapM ki=some L1
 rw [List.toList_toArray]
 exact lO L1
end L2
end
section
namespace L2
open PySem PySem.Spec PyProof.Rows
def U6:List (List Int):=[[],[0],[1],[0,1],[2],[0,2],[1,2],[0,1,2],[3],[0,3],[1,3],[0,1,3],[2,3],[0,2,3],[1,2,3],[0,1,2,3],[4],[0,4],[1,4],[0,1,4],[2,4],[0,2,4],[1,2,4],[0,1,2,4],[3,4],[0,3,4],[1,3,4],[0,1,3,4],[2,3,4],[0,2,3,4],[1,2,3,4],[0,1,2,3,4],[5],[0,5],[1,5],[0,1,5],[2,5],[0,2,5],[1,2,5],[0,1,2,5],[3,5],[0,3,5],[1,3,5],[0,1,3,5],[2,3,5],[0,2,3,5],[1,2,3,5],[0,1,2,3,5],[4,5],[0,4,5],[1,4,5],[0,1,4,5],[2,4,5],[0,2,4,5],[1,2,4,5],[0,1,2,4,5],[3,4,5],[0,3,4,5],[1,3,4,5],[0,1,3,4,5],[2,3,4,5],[0,2,3,4,5],[1,2,3,4,5],[0,1,2,3,4,5]]
def L6_0:List Nat:=List.range 64
def L6_1:List Nat:=L6_0.take 2 ++ ([3,7,15,31,23,11,27,19,5,13,29,21,9,25,17,2,6,14,30,22,10,26,18,4,12,28,20,8,24,16] ++ L6_0.drop 32)
def L6_2:List Nat:=L6_1.take 32 ++ ([33,32] ++ L6_1.drop 34)
def eM:List Nat:=L6_2.take 32 ++ [63,47,55,39,59,43,51,35,61,45,53,37,57,41,49,33,62,46,54,38,58,42,50,34,60,44,52,36,56,40,48,32]
def L6_4:List Nat:=[0,1,3,7,15,31,63,47,23,55,39,11,27,59,43,19,51,35,5,13,29,61,45,21,53,37,9,25,57,41,17,49,33,2,6,14,30,62,46,22,54,38,10,26,58,42,18,50,34,4,12,28,60,44,20,52,36,8,24,56,40,16,48,32]
theorem g6_0:ev (ay U6) ((countRun' 0 64).run (ac L6_0 [] 7)) none=some ((some 3,(ac L6_0 [] 7)),none):=by kernel_rfl
theorem g6_1:ev (ay U6) ((binarySort' 0 32 3).run (ac L6_0 [] 7)) none=some ((true,(ac L6_1 [] 7)),none):=by kernel_rfl
theorem g6_2:ev (ay U6) ((countRun' 32 32).run (ac L6_1 [(0,32,0)] 7)) none=some ((some 2,(ac L6_2 [(0,32,0)] 7)),none):=by kernel_rfl
theorem g6_3:ev (ay U6) ((binarySort' 32 32 2).run (ac L6_2 [(0,32,0)] 7)) none=some ((true,(ac eM [(0,32,0)] 7)),none):=by kernel_rfl
theorem g6_4:ev (ay U6) ((mergeAt' 0).run (ac eM [(0,32,1),(32,32,0)] 7)) none=some ((true,(ac L6_4 [(0,64,1)] 7)),none):=by kernel_rfl
theorem runs6:ev (ay U6) (sortRuns'.run (ac L6_0 [] 7)) none=some (((),(ac L6_4 [(0,64,1)] 7)),none):=by
 rw [sortRuns'_eq]
 refine aa (a:=(ac L6_0 [] 7)) (st1:=(ac L6_0 [] 7)) rfl ?_
 have c:(arrOf (ac L6_0 [] 7)).size=64:=by kernel_rfl
 have b:minRun' 64 64 0=32:=rfl
 rw [c]
 try dsimp only
 rw [b]
 rw [Std.Legacy.Range.forIn_eq_forIn_range']
 refine aa (a:=(none,64)) (st1:=(ac eM [(0,32,1),(32,32,0)] 7)) (aD (b1:=(none,32)) (st1:=(ac L6_1 [(0,32,0)] 7)) ?_ (aD (b1:=(none,64)) (st1:=(ac eM [(0,32,1),(32,32,0)] 7)) ?_ (a9 (b1:=(none,64)) (st1:=(ac eM [(0,32,1),(32,32,0)] 7)) ?_))) ?_
 ·try dsimp only
  rw [if_neg (by decide)]
  refine aa g6_0 ?_
  try dsimp only
  rw [if_pos (by decide)]
  refine aa (a:=()) (st1:=(ac L6_0 [] 7)) rfl ?_
  refine aa g6_1 ?_
  rw [if_neg (by decide)]
  refine aa (a:=(ac L6_1 [] 7)) (st1:=(ac L6_1 [] 7)) rfl ?_
  rw [show (pendingOf (ac L6_1 [] 7)).back?=none from rfl]
  try dsimp only
  refine aa (a:=()) (st1:=(ac L6_1 [(0,32,0)] 7)) rfl ?_
  exact rfl
 ·try dsimp only
  rw [if_neg (by decide)]
  refine aa g6_2 ?_
  try dsimp only
  rw [if_pos (by decide)]
  refine aa (a:=()) (st1:=(ac L6_2 [(0,32,0)] 7)) rfl ?_
  refine aa g6_3 ?_
  rw [if_neg (by decide)]
  refine aa (a:=(ac eM [(0,32,0)] 7)) (st1:=(ac eM [(0,32,0)] 7)) rfl ?_
  rw [show (pendingOf (ac eM [(0,32,0)] 7)).back?=some (0,32,0) from rfl]
  try dsimp only
  rw [Std.Legacy.Range.forIn_eq_forIn_range']
  refine aa (a:=(none,())) (st1:=(ac eM [(0,32,0)] 7)) (a9 (b1:=(none,())) (st1:=(ac eM [(0,32,0)] 7)) ?_) ?_
  ·try dsimp only
   refine aa (a:=(ac eM [(0,32,0)] 7)) (st1:=(ac eM [(0,32,0)] 7)) rfl ?_
   rw [show (if (pendingOf (ac eM [(0,32,0)] 7)).size > 1 then (pendingOf (ac eM [(0,32,0)] 7))[(pendingOf (ac eM [(0,32,0)] 7)).size - 2]? else none)=none from rfl]
   exact rfl
  try dsimp only
  refine aa (a:=()) (st1:=(ac eM [(0,32,1)] 7)) rfl ?_
  refine aa (a:=()) (st1:=(ac eM [(0,32,1),(32,32,0)] 7)) rfl ?_
  exact rfl
 ·try dsimp only
  rw [if_pos (by decide)]
  exact rfl
 try dsimp only
 rw [Std.Legacy.Range.forIn_eq_forIn_range']
 refine aa (a:=(none,())) (st1:=(ac L6_4 [(0,64,1)] 7)) (aD (b1:=(none,())) (st1:=(ac L6_4 [(0,64,1)] 7)) ?_ (a9 (b1:=(none,())) (st1:=(ac L6_4 [(0,64,1)] 7)) ?_)) ?_
 ·try dsimp only
  refine aa (a:=(ac eM [(0,32,1),(32,32,0)] 7)) (st1:=(ac eM [(0,32,1),(32,32,0)] 7)) rfl ?_
  rw [if_neg (by decide)]
  refine aa g6_4 ?_
  rw [if_neg (by decide)]
  exact rfl
 ·try dsimp only
  refine aa (a:=(ac L6_4 [(0,64,1)] 7)) (st1:=(ac L6_4 [(0,64,1)] 7)) rfl ?_
  rw [if_pos (by decide)]
  exact rfl
 exact rfl
theorem sort6:aW U6=some L6_4:=ft (n:=64) rfl runs6
end L2
end
section
namespace L2
open PySem PySem.Spec PyProof.Rows
def U7:List (List Int):=[[],[0],[1],[0,1],[2],[0,2],[1,2],[0,1,2],[3],[0,3],[1,3],[0,1,3],[2,3],[0,2,3],[1,2,3],[0,1,2,3],[4],[0,4],[1,4],[0,1,4],[2,4],[0,2,4],[1,2,4],[0,1,2,4],[3,4],[0,3,4],[1,3,4],[0,1,3,4],[2,3,4],[0,2,3,4],[1,2,3,4],[0,1,2,3,4],[5],[0,5],[1,5],[0,1,5],[2,5],[0,2,5],[1,2,5],[0,1,2,5],[3,5],[0,3,5],[1,3,5],[0,1,3,5],[2,3,5],[0,2,3,5],[1,2,3,5],[0,1,2,3,5],[4,5],[0,4,5],[1,4,5],[0,1,4,5],[2,4,5],[0,2,4,5],[1,2,4,5],[0,1,2,4,5],[3,4,5],[0,3,4,5],[1,3,4,5],[0,1,3,4,5],[2,3,4,5],[0,2,3,4,5],[1,2,3,4,5],[0,1,2,3,4,5],[6],[0,6],[1,6],[0,1,6],[2,6],[0,2,6],[1,2,6],[0,1,2,6],[3,6],[0,3,6],[1,3,6],[0,1,3,6],[2,3,6],[0,2,3,6],[1,2,3,6],[0,1,2,3,6],[4,6],[0,4,6],[1,4,6],[0,1,4,6],[2,4,6],[0,2,4,6],[1,2,4,6],[0,1,2,4,6],[3,4,6],[0,3,4,6],[1,3,4,6],[0,1,3,4,6],[2,3,4,6],[0,2,3,4,6],[1,2,3,4,6],[0,1,2,3,4,6],[5,6],[0,5,6],[1,5,6],[0,1,5,6],[2,5,6],[0,2,5,6],[1,2,5,6],[0,1,2,5,6],[3,5,6],[0,3,5,6],[1,3,5,6],[0,1,3,5,6],[2,3,5,6],[0,2,3,5,6],[1,2,3,5,6],[0,1,2,3,5,6],[4,5,6],[0,4,5,6],[1,4,5,6],[0,1,4,5,6],[2,4,5,6],[0,2,4,5,6],[1,2,4,5,6],[0,1,2,4,5,6],[3,4,5,6],[0,3,4,5,6],[1,3,4,5,6],[0,1,3,4,5,6],[2,3,4,5,6],[0,2,3,4,5,6],[1,2,3,4,5,6],[0,1,2,3,4,5,6]]
def L7_0:List Nat:=List.range 128
def L7_1:List Nat:=L7_0.take 2 ++ ([3,7,15,31,23,11,27,19,5,13,29,21,9,25,17,2,6,14,30,22,10,26,18,4,12,28,20,8,24,16] ++ L7_0.drop 32)
def L7_2:List Nat:=L7_1.take 32 ++ ([33,32] ++ L7_1.drop 34)
def L7_3:List Nat:=L7_2.take 32 ++ ([63,47,55,39,59,43,51,35,61,45,53,37,57,41,49,33,62,46,54,38,58,42,50,34,60,44,52,36,56,40,48,32] ++ L7_2.drop 64)
def L7_4:List Nat:=L7_3.take 64 ++ ([65,64] ++ L7_3.drop 66)
def L7_5:List Nat:=L7_4.take 64 ++ ([95,79,87,71,91,75,83,67,93,77,85,69,89,73,81,65,94,78,86,70,90,74,82,66,92,76,84,68,88,72,80,64] ++ L7_4.drop 96)
def L7_6:List Nat:=L7_5.take 6 ++ ([63,47,23,55,39,11,27,59,43,19,51,35,5,13,29,61,45,21,53,37,9,25,57,41,17,49,33,2,6,14,30,62,46,22,54,38,10,26,58,42,18,50,34,4,12,28,60,44,20,52,36,8,24,56,40,16] ++ L7_5.drop 62)
def L7_7:List Nat:=L7_6.take 96 ++ ([97,96] ++ L7_6.drop 98)
def L7_8:List Nat:=L7_7.take 96 ++ [127,111,119,103,123,107,115,99,125,109,117,101,121,105,113,97,126,110,118,102,122,106,114,98,124,108,116,100,120,104,112,96]
def x6:List Nat:=L7_8.take 64 ++ [127,95,111,79,119,87,103,71,123,91,107,75,115,83,99,67,125,93,109,77,117,85,101,69,121,89,105,73,113,81,97,65,126,94,110,78,118,86,102,70,122,90,106,74,114,82,98,66,124,92,108,76,116,84,100,68,120,88,104,72,112,80,96,64]
def L7_10:List Nat:=[0,1,3,7,15,31,63,127,95,47,111,79,23,55,119,87,39,103,71,11,27,59,123,91,43,107,75,19,51,115,83,35,99,67,5,13,29,61,125,93,45,109,77,21,53,117,85,37,101,69,9,25,57,121,89,41,105,73,17,49,113,81,33,97,65,2,6,14,30,62,126,94,46,110,78,22,54,118,86,38,102,70,10,26,58,122,90,42,106,74,18,50,114,82,34,98,66,4,12,28,60,124,92,44,108,76,20,52,116,84,36,100,68,8,24,56,120,88,40,104,72,16,48,112,80,32,96,64]
theorem g7_0:ev (ay U7) ((countRun' 0 128).run (ac L7_0 [] 7)) none=some ((some 3,(ac L7_0 [] 7)),none):=by kernel_rfl
theorem g7_1:ev (ay U7) ((binarySort' 0 32 3).run (ac L7_0 [] 7)) none=some ((true,(ac L7_1 [] 7)),none):=by kernel_rfl
theorem g7_2:ev (ay U7) ((countRun' 32 96).run (ac L7_1 [(0,32,0)] 7)) none=some ((some 2,(ac L7_2 [(0,32,0)] 7)),none):=by kernel_rfl
theorem g7_3:ev (ay U7) ((binarySort' 32 32 2).run (ac L7_2 [(0,32,0)] 7)) none=some ((true,(ac L7_3 [(0,32,0)] 7)),none):=by kernel_rfl
theorem g7_4:ev (ay U7) ((countRun' 64 64).run (ac L7_3 [(0,32,2),(32,32,0)] 7)) none=some ((some 2,(ac L7_4 [(0,32,2),(32,32,0)] 7)),none):=by kernel_rfl
theorem g7_5:ev (ay U7) ((binarySort' 64 32 2).run (ac L7_4 [(0,32,2),(32,32,0)] 7)) none=some ((true,(ac L7_5 [(0,32,2),(32,32,0)] 7)),none):=by kernel_rfl
theorem g7_6:ev (ay U7) ((mergeAt' 0).run (ac L7_5 [(0,32,2),(32,32,0)] 7)) none=some ((true,(ac L7_6 [(0,64,2)] 7)),none):=by kernel_rfl
theorem g7_7:ev (ay U7) ((countRun' 96 32).run (ac L7_6 [(0,64,1),(64,32,0)] 7)) none=some ((some 2,(ac L7_7 [(0,64,1),(64,32,0)] 7)),none):=by kernel_rfl
theorem g7_8:ev (ay U7) ((binarySort' 96 32 2).run (ac L7_7 [(0,64,1),(64,32,0)] 7)) none=some ((true,(ac L7_8 [(0,64,1),(64,32,0)] 7)),none):=by kernel_rfl
theorem g7_9:ev (ay U7) ((mergeAt' 1).run (ac L7_8 [(0,64,1),(64,32,2),(96,32,0)] 7)) none=some ((true,(ac x6 [(0,64,1),(64,64,2)] 7)),none):=by kernel_rfl
theorem g7_10:ev (ay U7) ((mergeAt' 0).run (ac x6 [(0,64,1),(64,64,2)] 7)) none=some ((true,(ac L7_10 [(0,128,1)] 7)),none):=by kernel_rfl
theorem runs7:ev (ay U7) (sortRuns'.run (ac L7_0 [] 7)) none=some (((),(ac L7_10 [(0,128,1)] 7)),none):=by
 rw [sortRuns'_eq]
 refine aa (a:=(ac L7_0 [] 7)) (st1:=(ac L7_0 [] 7)) rfl ?_
 have c:(arrOf (ac L7_0 [] 7)).size=128:=by kernel_rfl
 have b:minRun' 128 128 0=32:=rfl
 rw [c]
 try dsimp only
 rw [b]
 rw [Std.Legacy.Range.forIn_eq_forIn_range']
 refine aa (a:=(none,128)) (st1:=(ac L7_8 [(0,64,1),(64,32,2),(96,32,0)] 7)) (aD (b1:=(none,32)) (st1:=(ac L7_1 [(0,32,0)] 7)) ?_ (aD (b1:=(none,64)) (st1:=(ac L7_3 [(0,32,2),(32,32,0)] 7)) ?_ (aD (b1:=(none,96)) (st1:=(ac L7_6 [(0,64,1),(64,32,0)] 7)) ?_ (aD (b1:=(none,128)) (st1:=(ac L7_8 [(0,64,1),(64,32,2),(96,32,0)] 7)) ?_ (a9 (b1:=(none,128)) (st1:=(ac L7_8 [(0,64,1),(64,32,2),(96,32,0)] 7)) ?_))))) ?_
 ·try dsimp only
  rw [if_neg (by decide)]
  refine aa g7_0 ?_
  try dsimp only
  rw [if_pos (by decide)]
  refine aa (a:=()) (st1:=(ac L7_0 [] 7)) rfl ?_
  refine aa g7_1 ?_
  rw [if_neg (by decide)]
  refine aa (a:=(ac L7_1 [] 7)) (st1:=(ac L7_1 [] 7)) rfl ?_
  rw [show (pendingOf (ac L7_1 [] 7)).back?=none from rfl]
  try dsimp only
  refine aa (a:=()) (st1:=(ac L7_1 [(0,32,0)] 7)) rfl ?_
  exact rfl
 ·try dsimp only
  rw [if_neg (by decide)]
  refine aa g7_2 ?_
  try dsimp only
  rw [if_pos (by decide)]
  refine aa (a:=()) (st1:=(ac L7_2 [(0,32,0)] 7)) rfl ?_
  refine aa g7_3 ?_
  rw [if_neg (by decide)]
  refine aa (a:=(ac L7_3 [(0,32,0)] 7)) (st1:=(ac L7_3 [(0,32,0)] 7)) rfl ?_
  rw [show (pendingOf (ac L7_3 [(0,32,0)] 7)).back?=some (0,32,0) from rfl]
  try dsimp only
  rw [Std.Legacy.Range.forIn_eq_forIn_range']
  refine aa (a:=(none,())) (st1:=(ac L7_3 [(0,32,0)] 7)) (a9 (b1:=(none,())) (st1:=(ac L7_3 [(0,32,0)] 7)) ?_) ?_
  ·try dsimp only
   refine aa (a:=(ac L7_3 [(0,32,0)] 7)) (st1:=(ac L7_3 [(0,32,0)] 7)) rfl ?_
   rw [show (if (pendingOf (ac L7_3 [(0,32,0)] 7)).size > 1 then (pendingOf (ac L7_3 [(0,32,0)] 7))[(pendingOf (ac L7_3 [(0,32,0)] 7)).size - 2]? else none)=none from rfl]
   exact rfl
  try dsimp only
  refine aa (a:=()) (st1:=(ac L7_3 [(0,32,2)] 7)) rfl ?_
  refine aa (a:=()) (st1:=(ac L7_3 [(0,32,2),(32,32,0)] 7)) rfl ?_
  exact rfl
 ·try dsimp only
  rw [if_neg (by decide)]
  refine aa g7_4 ?_
  try dsimp only
  rw [if_pos (by decide)]
  refine aa (a:=()) (st1:=(ac L7_4 [(0,32,2),(32,32,0)] 7)) rfl ?_
  refine aa g7_5 ?_
  rw [if_neg (by decide)]
  refine aa (a:=(ac L7_5 [(0,32,2),(32,32,0)] 7)) (st1:=(ac L7_5 [(0,32,2),(32,32,0)] 7)) rfl ?_
  rw [show (pendingOf (ac L7_5 [(0,32,2),(32,32,0)] 7)).back?=some (32,32,0) from rfl]
  try dsimp only
  rw [Std.Legacy.Range.forIn_eq_forIn_range']
  refine aa (a:=(none,())) (st1:=(ac L7_6 [(0,64,2)] 7)) (aD (b1:=(none,())) (st1:=(ac L7_6 [(0,64,2)] 7)) ?_ (a9 (b1:=(none,())) (st1:=(ac L7_6 [(0,64,2)] 7)) ?_)) ?_
  ·try dsimp only
   refine aa (a:=(ac L7_5 [(0,32,2),(32,32,0)] 7)) (st1:=(ac L7_5 [(0,32,2),(32,32,0)] 7)) rfl ?_
   rw [show (if (pendingOf (ac L7_5 [(0,32,2),(32,32,0)] 7)).size > 1 then (pendingOf (ac L7_5 [(0,32,2),(32,32,0)] 7))[(pendingOf (ac L7_5 [(0,32,2),(32,32,0)] 7)).size - 2]? else none)=some (0,32,2) from rfl]
   try dsimp only
   rw [if_neg (by decide)]
   refine aa g7_6 ?_
   rw [if_neg (by decide)]
   exact rfl
  ·try dsimp only
   refine aa (a:=(ac L7_6 [(0,64,2)] 7)) (st1:=(ac L7_6 [(0,64,2)] 7)) rfl ?_
   rw [show (if (pendingOf (ac L7_6 [(0,64,2)] 7)).size > 1 then (pendingOf (ac L7_6 [(0,64,2)] 7))[(pendingOf (ac L7_6 [(0,64,2)] 7)).size - 2]? else none)=none from rfl]
   exact rfl
  try dsimp only
  refine aa (a:=()) (st1:=(ac L7_6 [(0,64,1)] 7)) rfl ?_
  refine aa (a:=()) (st1:=(ac L7_6 [(0,64,1),(64,32,0)] 7)) rfl ?_
  exact rfl
 ·try dsimp only
  rw [if_neg (by decide)]
  refine aa g7_7 ?_
  try dsimp only
  rw [if_pos (by decide)]
  refine aa (a:=()) (st1:=(ac L7_7 [(0,64,1),(64,32,0)] 7)) rfl ?_
  refine aa g7_8 ?_
  rw [if_neg (by decide)]
  refine aa (a:=(ac L7_8 [(0,64,1),(64,32,0)] 7)) (st1:=(ac L7_8 [(0,64,1),(64,32,0)] 7)) rfl ?_
  rw [show (pendingOf (ac L7_8 [(0,64,1),(64,32,0)] 7)).back?=some (64,32,0) from rfl]
  try dsimp only
  rw [Std.Legacy.Range.forIn_eq_forIn_range']
  refine aa (a:=(none,())) (st1:=(ac L7_8 [(0,64,1),(64,32,0)] 7)) (a9 (b1:=(none,())) (st1:=(ac L7_8 [(0,64,1),(64,32,0)] 7)) ?_) ?_
  ·try dsimp only
   refine aa (a:=(ac L7_8 [(0,64,1),(64,32,0)] 7)) (st1:=(ac L7_8 [(0,64,1),(64,32,0)] 7)) rfl ?_
   rw [show (if (pendingOf (ac L7_8 [(0,64,1),(64,32,0)] 7)).size > 1 then (pendingOf (ac L7_8 [(0,64,1),(64,32,0)] 7))[(pendingOf (ac L7_8 [(0,64,1),(64,32,0)] 7)).size - 2]? else none)=some (0,64,1) from rfl]
   try dsimp only
   rw [if_pos (by decide)]
   exact rfl
  try dsimp only
  refine aa (a:=()) (st1:=(ac L7_8 [(0,64,1),(64,32,2)] 7)) rfl ?_
  refine aa (a:=()) (st1:=(ac L7_8 [(0,64,1),(64,32,2),(96,32,0)] 7)) rfl ?_
  exact rfl
 ·try dsimp only
  rw [if_pos (by decide)]
  exact rfl
 try dsimp only
 rw [Std.Legacy.Range.forIn_eq_forIn_range']
 refine aa (a:=(none,())) (st1:=(ac L7_10 [(0,128,1)] 7)) (aD (b1:=(none,())) (st1:=(ac x6 [(0,64,1),(64,64,2)] 7)) ?_ (aD (b1:=(none,())) (st1:=(ac L7_10 [(0,128,1)] 7)) ?_ (a9 (b1:=(none,())) (st1:=(ac L7_10 [(0,128,1)] 7)) ?_))) ?_
 ·try dsimp only
  refine aa (a:=(ac L7_8 [(0,64,1),(64,32,2),(96,32,0)] 7)) (st1:=(ac L7_8 [(0,64,1),(64,32,2),(96,32,0)] 7)) rfl ?_
  rw [if_neg (by decide)]
  refine aa g7_9 ?_
  rw [if_neg (by decide)]
  exact rfl
 ·try dsimp only
  refine aa (a:=(ac x6 [(0,64,1),(64,64,2)] 7)) (st1:=(ac x6 [(0,64,1),(64,64,2)] 7)) rfl ?_
  rw [if_neg (by decide)]
  refine aa g7_10 ?_
  rw [if_neg (by decide)]
  exact rfl
 ·try dsimp only
  refine aa (a:=(ac L7_10 [(0,128,1)] 7)) (st1:=(ac L7_10 [(0,128,1)] 7)) rfl ?_
  rw [if_pos (by decide)]
  exact rfl
 exact rfl
theorem sort7:aW U7=some L7_10:=ft (n:=128) rfl runs7
end L2
end
section
namespace L3
open PySem L2
def mn (a b i:Nat) (d:D) (f:Fl) (p:D) (m:SM):SM:=fun ρ=>match f with
 | .l=>none
 | f=>if a < ρ.length/\b < ρ.length then
  (m (au bz (us ((ρ.set a (some (d,f))).set b (some (p,.z))) [i]) ((ρ.set a (some (d,f))).set b (some (p,.z))))).map fun r=>(r.1,au dh (us ((ρ.set a (some (d,f))).set b (some (p,.z))) [i]) r.2) else none
def znx (k:SM):Flw->SM
 | .nx=>k
 | .rt d f=>aJ (.rt d f)
 | _=>fun _=>none
def n4 (a b i:Nat) (ms:M3 (List R3)) (m:SM):SM:=ae ms fun rs ρ=>match rs,(ρ[i]?).join with
 | [.val d1 f1,.val d2 f2],some (.lst [p1,p2],_)=>ae (mn a b i d1 f1 p1 m) (znx (ae (mn a b i d2 f2 p2 m) (znx (aJ .nx)))) ρ
 | _,_=>none
section
variable {K:FG} {G G0:Gm} {W W0:D->Sto->Prop} {H H':Hp} {σ:St} {ρ ρ':Sto} {T T':List It3} {g:Nat->Option It3} {x y z:It3}
def rf (i:Nat) (g:Nat->Option It3) (Kp:Addr->Prop):Prop:=∀ c,Kp c->∀ j y,g j=some y->y.f=.u->y.v=.ref c->j=i
def ZEnd (K:FG) (G:Gm) (W:D->Sto->Prop) (T:List It3) (H:Hp) (ρ':Sto) (i:Nat) (Kp:Addr->Prop) (E:Ends):Except D Flw->Prop
 | .ok .nx=>∀ σ' H' g',Wf K G H' σ' ρ' T g'->(∀ c o,Kp c->H c=some o->H' c=some o)->rf i g' Kp->E.nx σ' H'
 | .ok (.rt d f)=>∀ x σ' H' g',Wf K G H' σ' ρ' (x :: T) g'->x.d=d->x.f=f->E.rt x.v H'
 | .ok _=>False
 | .error e=>W e ρ'
theorem yk {a b i:Nat} {t:Addr} {q:It3} {m:SM} {r:Except D Flw} {E:Ends} {Kp:Addr->Prop} (le:Le K G W G0 W0) (w:Wf K G H σ ρ (x :: q :: T) g) (hq:q.f=.z) (ha:G0.pr a=false) (hb:G0.pr b=false) (sq:SqT K H t [x.v,q.v])
  (kp:rf i g Kp) (kx:x.f=.u->∀ c,Kp c->x.v ≠ .ref c) (Q:∀ c,Kp c->∃ o,H c=some o) (e:mn a b i x.d x.f q.d m ρ=some (r,ρ')) (s:ZEnd K G W T H ρ' i Kp E r) :
  xp K 2 (jF (gp a) (jF (gp b) xq)) (.ref t) σ H (fun σ2 H2=>tS K G0 W0 m E σ2 H2):=by
 have F:x.f ≠ .l:=fun h=>by rw [h] at e;exact nsE e
 have e:(if a < ρ.length/\b < ρ.length then
  (m (au bz (us ((ρ.set a (some (x.d,x.f))).set b (some (q.d,.z))) [i]) ((ρ.set a (some (x.d,x.f))).set b (some (q.d,.z))))).map fun r=>(r.1,au dh (us ((ρ.set a (some (x.d,x.f))).set b (some (q.d,.z))) [i]) r.2) else none)=some (r,ρ'):=by
  cases hf:x.f with
  | l=>exact absurd hf F
  | u=>rw [hf] at e;exact e
  | z=>rw [hf] at e;exact e
 split at e
 ·rename_i I
  have X:=w.store (i:=a) (f:=x.f) I.1 (by rw [le.pr];exact ha) (.inl rfl) F
  have Z:=X.store (i:=b) (f:=.z) (by rw [List.length_set];exact I.2) (by rw [le.pr];exact hb) (.inr rfl) (by intro h;cases h)
  have C:∀ j y,(fun j=>if j=b then some { q with f:=Fl.z } else if j=a then some { x with f:=x.f } else g j) j=some y->y.f=.u->(j=a/\y=x)\/g j=some y:=fun j y n hf=>by
   have n:(if j=b then some { q with f:=Fl.z } else if j=a then some { x with f:=x.f } else g j)=some y:=n
   split at n
   ·cases n;cases hf
   ·split at n
    ·rename_i ja
     cases n;exact .inl ⟨ja,rfl⟩
    ·exact .inr n
  have k:Wf K G H ((σ.set a (some x.v)).set b (some q.v)) ((ρ.set a (some (x.d,x.f))).set b (some (q.d,.z))) T (fun j=>if j=b then some { q with f:=Fl.z } else if j=a then some { x with f:=x.f } else g j):=Z
  clear X Z
  generalize (ρ.set a (some (x.d,x.f))).set b (some (q.d,.z)) = ρ2 at e k
  generalize (fun j=>if j=b then some { q with f:=Fl.z } else if j=a then some { x with f:=x.f } else g j)=g2 at k C
  have A:=A2 (is:=[i]) k
  have L:∀ y,g2 i=some y->y.f=.u->i ∈ us ρ2 [i]:=fun y n hf=>pQ k Dq n hf
  have M:∀ j,j ∈ us ρ2 [i]->j=i:=fun j hj=>DX.mp (DZ.mp hj).1
  generalize us ρ2 [i]=is at e A L M
  have nb:∀ c,Kp c->¬ ∃ j y,j ∉ is/\g2 j=some y/\y.f=.u/\y.v=.ref c:=fun c B ⟨j,y,nj,n,hf,N⟩=>by
   rcases C j y n hf with ⟨_,rfl⟩ | h
   ·exact kx hf c B N
   ·have ji:=kp c B j y h hf N
    subst ji
    exact nj (L y n hf)
  have w3:=k.enter is
  have V:Le K (cL G H g2 is) (fun e ρ2=>W e (au dh is ρ2)) G W:=⟨rfl,fun H' σ' ρ2 T2 g2 e w4 he=>by
   obtain ⟨g3,w5⟩:=sd k A H' σ' ρ2 T2 g2 w4
   exact ⟨_,[],g3,w5,he⟩⟩
  refine ⟨t,_,rfl,sq,rfl,_,_,rfl,_,_,rfl,rfl,?_⟩
  cases em:m (au bz is ρ2) with
  | none=>rw [em] at e;exact nsE e
  | some p =>
   obtain ⟨S,ρ3⟩:=p
   rw [em] at e
   have er:S=r/\au dh is ρ3 = ρ':=by cases e;exact ⟨rfl,rfl⟩
   obtain ⟨rfl,rfl⟩:=er
   refine tS.mk (r:=S) (V.trans le) w3 em ?_
   cases S with
   | error er=>exact s
   | ok f =>
    cases f with
    | nx =>
     intro σ8 U P J
     refine s σ8 U _ (Wf.leave (T:=T) (T':=T) (R:=[]) k A (List.Sublist.refl _) J) (fun c o B O=>J.base c o O (nb c B)) fun c B j y n hf N=>?_
     by_cases q:j ∈ is
     ·exact M j q
     ·have n:(if j ∈ is then (P j).map uM else P j)=some y:=n
      rw [if_neg q] at n
      obtain ⟨_,a',L',v1,_,_,v4⟩:=(J.okS j y n).own (by rw [hf];intro q;cases q)
      rw [N] at v1;cases v1
      obtain ⟨o,O⟩:=Q c B
      rcases v4 hf with h | h
      ·have h:H c=none:=h
       rw [O] at h;cases h
      ·exact absurd h (nb c B)
    | rt d' f' =>
     intro Y σ8 U P J x1 x2
     exact s Y σ8 U _ (Wf.leave (T:=T) (T':=T) (R:=[Y]) k A (List.Sublist.refl _) J) x1 x2
    | br=>exact s.elim
    | ct=>exact s.elim
 ·exact nsE e
theorem yo {k:SM} {a:SM} {r:Except D Flw} (e:ae a (znx k) ρ=some (r,ρ')):∃ b ρ2,a ρ=some (b,ρ2)/\match b with
  | .error er=>r=.error er/\ρ' = ρ2
  | .ok .nx=>k ρ2=some (r,ρ')
  | .ok (.rt d f)=>r=.ok (.rt d f)/\ρ' = ρ2
  | .ok _=>False:=by
 unfold ae at e
 cases q:a ρ with
 | none=>rw [q] at e;exact nsE e
 | some p =>
  obtain ⟨o,ρ2⟩:=p
  rw [q] at e
  refine ⟨o,ρ2,rfl,?_⟩
  cases o with
  | error er=>cases e;exact ⟨rfl,rfl⟩
  | ok f =>
   cases f with
   | nx=>exact e
   | rt d f=>cases e;exact ⟨rfl,rfl⟩
   | br=>exact nsE e
   | ct=>exact nsE e
theorem lp {a b i:Nat} {q:It3} {m k:SM} {r:Except D Flw} {E:Ends} {N:St->Hp->Prop} {l j:Addr} {n:Nat} {us p:List V} (le:Le K G W G0 W0) (w:Wf K G H σ ρ (x :: q :: T) g) (O:T'.Sublist T) (Q:q.f=.z) (ha:G0.pr a=false) (hb:G0.pr b=false)
  (kp:rf i g (fun c=>c=l\/c=j)) (P:x.f=.u->∀ c,(c=l\/c=j)->x.v ≠ .ref c) (y:H l=some (.lst p)) (s:H j=some (.lst us)) (hu:us[n]?=some x.v) (I:p[n]?=some q.v)
  (e:ae (mn a b i x.d x.f q.d m) (znx k) ρ=some (r,ρ')) (h:EndS K G W T' ρ' E r)
  (hn:∀ σ' H' g' ρ2,Wf K G H' σ' ρ2 T g'->rf i g' (fun c=>c=l\/c=j)->H' l=some (.lst p)->H' j=some (.lst us)->k ρ2=some (r,ρ')->N σ' H') :
  (Itz K j l).go n H/\∀ x H',(Itz K j l).yld n H x H'->xp K 2 (jF (gp a) (jF (gp b) xq)) x σ H' fun σ2 H2=>tS K G0 W0 m { E with nx:=N,ct:=N,bk:=E.nx } σ2 H2:=by
 refine ⟨⟨us,p,_,_,SqL.of s,SqL.of y,hu,I⟩,fun z H' ⟨t,v,w',e1,Z,B,A,e5⟩=>?_⟩
 have B:=B us (SqL.of s)
 have A:=A p (SqL.of y)
 rw [hu] at B
 rw [I] at A
 cases B
 cases A
 subst e1 e5
 have sm:Same H (upd H t (.tup [x.v,q.v])):=aX Z
 obtain ⟨M,ρ2,S,o⟩:=yo e
 refine yk (Kp:=fun c=>c=l\/c=j) le (w.grow sm) Q ha hb (SqT.of aQ) kp P (fun c R=>?_) S ?_
 ·rcases R with rfl | rfl
  ·exact ⟨_,sm _ _ y⟩
  ·exact ⟨_,sm _ _ s⟩
 ·cases M with
  | error er =>
   obtain ⟨rfl,rfl⟩:=o
   exact h
  | ok f =>
   cases f with
   | nx=>exact fun σ' H' g' C F X=>hn σ' H' g' ρ2 C X (F _ _ (.inl rfl) (sm _ _ y)) (F _ _ (.inr rfl) (sm _ _ s)) o
   | rt d f =>
    obtain ⟨rfl,rfl⟩:=o
    exact fun J σ8 H8 U C Y L=>h J σ8 H8 U (C.sub (List.Sublist.cons_cons J O)) Y L
   | br=>exact o.elim
   | ct=>exact o.elim
theorem yt (hz:(16777216:Nat)=sizeLine) {a b i:Nat} {ms:M3 (List R3)} {m:SM} {E:Ends} (ha:G0.pr a=false) (hb:G0.pr b=false) (h:tS K G0 W0 (n4 a b i ms m) E σ H) :
  Bj (iZip K (nN (Bh (tA K G0 W0 ms)) (nN (pW i) yy))) (xp K 2 (jF (gp a) (jF (gp b) xq))) (tS K G0 W0 m) E σ H:=by
 refine h.use fun G W le ρ T g r ρ' w e q=>?_
 refine tA.seq le w e q.err fun rs ρ1 e1 vs H1 Ts g1 L a1=>?_
 split at e1
 ·rename_i d1 f1 d2 f2 p1 p2 fl hj
  cases a1 with | cons a1 as=>cases as with | cons a2 as=>cases as with | nil =>
  cases a1 with | val s=>cases a2 with | val p =>
  obtain ⟨y,M,yd,yf,yv⟩:=L.slot hj
  refine ⟨by show 2<=sizeLine;rw [<- hz];decide,fun A J=>?_⟩
  refine ⟨y.v,yv,?_⟩
  have Z:Itm (([] ++ [p] ++ [s]) ++ T) g1 y:=.inl ⟨i,M⟩
  have ar:=(L.itm Z).arg
  have U:=ar
  obtain ⟨ax,az,yL,Y⟩:=y
  obtain ⟨rr,oo⟩:=ar
  dsimp only at yd yv rr
  subst yd
  cases rr with
  | @lst _ l vs La hl rs =>
   obtain ⟨ws,h1,h2,h3⟩:=Reps.split rs
   match ws,h1,h2,h3 with
   | [x,t],h1,h2,h3 =>
    have R:x.d=p1/\t.d=p2:=by simpa using h1
    obtain ⟨rfl,rfl⟩:=R
    subst h2
    have wq:Wf K G H1 σ ρ1 ([x,t] ++ (([] ++ [p] ++ [s]) ++ T)) g1:=L.pushAll fun u hu=>⟨(h3 u hu).1,(h3 u hu).2.1,fun c D=>L.kids (ys:=[_]) (fun y Z=>by rw [DX.mp Z];exact .inl ⟨i,M⟩) (kA (y:=⟨.lst [x.d,t.d],.ref l,l :: La,Y⟩) Dq U rfl rfl c ((h3 u hu).2.2 c D))⟩
    have wp:Wf K G H1 σ ρ1 (s :: x :: p :: t :: T) g1:=wq.perm (by
     show (x :: t :: p :: s :: T).Perm _
     refine (List.Perm.cons x (List.Perm.cons t (List.Perm.swap s p T))).trans ?_
     refine (List.Perm.cons x (List.Perm.swap s t (p :: T))).trans ?_
     refine (List.Perm.swap s x (t :: p :: T)).trans ?_
     exact List.Perm.cons s (List.Perm.cons x (List.Perm.swap p t T)))
    have sl:Same H1 (upd H1 A (.lst [s.v,p.v])):=aX J
    have w3:=wp.grow sl
    have B:upd H1 A (.lst [s.v,p.v]) l=some (.lst [x.v,t.v]):=sl _ _ hl
    have C:upd H1 A (.lst [s.v,p.v]) A=some (.lst [s.v,p.v]):=aQ
    have inH:∀ z:It3,Itm (s :: x :: p :: t :: T) g1 z->z.f=.u->z.v ≠ .ref A:=fun z hz hf F=>by
     obtain ⟨_,a',L',v1,v2,_⟩:=(wp.itm hz).own (by rw [hf];intro q;cases q)
     rw [F] at v1;cases v1
     obtain ⟨o,ho⟩:=((wp.itm hz).rep.inH A (by rw [v2];exact Dq)).ex
     rw [J] at ho;exact nsE ho
    have nl:∀ z ∈ (s :: x :: p :: t :: T),z.f=.u->z.v ≠ .ref l:=fun z hz hf F=>(wp.st i _ M z hz).2 (by rw [hf];intro q;cases q) l F Dq
    have kp:rf i g1 (fun c=>c=l\/c=A):=fun c D j u ej hf F=>by
     rcases D with rfl | rfl
     ·refine Classical.byContradiction fun n=>?_
      exact wp.ss j i u _ n ej M (by rw [hf];intro q;cases q) _ F Dq
     ·exact absurd F (inH u (.inl ⟨j,ej⟩) hf)
    have S:s.f=.u->∀ c,(c=l\/c=A)->s.v ≠ .ref c:=fun hf c D=>by
     rcases D with rfl | rfl
     ·exact nl s (by simp) hf
     ·exact inH s (.inr (by simp)) hf
    have O:p.f=.u->∀ c,(c=l\/c=A)->p.v ≠ .ref c:=fun hf c D=>by
     rcases D with rfl | rfl
     ·exact nl p (by simp) hf
     ·exact inH p (.inr (by simp)) hf
    have Q:x.f=.z:=(h3 x (by simp)).1
    have ab:t.f=.z:=(h3 t (by simp)).1
    generalize upd H1 A (.lst [s.v,p.v])=H2 at sl w3 B C
    refine ⟨A,l,rfl,⟨_,SqL.of C⟩,⟨_,SqL.of B⟩,?_⟩
    refine ⟨fun k n σ' H'=>(k=0/\n=2/\σ' = σ/\H'=H2)\/(k=1/\n=1/\∃ ρ4 I,Wf K G H' σ' ρ4 (p :: t :: T) I/\rf i I (fun c=>c=l\/c=A)/\H' l=some (.lst [x.v,t.v])/\H' A=some (.lst [s.v,p.v])/\ae (mn a b i p.d p.f t.d m) (znx (aJ .nx)) ρ4=some (r,ρ'))\/(k=2/\n=0/\H' l=some (.lst [x.v,t.v])/\H' A=some (.lst [s.v,p.v])/\E.nx σ' H'),⟨2,.inl ⟨rfl,rfl,rfl,rfl⟩⟩,?_⟩
    rintro k n σ' H' (⟨rfl,rfl,rfl,rfl⟩ | ⟨rfl,rfl,ρ4,I,w4,k4,c1,c2,P⟩ | ⟨rfl,rfl,c1,c2,P⟩)
    ·obtain ⟨V,y0⟩:=lp (n:=0) (N:=fun σ' H'=>∃ ρ4 I,Wf K G H' σ' ρ4 (p :: t :: T) I/\rf i I (fun c=>c=l\/c=A)/\H' l=some (.lst [x.v,t.v])/\H' A=some (.lst [s.v,p.v])/\ae (mn a b i p.d p.f t.d m) (znx (aJ .nx)) ρ4=some (r,ρ')) le w3 ((List.sublist_cons_self t T).trans (List.sublist_cons_self p _)) Q ha hb kp S B C rfl rfl e1 q fun σ' H' g' ρ2 a1 a2 a3 a4 X=>⟨ρ2,g',a1,a2,a3,a4,X⟩
     exact .inr ⟨V,_,fun σ' H' h=>⟨1,by decide,.inr (.inl ⟨rfl,rfl,h⟩)⟩,y0⟩
    ·obtain ⟨V,y0⟩:=lp (n:=1) (N:=fun σ' H'=>H' l=some (.lst [x.v,t.v])/\H' A=some (.lst [s.v,p.v])/\E.nx σ' H') le w4 (List.Sublist.refl T) ab ha hb k4 O c1 c2 rfl rfl P q fun σ' H' g' ρ2 a1 a2 a3 a4 X=>by
      cases X
      exact ⟨a3,a4,q σ' H' g' a1⟩
     exact .inr ⟨V,_,fun σ' H' h=>⟨0,by decide,.inr (.inr ⟨rfl,rfl,h⟩)⟩,y0⟩
    ·exact .inl ⟨⟨_,_,SqL.of c2,SqL.of c1,.inl (DH 2)⟩,P⟩
 ·exact nsE e1
end
section
variable {X:Cx} {G0:Gm} {W0:D->Sto->Prop}
theorem yY (a b i:Nat) {x y z:Str} {es:List Expr} {body:List Stmt} {ms:M3 (List R3)} {sm:SM} {k:Nat} {l p2 j d e pos pos' q:Pos} (o:PassesOwn (model X.prog X.w) X.A X.env X.xe) (f:X.calm=true) (g:X.N.Nodup)
  (h1:X.N[a]?=some x) (l1:Loc X.env.scope x) (f1:X.fn x=true\/X.env.scope.names.lookup x=some .local) (m:G0.pr a=false) (h2:X.N[b]?=some y) (l2:Loc X.env.scope y) (f2:X.fn y=true\/X.env.scope.names.lookup y=some .local) (u:G0.pr b=false)
  (h3:X.N[i]?=some z) (r:Vis X.env.scope z) (hd:(z == ("__debug__":Str))=false) (c:(z == ("__classdict__":Str))=false)
  (p:Gl X "zip") (hm:X.mg "zip"=none) (s:RA X G0 W0 es ms) (t:RSs X G0 W0 body sm) (n:∀ v,foldedSetIterable (.Call (.Name "zip" e) [.List es j,.Name z d] [] pos') X.env v=pure v) :
  RS X G0 W0 (.For (.Tuple [.Name x l,.Name y p2] k q) (.Call (.Name "zip" e) [.List es j,.Name z d] [] pos') body [] pos) (n4 a b i ms sm) :=
 ⟨PS.imp (vZ o f (B8 p hm (f9 (wj s.h) (f9 (iZ h3 r hd c) mN)) rfl rfl) (qj f (fD (fZ g h1 l1 f1) (fD (fZ g h2 l2 f2) mL rfl) rfl) rfl rfl) t.h n) fun _ _ _ h=>yt szl m u h⟩
end
end L3
end
section
namespace L3
open PySem L2
section
variable {K:FG} {X:Cx}
theorem CB (hu:X.A.units+1 < cLine):MtR X "dict.get" (fun x b H Q=>∃ (a:Addr) (y z:V) (o:Option V),x=.ref a/\b=[y,z]/\DGet H a y o/\Q (o.getD z) H):=by
 intro pins s σ H x b v us Q I f e h
 obtain ⟨a,y,z,o,rfl,rfl,g,q⟩:=h
 cases f
 obtain ⟨u,r,rfl,d,i⟩:=il e
 exact C5 hu I g d i fun k s' c j=>⟨_,_,c,j,q⟩
def xc:D->Bool
 | .dt _=>true
 | _=>false
theorem Aa:∀ d v L H,xc d=true->Rep K H d v L->tyV K "dict" v H:=fun d v L H h r=>by
 cases d with
 | dt kvs =>
  obtain ⟨c,ps,e,rfl,rfl,a,b,rs⟩:=r.view
  exact .inr (.inr (.inl ⟨rfl,.inr ⟨_,a⟩⟩))
 | _=>cases h
def getN3:D->D->D->Option (D × Fl)
 | .dt kvs,.tup ks,.int n=>match cp ks with
  | some k=>some ((cA kvs k).getD (.int n),.z)
  | none=>none
 | _,_,_=>none
def o6:List D->Option (D × Fl)
 | [a,b,c]=>getN3 a b c
 | _=>none
theorem As:cM K (fun xs H Q=>∃ x r,xs=x :: r/\∃ (a:Addr) (y z:V) (o:Option V),x=.ref a/\r=[y,z]/\DGet H a y o/\Q (o.getD z) H) o6:=fun ys H Q p ra e q=>by
 match ys,ra,e,q with
 | [],_,e,_=>exact nsE e
 | [_],_,e,_=>exact nsE e
 | [_,_],_,e,_=>exact nsE e
 | [a,b,c],ra,e,q =>
  have f:=ra a (by simp)
  have rb:=(ra b (by simp)).rep
  have rc:=(ra c (by simp)).rep
  obtain ⟨da,J,L,w⟩:=a
  obtain ⟨db,M,D,G⟩:=b
  obtain ⟨l,I,E,F⟩:=c
  have g:=f.rep
  dsimp only at g rb rc
  cases da with
  | dt kvs =>
   obtain ⟨h,ps,C,rfl,rfl,A,m,rs⟩:=g.view
   cases db with
   | tup ks =>
    obtain ⟨N,ws,rfl,B,i⟩:=rb.view
    cases l with
    | int n =>
     obtain ⟨rfl,rfl⟩:=rc.view
     have e:(match cp ks with | some k=>some ((cA kvs k).getD (.int n),Fl.z) | none=>none)=some p:=e
     cases h1:cp ks with
     | none=>rw [h1] at e;exact nsE e
     | some k =>
      rw [h1] at e
      cases e
      have hw:=dC i h1
      subst hw
      refine ⟨_,_,rfl,h,_,_,gu ps k,rfl,rfl,DGet.t A B,?_⟩
      cases h2:cA kvs k with
      | none =>
       have j:=o3 (k:=k) m
       rw [h2] at j
       cases u:gu ps k with
       | some v=>rw [u] at j;cases j
       | none=>exact q ⟨_,_,[],.z⟩ H (di (.int _)) (by rw [h2];rfl) rfl
      | some d =>
       obtain ⟨v,L',g1,g2,g3⟩:=kF m rs h2
       rw [g1]
       exact q ⟨d,v,L',.z⟩ H (mP g2 fun c s=>kA (y:=⟨.dt kvs,.ref h,h :: C,w⟩) Dq f rfl rfl c (g3 c s)) (by rw [h2];rfl) rfl
    | _=>exact nsE e
   | _=>cases l <;> exact nsE e
  | _=>cases db <;> cases l <;> exact nsE e
 | _ :: _ :: _ :: _ :: _,_,e,_=>exact nsE e
end
end L3
end
section
namespace L3
open PySem L2
section
variable {K:FG} {X:Cx}
def wC (a b:D):Option (D × Fl):=match a,b with
 | .dt x,.dt y=>match kvI x,kvI y with
  | some p,some q=>if (decide (p.length=q.length) && p.all fun r=>q.any fun t=>decide (t=r))=true then some (.bl false,.z) else none
  | _,_=>none
 | _,_=>none
theorem Ct:OpD K L2.rNeP wC:=fun a b H Q p ra rb e q=>by
 obtain ⟨da,w,A,v⟩:=a
 obtain ⟨db,B,n,u⟩:=b
 obtain ⟨ra,s⟩:=ra
 obtain ⟨rb,ob⟩:=rb
 dsimp only at ra rb e
 cases da <;> try (exact nsE e)
 cases db <;> try (exact nsE e)
 rename_i x y
 obtain ⟨g,ps,C,rfl,rfl,k,i,rs⟩:=ra.view
 obtain ⟨m,qs,o,rfl,rfl,l,c,d⟩:=rb.view
 have e:(match kvI x,kvI y with | some p,some q=>if (decide (p.length=q.length) && p.all fun r=>q.any fun t=>decide (t=r))=true then some (D.bl false,Fl.z) else none | _,_=>none)=some p:=e
 cases h1:kvI x with
 | none=>rw [h1] at e;exact nsE e
 | some m1 =>
  cases h2:kvI y with
  | none=>rw [h1,h2] at e;exact nsE e
  | some m2 =>
   rw [h1,h2] at e
   dsimp only at e
   split at e
   ·rename_i he
    cases e
    have e1:=qD h1
    have j:=qD h2
    subst e1
    subst j
    have f:=AK i rs
    have p2:=AK c d
    subst f
    subst p2
    refine ⟨g,m,m1,m2,rfl,rfl,.inl k,.inl l,of_decide_eq_true (Bool.and_eq_true_iff.mp he).1,fun r h=>?_,?_⟩
    ·obtain ⟨t,h1,h2⟩:=List.any_eq_true.mp (List.all_eq_true.mp (Bool.and_eq_true_iff.mp he).2 r h)
     rw [<- of_decide_eq_true h2]
     exact h1
    exact q ⟨.bl false,.bl false,[],.z⟩ H (di (.bl _)) rfl rfl
   ·exact nsE e
end
end L3
end
section
namespace L2
open PySem PySem.Spec PyProof.Rows
def U8:List (List Int):=[[],[0],[1],[0,1],[2],[0,2],[1,2],[0,1,2],[3],[0,3],[1,3],[0,1,3],[2,3],[0,2,3],[1,2,3],[0,1,2,3],[4],[0,4],[1,4],[0,1,4],[2,4],[0,2,4],[1,2,4],[0,1,2,4],[3,4],[0,3,4],[1,3,4],[0,1,3,4],[2,3,4],[0,2,3,4],[1,2,3,4],[0,1,2,3,4],[5],[0,5],[1,5],[0,1,5],[2,5],[0,2,5],[1,2,5],[0,1,2,5],[3,5],[0,3,5],[1,3,5],[0,1,3,5],[2,3,5],[0,2,3,5],[1,2,3,5],[0,1,2,3,5],[4,5],[0,4,5],[1,4,5],[0,1,4,5],[2,4,5],[0,2,4,5],[1,2,4,5],[0,1,2,4,5],[3,4,5],[0,3,4,5],[1,3,4,5],[0,1,3,4,5],[2,3,4,5],[0,2,3,4,5],[1,2,3,4,5],[0,1,2,3,4,5],[6],[0,6],[1,6],[0,1,6],[2,6],[0,2,6],[1,2,6],[0,1,2,6],[3,6],[0,3,6],[1,3,6],[0,1,3,6],[2,3,6],[0,2,3,6],[1,2,3,6],[0,1,2,3,6],[4,6],[0,4,6],[1,4,6],[0,1,4,6],[2,4,6],[0,2,4,6],[1,2,4,6],[0,1,2,4,6],[3,4,6],[0,3,4,6],[1,3,4,6],[0,1,3,4,6],[2,3,4,6],[0,2,3,4,6],[1,2,3,4,6],[0,1,2,3,4,6],[5,6],[0,5,6],[1,5,6],[0,1,5,6],[2,5,6],[0,2,5,6],[1,2,5,6],[0,1,2,5,6],[3,5,6],[0,3,5,6],[1,3,5,6],[0,1,3,5,6],[2,3,5,6],[0,2,3,5,6],[1,2,3,5,6],[0,1,2,3,5,6],[4,5,6],[0,4,5,6],[1,4,5,6],[0,1,4,5,6],[2,4,5,6],[0,2,4,5,6],[1,2,4,5,6],[0,1,2,4,5,6],[3,4,5,6],[0,3,4,5,6],[1,3,4,5,6],[0,1,3,4,5,6],[2,3,4,5,6],[0,2,3,4,5,6],[1,2,3,4,5,6],[0,1,2,3,4,5,6],[7],[0,7],[1,7],[0,1,7],[2,7],[0,2,7],[1,2,7],[0,1,2,7],[3,7],[0,3,7],[1,3,7],[0,1,3,7],[2,3,7],[0,2,3,7],[1,2,3,7],[0,1,2,3,7],[4,7],[0,4,7],[1,4,7],[0,1,4,7],[2,4,7],[0,2,4,7],[1,2,4,7],[0,1,2,4,7],[3,4,7],[0,3,4,7],[1,3,4,7],[0,1,3,4,7],[2,3,4,7],[0,2,3,4,7],[1,2,3,4,7],[0,1,2,3,4,7],[5,7],[0,5,7],[1,5,7],[0,1,5,7],[2,5,7],[0,2,5,7],[1,2,5,7],[0,1,2,5,7],[3,5,7],[0,3,5,7],[1,3,5,7],[0,1,3,5,7],[2,3,5,7],[0,2,3,5,7],[1,2,3,5,7],[0,1,2,3,5,7],[4,5,7],[0,4,5,7],[1,4,5,7],[0,1,4,5,7],[2,4,5,7],[0,2,4,5,7],[1,2,4,5,7],[0,1,2,4,5,7],[3,4,5,7],[0,3,4,5,7],[1,3,4,5,7],[0,1,3,4,5,7],[2,3,4,5,7],[0,2,3,4,5,7],[1,2,3,4,5,7],[0,1,2,3,4,5,7],[6,7],[0,6,7],[1,6,7],[0,1,6,7],[2,6,7],[0,2,6,7],[1,2,6,7],[0,1,2,6,7],[3,6,7],[0,3,6,7],[1,3,6,7],[0,1,3,6,7],[2,3,6,7],[0,2,3,6,7],[1,2,3,6,7],[0,1,2,3,6,7],[4,6,7],[0,4,6,7],[1,4,6,7],[0,1,4,6,7],[2,4,6,7],[0,2,4,6,7],[1,2,4,6,7],[0,1,2,4,6,7],[3,4,6,7],[0,3,4,6,7],[1,3,4,6,7],[0,1,3,4,6,7],[2,3,4,6,7],[0,2,3,4,6,7],[1,2,3,4,6,7],[0,1,2,3,4,6,7],[5,6,7],[0,5,6,7],[1,5,6,7],[0,1,5,6,7],[2,5,6,7],[0,2,5,6,7],[1,2,5,6,7],[0,1,2,5,6,7],[3,5,6,7],[0,3,5,6,7],[1,3,5,6,7],[0,1,3,5,6,7],[2,3,5,6,7],[0,2,3,5,6,7],[1,2,3,5,6,7],[0,1,2,3,5,6,7],[4,5,6,7],[0,4,5,6,7],[1,4,5,6,7],[0,1,4,5,6,7],[2,4,5,6,7],[0,2,4,5,6,7],[1,2,4,5,6,7],[0,1,2,4,5,6,7],[3,4,5,6,7],[0,3,4,5,6,7],[1,3,4,5,6,7],[0,1,3,4,5,6,7],[2,3,4,5,6,7],[0,2,3,4,5,6,7],[1,2,3,4,5,6,7],[0,1,2,3,4,5,6,7]]
def L8_0:List Nat:=List.range 256
def L8_1:List Nat:=L8_0.take 2 ++ ([3,7,15,31,23,11,27,19,5,13,29,21,9,25,17,2,6,14,30,22,10,26,18,4,12,28,20,8,24,16] ++ L8_0.drop 32)
def L8_2:List Nat:=L8_1.take 32 ++ ([33,32] ++ L8_1.drop 34)
def L8_3:List Nat:=L8_2.take 32 ++ ([63,47,55,39,59,43,51,35,61,45,53,37,57,41,49,33,62,46,54,38,58,42,50,34,60,44,52,36,56,40,48,32] ++ L8_2.drop 64)
def L8_4:List Nat:=L8_3.take 64 ++ ([65,64] ++ L8_3.drop 66)
def L8_5:List Nat:=L8_4.take 64 ++ ([95,79,87,71,91,75,83,67,93,77,85,69,89,73,81,65,94,78,86,70,90,74,82,66,92,76,84,68,88,72,80,64] ++ L8_4.drop 96)
def L8_6:List Nat:=L8_5.take 6 ++ ([63,47,23,55,39,11,27,59,43,19,51,35,5,13,29,61,45,21,53,37,9,25,57,41,17,49,33,2,6,14,30,62,46,22,54,38,10,26,58,42,18,50,34,4,12,28,60,44,20,52,36,8,24,56,40,16] ++ L8_5.drop 62)
def L8_7:List Nat:=L8_6.take 96 ++ ([97,96] ++ L8_6.drop 98)
def L8_8:List Nat:=L8_7.take 96 ++ ([127,111,119,103,123,107,115,99,125,109,117,101,121,105,113,97,126,110,118,102,122,106,114,98,124,108,116,100,120,104,112,96] ++ L8_7.drop 128)
def L8_9:List Nat:=L8_8.take 128 ++ ([129,128] ++ L8_8.drop 130)
def L8_10:List Nat:=L8_9.take 128 ++ ([159,143,151,135,155,139,147,131,157,141,149,133,153,137,145,129,158,142,150,134,154,138,146,130,156,140,148,132,152,136,144,128] ++ L8_9.drop 160)
def L8_11:List Nat:=L8_10.take 64 ++ ([127,95,111,79,119,87,103,71,123,91,107,75,115,83,99,67,125,93,109,77,117,85,101,69,121,89,105,73,113,81,97,65,126,94,110,78,118,86,102,70,122,90,106,74,114,82,98,66,124,92,108,76,116,84,100,68,120,88,104,72,112,80,96,64] ++ L8_10.drop 128)
def L8_12:List Nat:=L8_11.take 7 ++ ([127,95,47,111,79,23,55,119,87,39,103,71,11,27,59,123,91,43,107,75,19,51,115,83,35,99,67,5,13,29,61,125,93,45,109,77,21,53,117,85,37,101,69,9,25,57,121,89,41,105,73,17,49,113,81,33,97,65,2,6,14,30,62,126,94,46,110,78,22,54,118,86,38,102,70,10,26,58,122,90,42,106,74,18,50,114,82,34,98,66,4,12,28,60,124,92,44,108,76,20,52,116,84,36,100,68,8,24,56,120,88,40,104,72,16,48,112,80,32] ++ L8_11.drop 126)
def L8_13:List Nat:=L8_12.take 160 ++ ([161,160] ++ L8_12.drop 162)
def L8_14:List Nat:=L8_13.take 160 ++ ([191,175,183,167,187,171,179,163,189,173,181,165,185,169,177,161,190,174,182,166,186,170,178,162,188,172,180,164,184,168,176,160] ++ L8_13.drop 192)
def L8_15:List Nat:=L8_14.take 192 ++ ([193,192] ++ L8_14.drop 194)
def L8_16:List Nat:=L8_15.take 192 ++ ([223,207,215,199,219,203,211,195,221,205,213,197,217,201,209,193,222,206,214,198,218,202,210,194,220,204,212,196,216,200,208,192] ++ L8_15.drop 224)
def L8_17:List Nat:=L8_16.take 128 ++ ([191,159,175,143,183,151,167,135,187,155,171,139,179,147,163,131,189,157,173,141,181,149,165,133,185,153,169,137,177,145,161,129,190,158,174,142,182,150,166,134,186,154,170,138,178,146,162,130,188,156,172,140,180,148,164,132,184,152,168,136,176,144,160,128] ++ L8_16.drop 192)
def L8_18:List Nat:=L8_17.take 224 ++ ([225,224] ++ L8_17.drop 226)
def L8_19:List Nat:=L8_18.take 224 ++ [255,239,247,231,251,235,243,227,253,237,245,229,249,233,241,225,254,238,246,230,250,234,242,226,252,236,244,228,248,232,240,224]
def L8_20:List Nat:=L8_19.take 192 ++ [255,223,239,207,247,215,231,199,251,219,235,203,243,211,227,195,253,221,237,205,245,213,229,197,249,217,233,201,241,209,225,193,254,222,238,206,246,214,230,198,250,218,234,202,242,210,226,194,252,220,236,204,244,212,228,196,248,216,232,200,240,208,224,192]
def L8_21:List Nat:=L8_20.take 128 ++ [255,191,223,159,239,175,207,143,247,183,215,151,231,167,199,135,251,187,219,155,235,171,203,139,243,179,211,147,227,163,195,131,253,189,221,157,237,173,205,141,245,181,213,149,229,165,197,133,249,185,217,153,233,169,201,137,241,177,209,145,225,161,193,129,254,190,222,158,238,174,206,142,246,182,214,150,230,166,198,134,250,186,218,154,234,170,202,138,242,178,210,146,226,162,194,130,252,188,220,156,236,172,204,140,244,180,212,148,228,164,196,132,248,184,216,152,232,168,200,136,240,176,208,144,224,160,192,128]
def L8_22:List Nat:=L8_21.take 8 ++ ([255,191,95,223,159,47,111,239,175,79,207,143,23,55,119,247,183,87,215,151,39,103,231,167,71,199,135,11,27,59,123,251,187,91,219,155,43,107,235,171,75,203,139,19,51,115,243,179,83,211,147,35,99,227,163,67,195,131,5,13,29,61,125,253,189,93,221,157,45,109,237,173,77,205,141,21,53,117,245,181,85,213,149,37,101,229,165,69,197,133,9,25,57,121,249,185,89,217,153,41,105,233,169,73,201,137,17,49,113,241,177,81,209,145,33,97,225,161,65,193,129,2,6,14,30,62,126,254,190,94,222,158,46,110,238,174,78,206,142,22,54,118,246,182,86,214,150,38,102,230,166,70,198,134,10,26,58,122,250,186,90,218,154,42,106,234,170,74,202,138,18,50,114,242,178,82,210,146,34,98,226,162,66,194,130,4,12,28,60,124,252,188,92,220,156,44,108,236,172,76,204,140,20,52,116,244,180,84,212,148,36,100,228,164,68,196,132,8,24,56,120,248,184,88,216,152,40,104,232,168,72,200,136,16,48,112,240,176,80,208,144,32,96,224,160,64] ++ L8_21.drop 254)
theorem g8_0:ev (ay U8) ((countRun' 0 256).run (ac L8_0 [] 7)) none=some ((some 3,(ac L8_0 [] 7)),none):=by kernel_rfl
theorem g8_1:ev (ay U8) ((binarySort' 0 32 3).run (ac L8_0 [] 7)) none=some ((true,(ac L8_1 [] 7)),none):=by kernel_rfl
theorem g8_2:ev (ay U8) ((countRun' 32 224).run (ac L8_1 [(0,32,0)] 7)) none=some ((some 2,(ac L8_2 [(0,32,0)] 7)),none):=by kernel_rfl
theorem g8_3:ev (ay U8) ((binarySort' 32 32 2).run (ac L8_2 [(0,32,0)] 7)) none=some ((true,(ac L8_3 [(0,32,0)] 7)),none):=by kernel_rfl
theorem g8_4:ev (ay U8) ((countRun' 64 192).run (ac L8_3 [(0,32,3),(32,32,0)] 7)) none=some ((some 2,(ac L8_4 [(0,32,3),(32,32,0)] 7)),none):=by kernel_rfl
theorem g8_5:ev (ay U8) ((binarySort' 64 32 2).run (ac L8_4 [(0,32,3),(32,32,0)] 7)) none=some ((true,(ac L8_5 [(0,32,3),(32,32,0)] 7)),none):=by kernel_rfl
theorem g8_6:ev (ay U8) ((mergeAt' 0).run (ac L8_5 [(0,32,3),(32,32,0)] 7)) none=some ((true,(ac L8_6 [(0,64,3)] 7)),none):=by kernel_rfl
theorem g8_7:ev (ay U8) ((countRun' 96 160).run (ac L8_6 [(0,64,2),(64,32,0)] 7)) none=some ((some 2,(ac L8_7 [(0,64,2),(64,32,0)] 7)),none):=by kernel_rfl
theorem g8_8:ev (ay U8) ((binarySort' 96 32 2).run (ac L8_7 [(0,64,2),(64,32,0)] 7)) none=some ((true,(ac L8_8 [(0,64,2),(64,32,0)] 7)),none):=by kernel_rfl
theorem g8_9:ev (ay U8) ((countRun' 128 128).run (ac L8_8 [(0,64,2),(64,32,3),(96,32,0)] 7)) none=some ((some 2,(ac L8_9 [(0,64,2),(64,32,3),(96,32,0)] 7)),none):=by kernel_rfl
theorem g8_10:ev (ay U8) ((binarySort' 128 32 2).run (ac L8_9 [(0,64,2),(64,32,3),(96,32,0)] 7)) none=some ((true,(ac L8_10 [(0,64,2),(64,32,3),(96,32,0)] 7)),none):=by kernel_rfl
theorem g8_11:ev (ay U8) ((mergeAt' 1).run (ac L8_10 [(0,64,2),(64,32,3),(96,32,0)] 7)) none=some ((true,(ac L8_11 [(0,64,2),(64,64,3)] 7)),none):=by kernel_rfl
theorem g8_12:ev (ay U8) ((mergeAt' 0).run (ac L8_11 [(0,64,2),(64,64,3)] 7)) none=some ((true,(ac L8_12 [(0,128,2)] 7)),none):=by kernel_rfl
theorem g8_13:ev (ay U8) ((countRun' 160 96).run (ac L8_12 [(0,128,1),(128,32,0)] 7)) none=some ((some 2,(ac L8_13 [(0,128,1),(128,32,0)] 7)),none):=by kernel_rfl
theorem g8_14:ev (ay U8) ((binarySort' 160 32 2).run (ac L8_13 [(0,128,1),(128,32,0)] 7)) none=some ((true,(ac L8_14 [(0,128,1),(128,32,0)] 7)),none):=by kernel_rfl
theorem g8_15:ev (ay U8) ((countRun' 192 64).run (ac L8_14 [(0,128,1),(128,32,3),(160,32,0)] 7)) none=some ((some 2,(ac L8_15 [(0,128,1),(128,32,3),(160,32,0)] 7)),none):=by kernel_rfl
theorem g8_16:ev (ay U8) ((binarySort' 192 32 2).run (ac L8_15 [(0,128,1),(128,32,3),(160,32,0)] 7)) none=some ((true,(ac L8_16 [(0,128,1),(128,32,3),(160,32,0)] 7)),none):=by kernel_rfl
theorem g8_17:ev (ay U8) ((mergeAt' 1).run (ac L8_16 [(0,128,1),(128,32,3),(160,32,0)] 7)) none=some ((true,(ac L8_17 [(0,128,1),(128,64,3)] 7)),none):=by kernel_rfl
theorem g8_18:ev (ay U8) ((countRun' 224 32).run (ac L8_17 [(0,128,1),(128,64,2),(192,32,0)] 7)) none=some ((some 2,(ac L8_18 [(0,128,1),(128,64,2),(192,32,0)] 7)),none):=by kernel_rfl
theorem g8_19:ev (ay U8) ((binarySort' 224 32 2).run (ac L8_18 [(0,128,1),(128,64,2),(192,32,0)] 7)) none=some ((true,(ac L8_19 [(0,128,1),(128,64,2),(192,32,0)] 7)),none):=by kernel_rfl
theorem g8_20:ev (ay U8) ((mergeAt' 2).run (ac L8_19 [(0,128,1),(128,64,2),(192,32,3),(224,32,0)] 7)) none=some ((true,(ac L8_20 [(0,128,1),(128,64,2),(192,64,3)] 7)),none):=by kernel_rfl
theorem g8_21:ev (ay U8) ((mergeAt' 1).run (ac L8_20 [(0,128,1),(128,64,2),(192,64,3)] 7)) none=some ((true,(ac L8_21 [(0,128,1),(128,128,2)] 7)),none):=by kernel_rfl
theorem g8_22:ev (ay U8) ((mergeAt' 0).run (ac L8_21 [(0,128,1),(128,128,2)] 7)) none=some ((true,(ac L8_22 [(0,256,1)] 7)),none):=by kernel_rfl
theorem runs8:ev (ay U8) (sortRuns'.run (ac L8_0 [] 7)) none=some (((),(ac L8_22 [(0,256,1)] 7)),none):=by
 rw [sortRuns'_eq]
 refine aa (a:=(ac L8_0 [] 7)) (st1:=(ac L8_0 [] 7)) rfl ?_
 have c:(arrOf (ac L8_0 [] 7)).size=256:=by kernel_rfl
 have b:minRun' 256 256 0=32:=rfl
 rw [c]
 try dsimp only
 rw [b]
 rw [Std.Legacy.Range.forIn_eq_forIn_range']
 refine aa (a:=(none,256)) (st1:=(ac L8_19 [(0,128,1),(128,64,2),(192,32,3),(224,32,0)] 7)) (aD (b1:=(none,32)) (st1:=(ac L8_1 [(0,32,0)] 7)) ?_ (aD (b1:=(none,64)) (st1:=(ac L8_3 [(0,32,3),(32,32,0)] 7)) ?_ (aD (b1:=(none,96)) (st1:=(ac L8_6 [(0,64,2),(64,32,0)] 7)) ?_ (aD (b1:=(none,128)) (st1:=(ac L8_8 [(0,64,2),(64,32,3),(96,32,0)] 7)) ?_ (aD (b1:=(none,160)) (st1:=(ac L8_12 [(0,128,1),(128,32,0)] 7)) ?_ (aD (b1:=(none,192)) (st1:=(ac L8_14 [(0,128,1),(128,32,3),(160,32,0)] 7)) ?_ (aD (b1:=(none,224)) (st1:=(ac L8_17 [(0,128,1),(128,64,2),(192,32,0)] 7)) ?_ (aD (b1:=(none,256)) (st1:=(ac L8_19 [(0,128,1),(128,64,2),(192,32,3),(224,32,0)] 7)) ?_ (a9 (b1:=(none,256)) (st1:=(ac L8_19 [(0,128,1),(128,64,2),(192,32,3),(224,32,0)] 7)) ?_))))))))) ?_
 ·try dsimp only
  rw [if_neg (by decide)]
  refine aa g8_0 ?_
  try dsimp only
  rw [if_pos (by decide)]
  refine aa (a:=()) (st1:=(ac L8_0 [] 7)) rfl ?_
  refine aa g8_1 ?_
  rw [if_neg (by decide)]
  refine aa (a:=(ac L8_1 [] 7)) (st1:=(ac L8_1 [] 7)) rfl ?_
  rw [show (pendingOf (ac L8_1 [] 7)).back?=none from rfl]
  try dsimp only
  refine aa (a:=()) (st1:=(ac L8_1 [(0,32,0)] 7)) rfl ?_
  exact rfl
 ·try dsimp only
  rw [if_neg (by decide)]
  refine aa g8_2 ?_
  try dsimp only
  rw [if_pos (by decide)]
  refine aa (a:=()) (st1:=(ac L8_2 [(0,32,0)] 7)) rfl ?_
  refine aa g8_3 ?_
  rw [if_neg (by decide)]
  refine aa (a:=(ac L8_3 [(0,32,0)] 7)) (st1:=(ac L8_3 [(0,32,0)] 7)) rfl ?_
  rw [show (pendingOf (ac L8_3 [(0,32,0)] 7)).back?=some (0,32,0) from rfl]
  try dsimp only
  rw [Std.Legacy.Range.forIn_eq_forIn_range']
  refine aa (a:=(none,())) (st1:=(ac L8_3 [(0,32,0)] 7)) (a9 (b1:=(none,())) (st1:=(ac L8_3 [(0,32,0)] 7)) ?_) ?_
  ·try dsimp only
   refine aa (a:=(ac L8_3 [(0,32,0)] 7)) (st1:=(ac L8_3 [(0,32,0)] 7)) rfl ?_
   rw [show (if (pendingOf (ac L8_3 [(0,32,0)] 7)).size > 1 then (pendingOf (ac L8_3 [(0,32,0)] 7))[(pendingOf (ac L8_3 [(0,32,0)] 7)).size - 2]? else none)=none from rfl]
   exact rfl
  try dsimp only
  refine aa (a:=()) (st1:=(ac L8_3 [(0,32,3)] 7)) rfl ?_
  refine aa (a:=()) (st1:=(ac L8_3 [(0,32,3),(32,32,0)] 7)) rfl ?_
  exact rfl
 ·try dsimp only
  rw [if_neg (by decide)]
  refine aa g8_4 ?_
  try dsimp only
  rw [if_pos (by decide)]
  refine aa (a:=()) (st1:=(ac L8_4 [(0,32,3),(32,32,0)] 7)) rfl ?_
  refine aa g8_5 ?_
  rw [if_neg (by decide)]
  refine aa (a:=(ac L8_5 [(0,32,3),(32,32,0)] 7)) (st1:=(ac L8_5 [(0,32,3),(32,32,0)] 7)) rfl ?_
  rw [show (pendingOf (ac L8_5 [(0,32,3),(32,32,0)] 7)).back?=some (32,32,0) from rfl]
  try dsimp only
  rw [Std.Legacy.Range.forIn_eq_forIn_range']
  refine aa (a:=(none,())) (st1:=(ac L8_6 [(0,64,3)] 7)) (aD (b1:=(none,())) (st1:=(ac L8_6 [(0,64,3)] 7)) ?_ (a9 (b1:=(none,())) (st1:=(ac L8_6 [(0,64,3)] 7)) ?_)) ?_
  ·try dsimp only
   refine aa (a:=(ac L8_5 [(0,32,3),(32,32,0)] 7)) (st1:=(ac L8_5 [(0,32,3),(32,32,0)] 7)) rfl ?_
   rw [show (if (pendingOf (ac L8_5 [(0,32,3),(32,32,0)] 7)).size > 1 then (pendingOf (ac L8_5 [(0,32,3),(32,32,0)] 7))[(pendingOf (ac L8_5 [(0,32,3),(32,32,0)] 7)).size - 2]? else none)=some (0,32,3) from rfl]
   try dsimp only
   rw [if_neg (by decide)]
   refine aa g8_6 ?_
   rw [if_neg (by decide)]
   exact rfl
  ·try dsimp only
   refine aa (a:=(ac L8_6 [(0,64,3)] 7)) (st1:=(ac L8_6 [(0,64,3)] 7)) rfl ?_
   rw [show (if (pendingOf (ac L8_6 [(0,64,3)] 7)).size > 1 then (pendingOf (ac L8_6 [(0,64,3)] 7))[(pendingOf (ac L8_6 [(0,64,3)] 7)).size - 2]? else none)=none from rfl]
   exact rfl
  try dsimp only
  refine aa (a:=()) (st1:=(ac L8_6 [(0,64,2)] 7)) rfl ?_
  refine aa (a:=()) (st1:=(ac L8_6 [(0,64,2),(64,32,0)] 7)) rfl ?_
  exact rfl
 ·try dsimp only
  rw [if_neg (by decide)]
  refine aa g8_7 ?_
  try dsimp only
  rw [if_pos (by decide)]
  refine aa (a:=()) (st1:=(ac L8_7 [(0,64,2),(64,32,0)] 7)) rfl ?_
  refine aa g8_8 ?_
  rw [if_neg (by decide)]
  refine aa (a:=(ac L8_8 [(0,64,2),(64,32,0)] 7)) (st1:=(ac L8_8 [(0,64,2),(64,32,0)] 7)) rfl ?_
  rw [show (pendingOf (ac L8_8 [(0,64,2),(64,32,0)] 7)).back?=some (64,32,0) from rfl]
  try dsimp only
  rw [Std.Legacy.Range.forIn_eq_forIn_range']
  refine aa (a:=(none,())) (st1:=(ac L8_8 [(0,64,2),(64,32,0)] 7)) (a9 (b1:=(none,())) (st1:=(ac L8_8 [(0,64,2),(64,32,0)] 7)) ?_) ?_
  ·try dsimp only
   refine aa (a:=(ac L8_8 [(0,64,2),(64,32,0)] 7)) (st1:=(ac L8_8 [(0,64,2),(64,32,0)] 7)) rfl ?_
   rw [show (if (pendingOf (ac L8_8 [(0,64,2),(64,32,0)] 7)).size > 1 then (pendingOf (ac L8_8 [(0,64,2),(64,32,0)] 7))[(pendingOf (ac L8_8 [(0,64,2),(64,32,0)] 7)).size - 2]? else none)=some (0,64,2) from rfl]
   try dsimp only
   rw [if_pos (by decide)]
   exact rfl
  try dsimp only
  refine aa (a:=()) (st1:=(ac L8_8 [(0,64,2),(64,32,3)] 7)) rfl ?_
  refine aa (a:=()) (st1:=(ac L8_8 [(0,64,2),(64,32,3),(96,32,0)] 7)) rfl ?_
  exact rfl
 ·try dsimp only
  rw [if_neg (by decide)]
  refine aa g8_9 ?_
  try dsimp only
  rw [if_pos (by decide)]
  refine aa (a:=()) (st1:=(ac L8_9 [(0,64,2),(64,32,3),(96,32,0)] 7)) rfl ?_
  refine aa g8_10 ?_
  rw [if_neg (by decide)]
  refine aa (a:=(ac L8_10 [(0,64,2),(64,32,3),(96,32,0)] 7)) (st1:=(ac L8_10 [(0,64,2),(64,32,3),(96,32,0)] 7)) rfl ?_
  rw [show (pendingOf (ac L8_10 [(0,64,2),(64,32,3),(96,32,0)] 7)).back?=some (96,32,0) from rfl]
  try dsimp only
  rw [Std.Legacy.Range.forIn_eq_forIn_range']
  refine aa (a:=(none,())) (st1:=(ac L8_12 [(0,128,2)] 7)) (aD (b1:=(none,())) (st1:=(ac L8_11 [(0,64,2),(64,64,3)] 7)) ?_ (aD (b1:=(none,())) (st1:=(ac L8_12 [(0,128,2)] 7)) ?_ (a9 (b1:=(none,())) (st1:=(ac L8_12 [(0,128,2)] 7)) ?_))) ?_
  ·try dsimp only
   refine aa (a:=(ac L8_10 [(0,64,2),(64,32,3),(96,32,0)] 7)) (st1:=(ac L8_10 [(0,64,2),(64,32,3),(96,32,0)] 7)) rfl ?_
   rw [show (if (pendingOf (ac L8_10 [(0,64,2),(64,32,3),(96,32,0)] 7)).size > 1 then (pendingOf (ac L8_10 [(0,64,2),(64,32,3),(96,32,0)] 7))[(pendingOf (ac L8_10 [(0,64,2),(64,32,3),(96,32,0)] 7)).size - 2]? else none)=some (64,32,3) from rfl]
   try dsimp only
   rw [if_neg (by decide)]
   refine aa g8_11 ?_
   rw [if_neg (by decide)]
   exact rfl
  ·try dsimp only
   refine aa (a:=(ac L8_11 [(0,64,2),(64,64,3)] 7)) (st1:=(ac L8_11 [(0,64,2),(64,64,3)] 7)) rfl ?_
   rw [show (if (pendingOf (ac L8_11 [(0,64,2),(64,64,3)] 7)).size > 1 then (pendingOf (ac L8_11 [(0,64,2),(64,64,3)] 7))[(pendingOf (ac L8_11 [(0,64,2),(64,64,3)] 7)).size - 2]? else none)=some (0,64,2) from rfl]
   try dsimp only
   rw [if_neg (by decide)]
   refine aa g8_12 ?_
   rw [if_neg (by decide)]
   exact rfl
  ·try dsimp only
   refine aa (a:=(ac L8_12 [(0,128,2)] 7)) (st1:=(ac L8_12 [(0,128,2)] 7)) rfl ?_
   rw [show (if (pendingOf (ac L8_12 [(0,128,2)] 7)).size > 1 then (pendingOf (ac L8_12 [(0,128,2)] 7))[(pendingOf (ac L8_12 [(0,128,2)] 7)).size - 2]? else none)=none from rfl]
   exact rfl
  try dsimp only
  refine aa (a:=()) (st1:=(ac L8_12 [(0,128,1)] 7)) rfl ?_
  refine aa (a:=()) (st1:=(ac L8_12 [(0,128,1),(128,32,0)] 7)) rfl ?_
  exact rfl
 ·try dsimp only
  rw [if_neg (by decide)]
  refine aa g8_13 ?_
  try dsimp only
  rw [if_pos (by decide)]
  refine aa (a:=()) (st1:=(ac L8_13 [(0,128,1),(128,32,0)] 7)) rfl ?_
  refine aa g8_14 ?_
  rw [if_neg (by decide)]
  refine aa (a:=(ac L8_14 [(0,128,1),(128,32,0)] 7)) (st1:=(ac L8_14 [(0,128,1),(128,32,0)] 7)) rfl ?_
  rw [show (pendingOf (ac L8_14 [(0,128,1),(128,32,0)] 7)).back?=some (128,32,0) from rfl]
  try dsimp only
  rw [Std.Legacy.Range.forIn_eq_forIn_range']
  refine aa (a:=(none,())) (st1:=(ac L8_14 [(0,128,1),(128,32,0)] 7)) (a9 (b1:=(none,())) (st1:=(ac L8_14 [(0,128,1),(128,32,0)] 7)) ?_) ?_
  ·try dsimp only
   refine aa (a:=(ac L8_14 [(0,128,1),(128,32,0)] 7)) (st1:=(ac L8_14 [(0,128,1),(128,32,0)] 7)) rfl ?_
   rw [show (if (pendingOf (ac L8_14 [(0,128,1),(128,32,0)] 7)).size > 1 then (pendingOf (ac L8_14 [(0,128,1),(128,32,0)] 7))[(pendingOf (ac L8_14 [(0,128,1),(128,32,0)] 7)).size - 2]? else none)=some (0,128,1) from rfl]
   try dsimp only
   rw [if_pos (by decide)]
   exact rfl
  try dsimp only
  refine aa (a:=()) (st1:=(ac L8_14 [(0,128,1),(128,32,3)] 7)) rfl ?_
  refine aa (a:=()) (st1:=(ac L8_14 [(0,128,1),(128,32,3),(160,32,0)] 7)) rfl ?_
  exact rfl
 ·try dsimp only
  rw [if_neg (by decide)]
  refine aa g8_15 ?_
  try dsimp only
  rw [if_pos (by decide)]
  refine aa (a:=()) (st1:=(ac L8_15 [(0,128,1),(128,32,3),(160,32,0)] 7)) rfl ?_
  refine aa g8_16 ?_
  rw [if_neg (by decide)]
  refine aa (a:=(ac L8_16 [(0,128,1),(128,32,3),(160,32,0)] 7)) (st1:=(ac L8_16 [(0,128,1),(128,32,3),(160,32,0)] 7)) rfl ?_
  rw [show (pendingOf (ac L8_16 [(0,128,1),(128,32,3),(160,32,0)] 7)).back?=some (160,32,0) from rfl]
  try dsimp only
  rw [Std.Legacy.Range.forIn_eq_forIn_range']
  refine aa (a:=(none,())) (st1:=(ac L8_17 [(0,128,1),(128,64,3)] 7)) (aD (b1:=(none,())) (st1:=(ac L8_17 [(0,128,1),(128,64,3)] 7)) ?_ (a9 (b1:=(none,())) (st1:=(ac L8_17 [(0,128,1),(128,64,3)] 7)) ?_)) ?_
  ·try dsimp only
   refine aa (a:=(ac L8_16 [(0,128,1),(128,32,3),(160,32,0)] 7)) (st1:=(ac L8_16 [(0,128,1),(128,32,3),(160,32,0)] 7)) rfl ?_
   rw [show (if (pendingOf (ac L8_16 [(0,128,1),(128,32,3),(160,32,0)] 7)).size > 1 then (pendingOf (ac L8_16 [(0,128,1),(128,32,3),(160,32,0)] 7))[(pendingOf (ac L8_16 [(0,128,1),(128,32,3),(160,32,0)] 7)).size - 2]? else none)=some (128,32,3) from rfl]
   try dsimp only
   rw [if_neg (by decide)]
   refine aa g8_17 ?_
   rw [if_neg (by decide)]
   exact rfl
  ·try dsimp only
   refine aa (a:=(ac L8_17 [(0,128,1),(128,64,3)] 7)) (st1:=(ac L8_17 [(0,128,1),(128,64,3)] 7)) rfl ?_
   rw [show (if (pendingOf (ac L8_17 [(0,128,1),(128,64,3)] 7)).size > 1 then (pendingOf (ac L8_17 [(0,128,1),(128,64,3)] 7))[(pendingOf (ac L8_17 [(0,128,1),(128,64,3)] 7)).size - 2]? else none)=some (0,128,1) from rfl]
   try dsimp only
   rw [if_pos (by decide)]
   exact rfl
  try dsimp only
  refine aa (a:=()) (st1:=(ac L8_17 [(0,128,1),(128,64,2)] 7)) rfl ?_
  refine aa (a:=()) (st1:=(ac L8_17 [(0,128,1),(128,64,2),(192,32,0)] 7)) rfl ?_
  exact rfl
 ·try dsimp only
  rw [if_neg (by decide)]
  refine aa g8_18 ?_
  try dsimp only
  rw [if_pos (by decide)]
  refine aa (a:=()) (st1:=(ac L8_18 [(0,128,1),(128,64,2),(192,32,0)] 7)) rfl ?_
  refine aa g8_19 ?_
  rw [if_neg (by decide)]
  refine aa (a:=(ac L8_19 [(0,128,1),(128,64,2),(192,32,0)] 7)) (st1:=(ac L8_19 [(0,128,1),(128,64,2),(192,32,0)] 7)) rfl ?_
  rw [show (pendingOf (ac L8_19 [(0,128,1),(128,64,2),(192,32,0)] 7)).back?=some (192,32,0) from rfl]
  try dsimp only
  rw [Std.Legacy.Range.forIn_eq_forIn_range']
  refine aa (a:=(none,())) (st1:=(ac L8_19 [(0,128,1),(128,64,2),(192,32,0)] 7)) (a9 (b1:=(none,())) (st1:=(ac L8_19 [(0,128,1),(128,64,2),(192,32,0)] 7)) ?_) ?_
  ·try dsimp only
   refine aa (a:=(ac L8_19 [(0,128,1),(128,64,2),(192,32,0)] 7)) (st1:=(ac L8_19 [(0,128,1),(128,64,2),(192,32,0)] 7)) rfl ?_
   rw [show (if (pendingOf (ac L8_19 [(0,128,1),(128,64,2),(192,32,0)] 7)).size > 1 then (pendingOf (ac L8_19 [(0,128,1),(128,64,2),(192,32,0)] 7))[(pendingOf (ac L8_19 [(0,128,1),(128,64,2),(192,32,0)] 7)).size - 2]? else none)=some (128,64,2) from rfl]
   try dsimp only
   rw [if_pos (by decide)]
   exact rfl
  try dsimp only
  refine aa (a:=()) (st1:=(ac L8_19 [(0,128,1),(128,64,2),(192,32,3)] 7)) rfl ?_
  refine aa (a:=()) (st1:=(ac L8_19 [(0,128,1),(128,64,2),(192,32,3),(224,32,0)] 7)) rfl ?_
  exact rfl
 ·try dsimp only
  rw [if_pos (by decide)]
  exact rfl
 try dsimp only
 rw [Std.Legacy.Range.forIn_eq_forIn_range']
 refine aa (a:=(none,())) (st1:=(ac L8_22 [(0,256,1)] 7)) (aD (b1:=(none,())) (st1:=(ac L8_20 [(0,128,1),(128,64,2),(192,64,3)] 7)) ?_ (aD (b1:=(none,())) (st1:=(ac L8_21 [(0,128,1),(128,128,2)] 7)) ?_ (aD (b1:=(none,())) (st1:=(ac L8_22 [(0,256,1)] 7)) ?_ (a9 (b1:=(none,())) (st1:=(ac L8_22 [(0,256,1)] 7)) ?_)))) ?_
 ·try dsimp only
  refine aa (a:=(ac L8_19 [(0,128,1),(128,64,2),(192,32,3),(224,32,0)] 7)) (st1:=(ac L8_19 [(0,128,1),(128,64,2),(192,32,3),(224,32,0)] 7)) rfl ?_
  rw [if_neg (by decide)]
  refine aa g8_20 ?_
  rw [if_neg (by decide)]
  exact rfl
 ·try dsimp only
  refine aa (a:=(ac L8_20 [(0,128,1),(128,64,2),(192,64,3)] 7)) (st1:=(ac L8_20 [(0,128,1),(128,64,2),(192,64,3)] 7)) rfl ?_
  rw [if_neg (by decide)]
  refine aa g8_21 ?_
  rw [if_neg (by decide)]
  exact rfl
 ·try dsimp only
  refine aa (a:=(ac L8_21 [(0,128,1),(128,128,2)] 7)) (st1:=(ac L8_21 [(0,128,1),(128,128,2)] 7)) rfl ?_
  rw [if_neg (by decide)]
  refine aa g8_22 ?_
  rw [if_neg (by decide)]
  exact rfl
 ·try dsimp only
  refine aa (a:=(ac L8_22 [(0,256,1)] 7)) (st1:=(ac L8_22 [(0,256,1)] 7)) rfl ?_
  rw [if_pos (by decide)]
  exact rfl
 exact rfl
theorem sort8:aW U8=some L8_22:=ft (n:=256) rfl runs8
end L2
end
section
namespace Bn
open PySem L2 L3
abbrev Pd (p:Int × Int):L3.D:=.tup [.int p.1,.int p.2]
theorem bq {bnd:L3.D->Sto->Option Sto} {b:SM} (P:Nat->Sto->Prop):∀ {ds:List L3.D} {ρ:Sto} {k:Nat},P k ρ->(∀ i d ρ,ds[i]?=some d->P (k+i) ρ->∃ ρ1 ρ2,bnd d ρ=some ρ1/\(b ρ1=some (.ok .nx,ρ2)\/b ρ1=some (.ok .ct,ρ2))/\P (k+i+1) ρ2)->∃ ρ',cC bnd b ds ρ=some (.ok .nx,ρ')/\P (k+ds.length) ρ'
 | [],ρ,k,h0,_=>⟨ρ,rfl,h0⟩
 | d :: ds,ρ,k,h0,hs=>by
  obtain ⟨ρ1,ρ2,e1,a,h1⟩:=hs 0 d ρ rfl h0
  obtain ⟨ρ',c,h3⟩:=bq P (ds:=ds) (ρ:=ρ2) (k:=k+1) h1 fun i d ρ hd e=>by
   have:=hs (i+1) d ρ (by simpa using hd) (by rwa [show k+(i+1)=k+1+i by lia])
   rwa [show k+(i+1)+1=k+1+i+1 by lia] at this
  refine ⟨ρ',?_,by rw [DS,show k+(ds.length+1)=k+1+ds.length by lia];exact h3⟩
  unfold cC
  simp only [e1]
  rcases a with a | a <;> simp only [ae,a,c]
theorem m6 {bnd:L3.D->Sto->Option Sto} {b:SM} (P:Nat->Sto->Prop) (E:Nat->L3.D->Fl->Sto->Prop):∀ {ds:List L3.D} {ρ:Sto} {k:Nat},P k ρ ->
  (∀ i d ρ,ds[i]?=some d->P (k+i) ρ->∃ ρ1 ρ2,bnd d ρ=some ρ1/\(((b ρ1=some (.ok .nx,ρ2)\/b ρ1=some (.ok .ct,ρ2))/\P (k+i+1) ρ2)\/∃ r f,b ρ1=some (.ok (.rt r f),ρ2)/\E (k+i) r f ρ2)) ->
  ∃ ρ',(cC bnd b ds ρ=some (.ok .nx,ρ')/\P (k+ds.length) ρ')\/∃ i r f,i < ds.length/\cC bnd b ds ρ=some (.ok (.rt r f),ρ')/\E (k+i) r f ρ'
 | [],ρ,k,h0,_=>⟨ρ,.inl ⟨rfl,h0⟩⟩
 | d :: ds,ρ,k,h0,hs=>by
  obtain ⟨ρ1,ρ2,e1,h1⟩:=hs 0 d ρ rfl h0
  rcases h1 with ⟨a,h1⟩ | ⟨r,f,a,h1⟩
  ·obtain ⟨ρ',h3⟩:=m6 P E (ds:=ds) (ρ:=ρ2) (k:=k+1) h1 fun i d ρ hd g=>by
    have:=hs (i+1) d ρ (by simpa using hd) (by rwa [show k+(i+1)=k+1+i by lia])
    rwa [show k+(i+1)=k+1+i by lia] at this
   have e:cC bnd b (d :: ds) ρ=cC bnd b ds ρ2:=by
    conv=>lhs;unfold cC
    simp only [e1]
    rcases a with a | a <;> simp only [ae,a]
   rcases h3 with ⟨c,h3⟩ | ⟨i,r,f,hi,c,h3⟩
   ·exact ⟨ρ',.inl ⟨e.trans c,by rw [DS,show k+(ds.length+1)=k+1+ds.length by lia];exact h3⟩⟩
   ·exact ⟨ρ',.inr ⟨i+1,r,f,by simp;lia,e.trans c,by rw [show k+(i+1)=k+1+i by lia];exact h3⟩⟩
  ·refine ⟨ρ2,.inr ⟨0,r,f,by simp,?_,h1⟩⟩
   unfold cC
   simp only [e1,ae,a,aJ]
theorem cv {lo:Int} {n i:Nat} {d:L3.D} (h:(bc lo n)[i]?=some d):i < n/\d=.int (lo+i):=by
 unfold bc at h
 grind
theorem cu {lo:Int} {n:Nat}:(bc lo n).length=n:=by unfold bc;simp
theorem An {xs:List L3.D} {m:Nat} (h:m<=xs.length):jN xs none (some (m:Int))=xs.take m:=by
 have e1:HT.sIx xs.length 0 none=0:=rfl
 have a:HT.sIx xs.length xs.length (some (m:Int))=m:=by
  simp only [HT.sIx]
  split <;> lia
 unfold jN
 rw [e1,a]
 simp
theorem Small.sub {p q:Pt} (a:Small p) (b:Small q):(-18446744073709551616 < q.1 - p.1/\q.1 - p.1 < 18446744073709551616)/\(-18446744073709551616 < q.2 - p.2/\q.2 - p.2 < 18446744073709551616):=by
 obtain ⟨a1,a2,a3,a4⟩:=a
 obtain ⟨b1,b2,c,d⟩:=b
 exact ⟨⟨by lia,by lia⟩,⟨by lia,by lia⟩⟩
theorem sQ {c:M3 Bool} {b:SM} (P:Nat->Sto->Prop) (Q:Sto->Prop) {n:Nat} {ρ:Sto} (h0:P n ρ)
  (j:∀ n ρ,P n ρ->(∃ ρ1,c ρ=some (.ok false,ρ1)/\Q ρ1)\/∃ ρ1 ρ2 m,c ρ=some (.ok true,ρ1)/\(b ρ1=some (.ok .nx,ρ2)\/b ρ1=some (.ok .ct,ρ2))/\m < n/\P m ρ2):∃ ρ',fy c b ρ=some (.ok .nx,ρ')/\Q ρ':=by
 have main:∀ n ρ,P n ρ->∃ ρ',bA c b (n+1) ρ=some (.ok .nx,ρ')/\Q ρ':=by
  intro n
  induction n using Nat.strongRecOn with
  | _ n ih =>
   intro ρ k
   rcases j n ρ k with ⟨ρ1,e1,d⟩ | ⟨ρ1,ρ2,m,e1,a,hm,i⟩
   ·refine ⟨ρ1,?_,d⟩
    unfold bA
    simp [ae,e1,aJ]
   ·obtain ⟨ρ',g,d⟩:=ih m hm ρ2 i
    refine ⟨ρ',?_,d⟩
    have f:=iQ (show m+1<=n by lia) g
    unfold bA
    rcases a with a | a <;> simp [ae,e1,a,f]
 obtain ⟨ρ',e,d⟩:=main n ρ h0
 refine ⟨ρ',?_,d⟩
 unfold fy
 have h:∃ n r,bA c b n ρ=some r:=⟨_,_,e⟩
 rw [dif_pos h]
 have a:=Classical.choose_spec (Classical.choose_spec h)
 have g:=iQ (Nat.le_max_left (n+1) (Classical.choose h)) e
 have f:=iQ (Nat.le_max_right (n+1) (Classical.choose h)) a
 rw [g] at f
 exact f.symm
theorem ak {a b:SM} {ρ ρ1:Sto} {r:Option (Except L3.D Flw × Sto)} (h1:a ρ=some (.ok .nx,ρ1)) (h2:b ρ1=r):aI a b ρ=r:=by
 simp only [aI,ae,h1]
 exact h2
theorem fN {bnd:L3.D->Sto->Option Sto} {c:M3 Bool} {elt:EM} (P:Sto->Prop) (g:L3.D->Bool) (f:L3.D->L3.D):∀ {ds:List L3.D} {τ:Sto},P τ ->
  (∀ d ∈ ds,∀ τ,P τ->∃ τ1 τ2,bnd d τ=some τ1/\c τ1=some (.ok (g d),τ2)/\(g d=false->P τ2)/\(g d=true->∃ r τ3 p τ4,elt τ2=some (.ok r,τ3)/\cK r τ3=some (.ok p,τ4)/\p.1=f d/\P τ4)) ->
  ∃ τ',bJ bnd c elt ds τ=some (.ok ((ds.filter g).map f),τ')/\P τ'
 | [],τ,h0,_=>⟨τ,rfl,h0⟩
 | d :: ds,τ,h0,hs=>by
  obtain ⟨τ1,τ2,e1,b,hf,j⟩:=hs d Dq τ h0
  cases a:g d with
  | false =>
   obtain ⟨τ',e,h⟩:=fN P g f (ds:=ds) (τ:=τ2) (hf a) fun d hd=>hs d (Dr _ hd)
   refine ⟨τ',?_,h⟩
   unfold bJ
   rw [a] at b
   simp [e1,ae,b,e,List.filter_cons,a]
  | true =>
   obtain ⟨r,τ3,p,τ4,l,k,m,i⟩:=j a
   obtain ⟨τ',e,h⟩:=fN P g f (ds:=ds) (τ:=τ4) i fun d hd=>hs d (Dr _ hd)
   refine ⟨τ',?_,h⟩
   unfold bJ
   rw [a] at b
   simp [e1,ae,b,l,k,e,List.filter_cons,a,aJ,m]
abbrev Tri:=Nat × Nat × Nat
def kX (i j m:Nat):List Tri:=(List.range m).map fun k=>(i,j,j+1+k)
def iW (n i m:Nat):List Tri:=(List.range m).flatMap fun j=>kX i (i+1+j) (n - (i+1+j+1))
def mD (n m:Nat):List Tri:=(List.range m).flatMap fun i=>iW n i (n - (i+1))
def jH (n:Nat):List Tri:=mD n n
theorem oi (i j m:Nat):(kX i j m).length=m:=by simp [kX]
theorem lG (n i m:Nat):iW n i (m+1)=iW n i m ++ kX i (i+1+m) (n - (i+1+m+1)):=by simp [iW,List.range_succ,List.flatMap_append]
theorem lH (n m:Nat):mD n (m+1)=mD n m ++ iW n m (n - (m+1)):=by simp [mD,List.range_succ,List.flatMap_append]
theorem wF {i j m:Nat} {t:Tri} (h:t ∈ kX i j m):t.1=i/\t.2.1=j/\j < t.2.2/\t.2.2 < j+1+m:=by
 obtain ⟨k,a,rfl⟩:=DF.mp h
 grind
theorem oK {n:Nat} {t:Tri} (h:t ∈ jH n):t.1 < t.2.1/\t.2.1 < t.2.2/\t.2.2 < n:=by
 obtain ⟨i,hi,h⟩:=Ef.mp h
 obtain ⟨j,a,h⟩:=Ef.mp h
 rw [List.mem_range] at hi a
 obtain ⟨h1,h2,h3,b⟩:=wF h
 exact ⟨by lia,by lia,by lia⟩
theorem rC (n i m:Nat):(iW n i m).length<=m * n:=by
 induction m with
 | zero=>simp [iW]
 | succ m ih=>rw [lG,DR,oi,Nat.succ_mul];lia
theorem y8 (n m:Nat):(mD n m).length<=m * (n * n):=by
 induction m with
 | zero=>simp [mD]
 | succ m ih =>
  rw [lH,DR,Nat.succ_mul]
  have:=rC n m (n - (m+1))
  have h2:(n - (m+1)) * n<=n * n:=Nat.mul_le_mul (by lia) (DH _)
  lia
theorem qe {n m:Nat} (a:n<=25) (hm:m<=25):(mD n m).length<=15625:=by
 have h1:=y8 n m
 have h2:n * n<=25 * 25:=Nat.mul_le_mul a a
 have h3:m * (n * n)<=25 * (25 * 25):=Nat.mul_le_mul hm h2
 lia
theorem qd {n i m:Nat} (a:n<=25) (hm:m<=25):(iW n i m).length<=625:=by
 have h1:=rC n i m
 have h2:m * n<=25 * 25:=Nat.mul_le_mul hm a
 lia
abbrev Td (t:Tri):L3.D:=.tup [.int t.1,.int t.2.1,.int t.2.2]
abbrev Shd (ps:List Pt):L3.D:=.tup (ps.map Pd)
theorem bB {im:IM} {bnd:L3.D->Sto->Option Sto} {c:M3 Bool} {elt:EM} {ix:List (Option Nat)} {ρ ρ1 ρ2 τ:Sto} {rs:List R3} {ds out:List L3.D} (h1:im ρ=some (.ok (rs,ds),ρ1)) (h2:bJ bnd c elt ds (qM ix (au bz (us ρ1 (pls rs)) ρ1))=some (.ok out,τ)) (h3:ds.length < 16777216) (a:uncap ix τ (au bz (us ρ1 (pls rs)) ρ1)=some ρ2) :
  bx im bnd c elt ix ρ=some (.ok (.val (.lst out) .u),au dh (us ρ1 (pls rs)) ρ2):=by
 simp [bx,ae,h1,h2,h3,a]
theorem pO:∀ {ds:List L3.D},(∀ d ∈ ds,d=.bl true)->gr ds=some (List.replicate ds.length true)
 | [],_=>rfl
 | d :: ds,h=>by
  have h1:=h d Dq
  subst h1
  have h2:=pO fun d hd=>h d (Dr _ hd)
  simp [gr,h2,List.replicate_succ]
theorem mm {ds:List L3.D} (h:∀ d ∈ ds,d=.bl true):Dj (.lst ds)=some (.bl true,.z):=by
 simp [Dj,pO h]
theorem sL {xs:List L3.D} {i:Nat} {d:L3.D} (h:xs[i]?=some d):L2.atI xs (i:Int)=some d:=by
 obtain ⟨h1,h2⟩:=DC.mp h
 simp [L2.atI,ixN,h1,h2]
theorem uF {ps:List Pt} {i:Nat} {p:Pt} (h:ps[i]?=some p):L2.atI (ps.map Pd) (i:Int)=some (Pd p):=sL (by simp [h])
theorem xh {f:List L3.D->Option (List L3.D)} {ms:M3 (List R3)} {ρ ρ1 ρ2:Sto} {rs:List R3} {ds xs:List L3.D} (h1:ms ρ=some (.ok rs,ρ1)) (h2:cb rs ρ1=some (.ok ds,ρ2)) (h3:f ds=some xs):bf f ms ρ=some (.ok ([],xs),ρ2):=by
 simp [bf,ae,h1,h2,h3,aN]
theorem mE {a b:Int} (f:-1000<=a/\a<=1000) (e:-1000<=b/\b<=1000) {n:Nat} (d:(b - a).toNat=n):iX [.int a,.int b]=some (bc a n):=by
 have lm:eX a=true:=DM (by lia)
 have c:eX b=true:=DM (by lia)
 show (if (eX a && eX b)=true then some (bc a (b - a).toNat) else none)=_
 rw [lm,c,d]
 exact if_pos rfl
theorem dq {b:Int} (d:-1000<=b/\b<=1000) {n:Nat} (c:b.toNat=n):cn [.int b]=some (bc 0 n):=by
 have a:eX b=true:=DM (by lia)
 show (if (eX b)=true then some (bc 0 b.toNat) else none)=_
 rw [a,c]
 exact if_pos rfl
end Bn
end
section
namespace Bn
open PySem L2 L3
section
variable {α:Type} {ρ ρ1 ρ2 ρ3:Sto} {ma mb mc m:EM} {ms:M3 (List R3)} {ra rb r:R3} {rs:List R3} {da db d:L3.D} {ds:List L3.D} {fl:Fl} {i n np:Nat} {sa sb:SM} {c cc:M3 Bool} {b b2:Bool} {x:Option (Except L3.D Flw × Sto)} {y:Option (Except L3.D R3 × Sto)}
theorem bC {p:L3.D × Fl} (h:(ρ[i]?).join=some p):af i ρ=some (.ok (.pl i),ρ):=by simp [af,h]
theorem i_c:mC d ρ=some (.ok (.val d .z),ρ):=rfl
theorem kE {f:L3.D->L3.D->Option (L3.D × Fl)} (h1:ma ρ=some (.ok ra,ρ1)) (h2:mb ρ1=some (.ok rb,ρ2)) (h3:der ra ρ2=some (.ok da,ρ2)) (b:der rb ρ2=some (.ok db,ρ2)) (a:f da db=some (d,fl)):ah f ma mb ρ=some (.ok (.val d fl),ρ2):=by
 simp only [ah,ae,h1,h2,h3,b,aN,a,DU]
theorem CT {f:L3.D->Option (L3.D × Fl)} (h1:ma ρ=some (.ok ra,ρ1)) (h3:der ra ρ1=some (.ok da,ρ1)) (a:f da=some (d,fl)):mUn f ma ρ=some (.ok (.val d fl),ρ1):=by
 simp only [mUn,ae,h1,h3,aN,a,DU]
theorem cS {f:List L3.D->Option (L3.D × Fl)} (h1:ms ρ=some (.ok rs,ρ1)) (h3:cb rs ρ1=some (.ok ds,ρ1)) (a:f ds=some (d,fl)):aw f ms ρ=some (.ok (.val d fl),ρ1):=by
 simp only [aw,ae,h1,h3,aN,a,DU]
theorem dW:ai ρ=some (.ok [],ρ):=rfl
theorem bH (h1:m ρ=some (.ok r,ρ1)) (h2:ms ρ1=some (.ok rs,ρ2)):ad m ms ρ=some (.ok (r :: rs),ρ2):=by
 simp only [ad,ae,h1,h2,aJ]
theorem CY {mk:List L3.D->L3.D} {f:Fl} (h1:ms ρ=some (.ok rs,ρ1)) (h2:gives rs ρ1=some (.ok ds,ρ2)) (h3:ds.length<=16777216):oT mk f ms ρ=some (.ok (.val (mk ds) f),ρ2):=by
 simp only [oT,ae,h1,h2,aN,h3,if_true,DU]
theorem ao {F:Fn} {ps qs:List (L3.D × Fl)} (a:F ps=some (.ok (d,fl),qs)) (h1:ms ρ=some (.ok rs,ρ1)) (h2:prs (frz (jM rs) ρ1) rs=some ps) (h3:qs.length=ps.length) (b:back rs ps qs (frz (jM rs) ρ1) = ρ2):am F ms ρ=some (.ok (.val d fl),ρ2):=by
 simp only [am,ae,h1,h2,a,h3,if_true,b]
theorem AT {p:L3.D × Fl} (h1:m ρ=some (.ok r,ρ1)) (h2:cK r ρ1=some (.ok p,ρ2)) (h3:i < ρ2.length) (a:ρ2.set i (some p) = ρ3):ba i m ρ=some (.ok .nx,ρ3):=by
 simp only [ba,ae,h1,h2,h3,if_true,a]
theorem i_asg {bnd:L3.D->Sto->Option Sto} {p:L3.D × Fl} (h1:m ρ=some (.ok r,ρ1)) (h2:cK r ρ1=some (.ok p,ρ2)) (h3:bnd p.1 ρ2=some ρ3):kW bnd m ρ=some (.ok .nx,ρ3):=by
 simp only [kW,ae,h1,h2,h3,DU]
theorem xi (h1:m ρ=some (.ok r,ρ1)):fA m ρ=some (.ok .nx,ρ1):=by
 simp only [fA,ae,h1,aJ]
def retF (np:Nat) (r:R3):SM:=aT np (aJ r)
theorem df (h1:m ρ=some (.ok r,ρ1)) (h2:retF np r ρ1=x):aT np m ρ=x:=by
 rw [<- h2]
 unfold retF
 simp only [aT,ae,h1,aJ]
theorem my (h1:sa ρ=some (.ok (.rt d fl),ρ1)):aI sa sb ρ=some (.ok (.rt d fl),ρ1):=by
 simp only [aI,ae,h1,aJ]
theorem k7 (h1:m ρ=some (.ok r,ρ1)) (h2:der r ρ1=some (.ok (.bl b),ρ1)):cB m ρ=some (.ok b,ρ1):=by
 simp only [cB,ae,h1,h2,aN,asB,DU]
theorem hV (h1:c ρ=some (.ok b,ρ1)):fQ c ρ=some (.ok (!b),ρ1):=by
 simp only [fQ,ae,h1,aJ]
theorem lX (h1:c ρ=some (.ok b,ρ1)) (a:b=true) (h2:sa ρ1=x):sIf c sa sb ρ=x:=by
 subst a;simp only [sIf,ae,h1,if_true];exact h2
theorem eY (h1:c ρ=some (.ok b,ρ1)) (a:b=false) (h2:sb ρ1=x):sIf c sa sb ρ=x:=by
 subst a;simp only [sIf,ae,h1,DY,if_false];exact h2
theorem kD (h1:c ρ=some (.ok b,ρ1)) (a:b=false) (h2:cc ρ1=some (.ok b2,ρ2)):cOr c cc ρ=some (.ok b2,ρ2):=by
 subst a;simp only [cOr,ae,h1,DY,if_false];exact h2
theorem si (h1:ma ρ=some (.ok r,ρ1)) (h2:der r ρ1=some (.ok (.bl b),ρ1)) (a:b=true) (h3:mb ρ1=y):hU ma mb ρ=y:=by
 subst a;simp only [hU,ae,h1,h2,aN,asB,DU,if_true];exact h3
theorem CV (h1:c ρ=some (.ok b,ρ1)) (a:b=true) (h2:ma ρ1=y):mIf c ma mb ρ=y:=by
 subst a;simp only [mIf,ae,h1,if_true];exact h2
theorem CW (h1:c ρ=some (.ok b,ρ1)) (a:b=false) (h2:mb ρ1=y):mIf c ma mb ρ=y:=by
 subst a;simp only [mIf,ae,h1,DY,if_false];exact h2
theorem i_sl {f:L3.D->Option Int->Option Int->Option (L3.D × Fl)} {pl pu:M3 (Option Int)} {lo hi:Option Int} (h1:ma ρ=some (.ok ra,ρ1)) (h2:pl ρ1=some (.ok lo,ρ2)) (h3:pu ρ2=some (.ok hi,ρ3)) (b:der ra ρ3=some (.ok da,ρ3)) (a:f da lo hi=some (d,fl)):mSl f ma pl pu ρ=some (.ok (.val d fl),ρ3):=by
 simp only [mSl,ae,h1,h2,h3,b,aN,a,DU]
theorem Ad:eU ρ=some (.ok none,ρ):=rfl
theorem Ac {k:Int} (h1:m ρ=some (.ok r,ρ1)) (h2:der r ρ1=some (.ok (.int k),ρ1)):dQ m ρ=some (.ok (some k),ρ1):=by
 simp only [dQ,ae,h1,h2,aN,asI,DU]
theorem i_mut {ok:L3.D->Bool} {f:L3.D->List L3.D->Option (L3.D × L3.D)} {d2 b a:L3.D} (h0:(ρ[i]?).join=some (d,fl)) (c:ok d=true) (h1:ms ρ=some (.ok rs,ρ1)) (h2:gives rs ρ1=some (.ok ds,ρ2)) (h3:(ρ2[i]?).join=some (d2,.u)) (g:f d2 ds=some (b,a)) (e:ρ2.set i (some (b,.u)) = ρ3):t5 ok f i ms ρ=some (.ok (.val a .z),ρ3):=by
 simp only [t5,ae,bC h0,chk,h0,c,if_true,h1,h2,h3,g,e]
theorem o0 {f:L3.D->List L3.D->Option (L3.D × L3.D)} {d2 a b:L3.D} (h1:mb ρ=some (.ok rb,ρ1)) (h0:(ρ1[i]?).join=some (d,fl)) (h2:ma ρ1=some (.ok ra,ρ2)) (h3:gives [ra,rb] ρ2=some (.ok ds,ρ3)) (e:(ρ3[i]?).join=some (d2,.u)) (c:f d2 ds=some (a,b)):iU f i ma mb ρ=some (.ok .nx,ρ3.set i (some (a,.u))):=by
 simp only [iU,ae,h1,bC h0,h2,h3,e,c]
theorem CU {ok:L3.D->Bool} {f:List L3.D->Option (L3.D × Fl)} {a:L3.D} (h1:ma ρ=some (.ok ra,ρ1)) (h2:der ra ρ1=some (.ok a,ρ1)) (b:ok a=true) (h3:ms ρ1=some (.ok rs,ρ2)) (e:cb (ra :: rs) ρ2=some (.ok ds,ρ2)) (c:f ds=some (d,fl)):ky ok f ma ms ρ=some (.ok (.val d fl),ρ2):=by
 simp only [ky,ae,h1,h2,b,if_true,h3,e,aN,c,DU]
theorem aS {mask:List Bool} {ps qs:List (L3.D × Fl)} (h1:ps.length=mask.length) (h0:eZ n (List.zipWith k6 mask ps) = ρ) (h2:sa ρ=some (.ok (.rt d fl),ρ1)) (h3:dY ρ1 0 (List.zipWith k6 mask ps)=some qs):fnM mask n sa ps=some (.ok (d,fl),qs):=by
 subst h0;simp only [fnM,h1,if_true,fn0,h2,h3,DU]
theorem F_nx {mask:List Bool} {ps qs:List (L3.D × Fl)} (h1:ps.length=mask.length) (h0:eZ n (List.zipWith k6 mask ps) = ρ) (h2:sa ρ=some (.ok .nx,ρ1)) (h3:dY ρ1 0 (List.zipWith k6 mask ps)=some qs):fnM mask n sa ps=some (.ok (.non,.z),qs):=by
 subst h0;simp only [fnM,h1,if_true,fn0,h2,h3,DU]
theorem eV {i j:Int} (h:-18446744073709551616 < i/\i < 18446744073709551616):dL (.int i) (.int j)=some (.int (i * j),.z):=by
 simp [cH,h]
theorem wD {i j:Int} (h:-18446744073709551616 < j/\j < 18446744073709551616):dL (.int i) (.int j)=some (.int (i * j),.z):=by
 simp [cH,h]
theorem dX {im:IM} {bnd:L3.D->Sto->Option Sto} {o:Except L3.D Flw} (h1:im ρ=some (.ok (rs,ds),ρ1)) (a:us ρ1 (pls rs)=[]) (h2:cC bnd sb ds ρ1=some (o,ρ2)):bP im bnd sb ρ=some (o,ρ2):=by
 have b:∀ f ρ,au f [] ρ = ρ:=fun _ _=>rfl
 simp only [bP,ae,h1,a,b,h2,DU]
theorem Ae (h1:m ρ=some (.ok r,ρ1)) (h2:der r ρ1=some (.ok d,ρ1)) (h3:rz d=some ds):cf m ρ=some (.ok ([r],ds),ρ1):=by
 simp only [cf,ae,h1,h2,aN,h3,DU]
theorem dD {f:List L3.D->Option (List L3.D)} {xs:List L3.D} (h1:ms ρ=some (.ok rs,ρ1)) (h2:cb rs ρ1=some (.ok ds,ρ1)) (h3:f ds=some xs):bf f ms ρ=some (.ok ([],xs),ρ1):=xh h1 h2 h3
end
theorem cD {α:Type} {bnd:L3.D->Sto->Option Sto} {c:M3 Bool} {elt:EM} (P:Sto->Prop) (D:α->L3.D) (g:α->Bool) (f:α->L3.D):∀ {xs:List α} {τ:Sto},P τ ->
  (∀ x ∈ xs,∀ τ,P τ->∃ τ1 τ2,bnd (D x) τ=some τ1/\c τ1=some (.ok (g x),τ2)/\(g x=false->P τ2)/\(g x=true->∃ r τ3 p τ4,elt τ2=some (.ok r,τ3)/\cK r τ3=some (.ok p,τ4)/\p.1=f x/\P τ4)) ->
  ∃ τ',bJ bnd c elt (xs.map D) τ=some (.ok ((xs.filter g).map f),τ')/\P τ'
 | [],τ,h0,_=>⟨τ,rfl,h0⟩
 | x :: xs,τ,h0,hs=>by
  obtain ⟨τ1,τ2,e1,b,hf,j⟩:=hs x Dq τ h0
  cases a:g x with
  | false =>
   obtain ⟨τ',e,h⟩:=cD P D g f (xs:=xs) (τ:=τ2) (hf a) fun d hd=>hs d (Dr _ hd)
   refine ⟨τ',?_,h⟩
   rw [DL]
   unfold bJ
   rw [a] at b
   simp [e1,ae,b,e,List.filter_cons,a]
  | true =>
   obtain ⟨r,τ3,p,τ4,l,k,m,i⟩:=j a
   obtain ⟨τ',e,h⟩:=cD P D g f (xs:=xs) (τ:=τ4) i fun d hd=>hs d (Dr _ hd)
   refine ⟨τ',?_,h⟩
   rw [DL]
   unfold bJ
   rw [a] at b
   simp [e1,ae,b,l,k,e,List.filter_cons,a,aJ,m]
section
variable {α:Type} {P:List α->Prop} {us:List α}
theorem bnd0 (h:us.length=0) (f:P []):P us:=by
 cases us with
 | nil=>exact f
 | cons a us=>cases h
theorem Au {n:Nat} (h:us.length=n+1) (f:∀ a r,r.length=n->P (a :: r)):P us:=by
 cases us with
 | nil=>cases h
 | cons a us=>exact f a us (Nat.succ.inj h)
theorem bnd1 (h:us.length=1) (f:∀ a,P [a]):P us:=Au h fun a _ h=>bnd0 (P:=fun r=>P (a :: r)) h (f a)
theorem bnd2 (h:us.length=2) (f:∀ a b,P [a,b]):P us:=Au h fun a _ h=>bnd1 (P:=fun r=>P (a :: r)) h (f a)
theorem bnd3 (h:us.length=3) (f:∀ a b c,P [a,b,c]):P us:=Au h fun a _ h=>bnd2 (P:=fun r=>P (a :: r)) h (f a)
theorem bnd4 (h:us.length=4) (f:∀ a b c d,P [a,b,c,d]):P us:=Au h fun a _ h=>bnd3 (P:=fun r=>P (a :: r)) h (f a)
end
theorem hb1 {x:Str} {st:Stmt} {b:Str} (f:∀ (kV doc pm:Value) (an:Option Addr) (a ct a0:Value),bindArgs (PySem.W.fnOf x x (aP st) (aH st) (ag st) .none kV doc pm an a ct) ⟨[a0],[]⟩=pure ([b].zip [a0])) (kV doc pm:Value) (an:Option Addr) (a ct:Value) (us:List Value) (c:us.length=[b].length):bindArgs (PySem.W.fnOf x x (aP st) (aH st) (ag st) .none kV doc pm an a ct) ⟨us,[]⟩=pure ([b].zip us) :=
 bnd1 (P:=fun us=>bindArgs (PySem.W.fnOf x x (aP st) (aH st) (ag st) .none kV doc pm an a ct) ⟨us,[]⟩=pure ([b].zip us)) c (f kV doc pm an a ct)
theorem hb2 {x:Str} {st:Stmt} {c b:Str} (f:∀ (kV doc pm:Value) (an:Option Addr) (a ct a0 a1:Value),bindArgs (PySem.W.fnOf x x (aP st) (aH st) (ag st) .none kV doc pm an a ct) ⟨[a0,a1],[]⟩=pure ([c,b].zip [a0,a1])) (kV doc pm:Value) (an:Option Addr) (a ct:Value) (us:List Value) (d:us.length=[c,b].length):bindArgs (PySem.W.fnOf x x (aP st) (aH st) (ag st) .none kV doc pm an a ct) ⟨us,[]⟩=pure ([c,b].zip us) :=
 bnd2 (P:=fun us=>bindArgs (PySem.W.fnOf x x (aP st) (aH st) (ag st) .none kV doc pm an a ct) ⟨us,[]⟩=pure ([c,b].zip us)) d (f kV doc pm an a ct)
theorem hb3 {x:Str} {st:Stmt} {c b p2:Str} (f:∀ (kV doc pm:Value) (an:Option Addr) (a ct a0 a1 a2:Value),bindArgs (PySem.W.fnOf x x (aP st) (aH st) (ag st) .none kV doc pm an a ct) ⟨[a0,a1,a2],[]⟩=pure ([c,b,p2].zip [a0,a1,a2])) (kV doc pm:Value) (an:Option Addr) (a ct:Value) (us:List Value) (d:us.length=[c,b,p2].length):bindArgs (PySem.W.fnOf x x (aP st) (aH st) (ag st) .none kV doc pm an a ct) ⟨us,[]⟩=pure ([c,b,p2].zip us) :=
 bnd3 (P:=fun us=>bindArgs (PySem.W.fnOf x x (aP st) (aH st) (ag st) .none kV doc pm an a ct) ⟨us,[]⟩=pure ([c,b,p2].zip us)) d (f kV doc pm an a ct)
theorem hb4 {x:Str} {st:Stmt} {d b p2 c:Str} (f:∀ (kV doc pm:Value) (an:Option Addr) (a ct a0 a1 a2 a3:Value),bindArgs (PySem.W.fnOf x x (aP st) (aH st) (ag st) .none kV doc pm an a ct) ⟨[a0,a1,a2,a3],[]⟩=pure ([d,b,p2,c].zip [a0,a1,a2,a3])) (kV doc pm:Value) (an:Option Addr) (a ct:Value) (us:List Value) (e:us.length=[d,b,p2,c].length):bindArgs (PySem.W.fnOf x x (aP st) (aH st) (ag st) .none kV doc pm an a ct) ⟨us,[]⟩=pure ([d,b,p2,c].zip us) :=
 bnd4 (P:=fun us=>bindArgs (PySem.W.fnOf x x (aP st) (aH st) (ag st) .none kV doc pm an a ct) ⟨us,[]⟩=pure ([d,b,p2,c].zip us)) e (f kV doc pm an a ct)
end Bn
end
section
namespace L3
open PySem L2
def tgN:Expr->List Str
 | .Name x _=>[x]
 | .Tuple [.Name x _,.Name y _] _ _=>[x,y]
 | .Tuple [.Name x _,.Name y _,.Name z _] _ _=>[x,y,z]
 | _=>[]
def oC (tg:Expr) (N:List Str) (ix:List (Option Nat)):List Str:=tgN tg ++ ix.filterMap fun o=>o.bind fun i=>N[i]?
def ndB:List Str->Bool
 | []=>true
 | x :: xs=>!(xs.any fun y=>decide (y=x)) && ndB xs
theorem rV:∀ {xs:List Str},ndB xs=true->xs.Nodup
 | [],_=>.nil
 | x :: xs,h=>by
  simp only [ndB,Bool.and_eq_true,Bool.not_eq_true',List.any_eq_false,decide_eq_true_eq] at h
  exact List.nodup_cons.mpr ⟨fun m=>h.1 x m rfl,rV h.2⟩
section
variable {X:Cx} {G0:Gm} {W0:D->Sto->Prop} {pos:Pos}
theorem vN (d:X.calm=true) (hi:RI X G0 W0 tg iter im) (f:∀ s H C fp,PTs (aC X (oC tg X.N ix) scope s H C fp) ifs (tT X.K (aV ix) noX cm)) (he:∀ s H C fp,RE (aC X (oC tg X.N ix) scope s H C fp) (aV ix) noX elt em) (e:fM scope X.N X.env.scope (oC tg X.N ix) ix=true) (c:Inj ix) (g:∀ x,foldedSetIterable iter X.env x=pure x) (b:∃ a,Bnd X.K (aV ix).pr a bnd/\∀ s H C fp,PG (aC X (oC tg X.N ix) scope s H C fp) tg a):RE X G0 W0 (.ListComp elt [⟨tg,iter,ifs,0⟩] scope pos) (bx im bnd cm em ix) :=
 zf _ ix d hi f he e c g b
theorem oh {i:Nat} (m:X.N.Nodup) (h:X.N[i]?=some y) (l:Loc X.env.scope y) (j:X.calm=true) (hi:RI X G0 W0 tg iter im) (f:∀ s H C fp,PTs (aC X (oC tg X.N ix) scope s H C fp) ifs (tT X.K (aV ix) noX cm)) (he:∀ s H C fp,RE (aC X (oC tg X.N ix) scope s H C fp) (aV ix) noX elt em) (e:fM scope X.N X.env.scope (oC tg X.N ix) ix=true) (d:Inj ix) (b:swapsWith (.ListComp elt [⟨tg,iter,ifs,0⟩] scope pos) (some (.Name y py)) spos.line X.env=pure true) (hf:X.fn y=true\/X.env.scope.names.lookup y=some .local) (g:∀ x,foldedSetIterable iter X.env x=pure x) (k:G0.pr i=false) (c:∃ a,Bnd X.K (aV ix).pr a bnd/\∀ s H C fp,PG (aC X (oC tg X.N ix) scope s H C fp) tg a):RS X G0 W0 (.Assign [.Name y py] (.ListComp elt [⟨tg,iter,ifs,0⟩] scope pos) spos) (ba i (bx im bnd cm em ix)) :=
 qc m h l _ ix j hi f he e d b hf g k c
end
section
variable {X:Cx} {G0:Gm} {W0:D->Sto->Prop} {p q r:Pos} {m:EM} {e e1:Expr} {es:List Expr} {t:M3 Bool} {sm:SM}
theorem gN {i:Nat} (h:RE X G0 W0 (.Name x p) (af i)):RE X G0 W0 (.Name x p) (af i):=h
theorem gG (h:RE X G0 W0 (.Name x p) (mC d)):RE X G0 W0 (.Name x p) (mC d):=h
theorem gH (h:RE X G0 W0 (.Name x p) m):RE X G0 W0 (.Name x p) m:=h
theorem gK {k:Nat} (h:RE X G0 W0 (.Constant c k p) m):RE X G0 W0 (.Constant c k p) m:=h
theorem gB (op:Operator) (h:RE X G0 W0 (.BinOp e op e1 p) m):RE X G0 W0 (.BinOp e op e1 p) m:=h
theorem gU (op:UnaryOp) (h:RE X G0 W0 (.UnaryOp op e p) m):RE X G0 W0 (.UnaryOp op e p) m:=h
theorem gP (os:List CmpOp) (h:RE X G0 W0 (.Compare e os es p) m):RE X G0 W0 (.Compare e os es p) m:=h
theorem gO (h:RE X G0 W0 (.BoolOp op es p) m):RE X G0 W0 (.BoolOp op es p) m:=h
theorem gS (h:RE X G0 W0 (.Subscript e e1 p) m):RE X G0 W0 (.Subscript e e1 p) m:=h
theorem gL (h:RE X G0 W0 (.Subscript e (.Slice a b c p) q) m):RE X G0 W0 (.Subscript e (.Slice a b c p) q) m:=h
theorem gI (x:Str) (h:RE X G0 W0 (.Call (.Name s p) [e,.Name x q] [] r) m):RE X G0 W0 (.Call (.Name s p) [e,.Name x q] [] r) m:=h
theorem gC (x:Str) (h:RE X G0 W0 (.Call (.Name x p) es ks q) m):RE X G0 W0 (.Call (.Name x p) es ks q) m:=h
theorem gD (h:RE X G0 W0 (.Call (.Name x p) es ks q) m):RE X G0 W0 (.Call (.Name x p) es ks q) m:=h
theorem gM (x:Str) (h:RE X G0 W0 (.Call (.Attribute e x p) es ks q) m):RE X G0 W0 (.Call (.Attribute e x p) es ks q) m:=h
theorem gE (h:RE X G0 W0 e m):RE X G0 W0 e m:=h
theorem gA (h:RA X G0 W0 es ms):RA X G0 W0 es ms:=h
theorem gQ (os:List CmpOp) (h:RT X G0 W0 (.Compare e os es p) t):RT X G0 W0 (.Compare e os es p) t:=h
theorem gW (h:RT X G0 W0 (.BoolOp op es p) t):RT X G0 W0 (.BoolOp op es p) t:=h
theorem gV (h:RT X G0 W0 (.UnaryOp .Not e p) t):RT X G0 W0 (.UnaryOp .Not e p) t:=h
theorem gT (h:RT X G0 W0 e t):RT X G0 W0 e t:=h
theorem gR (h:RS X G0 W0 (.Return o p) sm):RS X G0 W0 (.Return o p) sm:=h
theorem gF (h:RS X G0 W0 (.If e ss tt p) sm):RS X G0 W0 (.If e ss tt p) sm:=h
theorem gX (h:RS X G0 W0 (.Assign [.Name x p] e q) sm):RS X G0 W0 (.Assign [.Name x p] e q) sm:=h
theorem gZ (h:RS X G0 W0 st sm):RS X G0 W0 st sm:=h
theorem gY (h:RSs X G0 W0 ss sm):RSs X G0 W0 ss sm:=h
end
end L3
end
section
namespace Bn
open PySem L2 L3
local macro_rules | `(tactic| infer_instance)=>`(tactic| first | with_reducible apply bC | with_reducible exact i_c | with_reducible apply kE | with_reducible apply CT | with_reducible apply cS | with_reducible exact dW | with_reducible apply bH | with_reducible apply CY | with_reducible apply AT | with_reducible apply i_asg | with_reducible apply xi | with_reducible apply df | with_reducible exact i_nilS | with_reducible apply k7 | with_reducible apply hV | with_reducible apply i_mNot | with_reducible apply i_sl | with_reducible exact Ad | with_reducible apply Ac | with_reducible apply i_mut | with_reducible apply o0 | with_reducible apply Ae | with_reducible apply dD | with_reducible apply si | with_reducible apply kD)
local macro_rules | `(tactic| eq_refl)=>`(tactic| first | exact rfl | exact Nat.le_of_ble_eq_true rfl)
local macro_rules | `(tactic| nofun) => `(tactic| repeat' (first | infer_instance | eq_refl))
local macro_rules | `(tactic| exists $es,*) => `(tactic| repeat' (first | infer_instance | (first $[| exact $es]*) | eq_refl))
local macro_rules | `(tactic| nomatch [$fs,*]) => `(tactic| repeat' (first | infer_instance | (first $[| with_reducible apply ao $fs]*) | eq_refl))
local macro_rules | `(tactic| nomatch [$fs,*], [$es,*]) => `(tactic| repeat' (first | infer_instance | (first $[| with_reducible apply ao $fs]*) | (first $[| exact $es]*) | eq_refl))
section
variable {X:Cx} {G0:Gm} {W0:L3.D->Sto->Prop} {pos:Pos}
end
section
variable {P:Program} {w:World} {K:FG} {mg:Str->Option Value} {base:Heap}
local macro_rules | `(tactic| ac_rfl) => `(tactic| exact ⟨rfl,rfl,rfl,by decide +kernel,rfl,by decide +kernel,by decide +kernel⟩)
set_option hygiene false
local macro_rules | `(tactic| and_intros)=>`(tactic| repeat' (first
 | ((with_reducible apply gA);first | refine rJ ?_ ?_ rfl | refine vP)
 | ((with_reducible apply gN);first | refine mF _ rfl (Or.inl rfl) (by decide) (by decide) | refine mF _ rfl (Or.inr (Or.inl rfl)) (by decide) (by decide))
 | ((with_reducible apply gG);refine oj rfl (by assumption) (by decide))
 | ((with_reducible apply gK);first | refine BU | refine re_bl | refine BR)
 | ((with_reducible apply gL);refine vL ?_ ?_ ?_)
 | ((with_reducible apply gS);refine re_ix (CQ hr.hu) Cr ?_ ?_ (fun _ _=>rfl))
 | ((with_reducible apply gB .Add);refine iY zE Cv ?_ ?_)
 | ((with_reducible apply gB .Mult);refine iY Cn zK ?_ ?_)
 | ((with_reducible apply gB .Sub);refine iY Cj zH ?_ ?_)
 | ((with_reducible apply gB .Mod);refine iY Co zL ?_ ?_)
 | ((with_reducible apply gB .FloorDiv);refine iY wr zO ?_ ?_)
 | ((with_reducible apply gB .Pow);refine iY Ck zJ ?_ ?_)
 | ((with_reducible apply gQ [.Eq]);refine iV (wu hr.units) wx ?_ ?_ (dJ _))
 | ((with_reducible apply gQ [.Lt]);refine iV AM AO ?_ ?_ (dJ _))
 | ((with_reducible apply gQ [.NotEq]);first | refine iV (Cl hr.units) Cs ?_ ?_ (dJ _) | refine iV (Cm hr.units) Ct ?_ ?_ (dJ _))
 | ((with_reducible apply gQ [.Gt]);refine iV AN AR ?_ ?_ (dJ _))
 | ((with_reducible apply gQ [.GtE]);refine iV op_ge od_ge ?_ ?_ (dJ _))
 | ((with_reducible apply gW);refine rt_w ?_)
 | ((with_reducible apply gV);refine BI ?_)
 | ((with_reducible apply gT);refine BH ?_ (fun _=>rfl))
 | ((with_reducible apply gP [.Eq]);refine mH (wu hr.units) wx ?_ ?_ (dJ _))
 | ((with_reducible apply gP [.LtE,.LtE]);refine vO rT AQ rT AQ ?_ ?_ ?_ (fun h1 h2 h3=>wm rT rT h1 h2 h3))
 | ((with_reducible apply gP [.Lt]);refine mH AM AO ?_ ?_ (dJ _))
 | ((with_reducible apply gP [.Is]);refine mH Cp Cu ?_ ?_ (dJ _))
 | ((with_reducible apply gP [.Gt]);refine mH AN AR ?_ ?_ (dJ _))
 | ((with_reducible apply gO);first | refine BV ?_ ?_ | refine BP ?_)
 | ((with_reducible apply gU .USub);refine re_un A4 A5 ?_)
 | ((with_reducible apply gU .Not);refine BQ ?_)
 | ((with_reducible apply gI "tuple");refine mG kP rfl B.isinstance (jU (v:=V.ty "tuple") rfl B.tuple sK rfl (by decide) (by decide)) ?_ rfl rfl rfl)
 | ((with_reducible apply gI "int");refine mG ni rfl B.isinstance (jU (v:=V.ty "int") rfl B.int b_int rfl (by decide) (by decide)) ?_ rfl rfl rfl)
 | ((with_reducible apply gI "bool");refine mG ld rfl B.isinstance (jU (v:=V.ty "bool") rfl B.bool De rfl (by decide) (by decide)) ?_ rfl rfl rfl)
 | ((with_reducible apply gI "dict");refine mG lc rfl B.isinstance (jU (v:=V.ty "dict") rfl B.dict Dd rfl (by decide) (by decide)) ?_ rfl rfl rfl)
 | ((with_reducible apply gC "len");refine c6 nh C8 rfl B.len b_len ?_ (by decide) (by decide) rfl rfl)
 | ((with_reducible apply gC "all");refine c6 (xM rfl) C9 rfl B.all b_all ?_ (by decide) (by decide) rfl rfl)
 | ((with_reducible apply gC "tuple");refine lL la C6 rfl B.tuple sK ?_ (by decide) (by decide) rfl rfl)
 | ((with_reducible apply gC "max");first | refine c6 (uB rfl) Aq rfl B.max A0 ?_ (by decide) (by decide) rfl rfl | refine BT (vx rfl) zM rfl B.max A0 ?_ ?_ (by decide) (by decide) rfl rfl rfl rfl rfl rfl)
 | ((with_reducible apply gC "abs");refine c6 xN Da rfl B.abs b_abs ?_ (by decide) (by decide) rfl rfl)
 | ((with_reducible apply gC "divmod");refine c6 pD ut rfl B.divmod xS ?_ (by decide) (by decide) rfl rfl)
 | ((with_reducible apply gC "list");refine lL ng C7 rfl B.list Dc ?_ (by decide) (by decide) rfl rfl)
 | ((with_reducible apply gC "sorted");first | refine re_ss rfl rfl B.sorted pN rfl B.set b_set ?_ (by decide) (by decide) (by decide) (by decide) rfl rfl | refine c6 (qO (Nat.lt_of_le_of_lt (Nat.add_le_add_left (by decide:2<=64) _) hr.units)) xK rfl B.sorted pN ?_ (by decide) (by decide) rfl rfl)
 | ((with_reducible apply gC "min");refine c6 (uz rfl) Ap rfl B.min b_min ?_ (by decide) (by decide) rfl rfl)
 | ((with_reducible apply gD);refine zg (by assumption) (hr.mono (by first | decide | omega)) ?_ rfl (by decide) rfl rfl)
 | ((with_reducible apply gM "extend");refine rH (ok:=isL) PySem.F.plainAttrs_list PySem.F.slot_list_extend PySem.F.type_list_extend tU CC xb (iZ rfl (Or.inl rfl) (by decide) (by decide)) ?_ rfl rfl rfl rfl rfl)
 | ((with_reducible apply gM "append");refine rH (ok:=isL) PySem.F.plainAttrs_list PySem.F.slot_list_append PySem.F.type_list_append tV CD xb (iZ rfl (Or.inl rfl) (by decide) (by decide)) ?_ rfl rfl rfl rfl rfl)
 | ((with_reducible apply gM "get");refine ze (ok:=xc) PySem.F.plainAttrs_dict PySem.F.slot_dict_get PySem.F.type_dict_get (CB hr.hu) As Aa ?_ ?_ rfl rfl rfl rfl rfl)
 | ((with_reducible apply gH);first | refine mF _ rfl (Or.inl rfl) (by decide) (by decide) | refine mF _ rfl (Or.inr (Or.inl rfl)) (by decide) (by decide) | refine oj rfl (by assumption) (by decide))
 | ((with_reducible apply gE);first | refine vN rfl ?_ (fun s H C fp=>?_) (fun s H C fp=>?_) (by rfl) (xg (by decide)) (fun _=>rfl) ⟨_,iM rfl,fun s H C fp=>fZ (rV rfl) rfl (Or.inl rfl) (Or.inr rfl)⟩ | refine BS ?_ | refine BO ?_ | refine vM | refine re_if ?_ ?_ ?_)
 | ((with_reducible apply gY);first | refine yW ?_ | refine vD ?_ ?_ | refine yX)
 | ((with_reducible apply gR);refine BJ _ (fun i hi=>by rw [hp] ;exact zr (by simpa using hi)) ?_)
 | ((with_reducible apply gF);refine rs_if ?_ ?_ ?_)
 | ((with_reducible apply gX);first | refine oh nd rfl (Or.inl rfl) rfl ?_ (fun s H C fp=>?_) (fun s H C fp=>?_) (by rfl) (xg (by decide)) rfl (Or.inl rfl) (fun _=>rfl) (by rw [hp] ;rfl) ⟨_,sI (jl (iM rfl) (jl (iM rfl) pK)),fun s H C fp=>qj (n:=2) rfl (fD (fZ (rV rfl) rfl (Or.inl rfl) (Or.inr rfl)) (fD (fZ (rV rfl) rfl (Or.inl rfl) (Or.inr rfl)) mL rfl) rfl) rfl rfl⟩ | refine vG _ nd rfl (Or.inl rfl) ?_ rfl (Or.inl rfl) (by rw [hp] ;rfl) | refine vG _ nd rfl (Or.inr rfl) ?_ rfl (Or.inl rfl) (by rw [hp] ;rfl))
 | ((with_reducible apply gZ);first | refine yY _ _ _ PassesOwn.never rfl nd rfl (Or.inr rfl) (Or.inl rfl) (by rw [hp] ;rfl) rfl (Or.inl rfl) (Or.inl rfl) (by rw [hp] ;rfl) rfl (Or.inl rfl) (by decide) (by decide) rfl B.zip ?_ ?_ (fun _=>rfl) | refine BK PassesOwn.never rfl ?_ ?_ ?_ (fun _=>rfl) | refine yZ ?_ rfl | refine vF (rq hr.hu) wI (iZ rfl (Or.inl rfl) (by decide) (by decide)) ?_ ?_ (fun _=>rfl) rfl rfl rfl | refine vF (rq hr.hu) wI (iZ rfl (Or.inr (Or.inl rfl)) (by decide) (by decide)) ?_ ?_ (fun _=>rfl) rfl rfl rfl | refine BL ?_ ?_ rfl rfl rfl | refine vH | refine vE PassesOwn.never ?_ ?_)
 | refine rE _ nd rfl (Or.inl rfl) (Or.inl rfl) (by rw [hp] ;rfl)
 | refine BM ?_
 | refine za rfl B.range ?_ rfl
 | refine vJ
 | refine rw_or ?_ ?_
 | refine vK ?_ ?_ rfl
 | refine rE _ nd rfl (Or.inr rfl) (Or.inl rfl) (by rw [hp] ;rfl)
 | refine BB ?_
 | refine y9 rfl B.range ?_ rfl rfl
 | refine vI ?_
 | refine zd
 | refine BN rfl ?_ rfl rfl
 | refine y7
 | refine y6 ?_
 | refine zc rfl B.enumerate ?_ rfl
 | refine zb ?_))
local macro_rules | `(tactic| specialize $q) => `(tactic| exact aM D $q rfl rfl (by first | exact hb1 fun _ _ _ _ _ _ _=>rfl | exact hb2 fun _ _ _ _ _ _ _ _=>rfl | exact hb3 fun _ _ _ _ _ _ _ _ _=>rfl | exact hb4 fun _ _ _ _ _ _ _ _ _ _=>rfl) fun cdv A outer s H E f G hr hp=>have nd:=($q).nd;by and_intros)
set_option hygiene true
def qy:SM:=(aT 1 (hU (mUn (iF "int") (af 0)) (oU (mUn (iF "bool") (af 0)))))
def eQ:Fn:=fnM [false] 1 qy
theorem sc_is_whole:FnScope ["thing"] ["thing"] (ag eh):=by ac_rfl
theorem nq (B:Bl mg) (D:Def K mg "is_whole" eh):aF P w K mg base "is_whole" 1 ["thing"] eQ :=by specialize sc_is_whole
def qA:SM:=(aT 1 (hU (mUn (iF "tuple") (af 0)) (hU (ah eqX (aw dS (ad (af 0) ai)) (mC (.int 2))) (hU (am eQ (ad (ah aG (af 0) (mC (.int 0))) ai)) (am eQ (ad (ah aG (af 0) (mC (.int 1))) ai))))))
def eS:Fn:=fnM [false] 1 qA
theorem sc_is_point:FnScope ["thing"] ["thing"] (ag eA):=by ac_rfl
theorem nw (B:Bl mg) (D:Def K mg "is_point" eA) (a:aF P w K mg base "is_whole" 1 ["thing"] eQ):aF P w K mg base "is_point" 2 ["thing"] eS :=by specialize sc_is_point
def cF:EM:=(am eS (ad (af 0) ai))
def eW:EM:=(bx (cf (af 0)) (aj 0) fg cF [none])
def mS:SM:=(aT 1 (hU (eI leI leI (mC (.int 1)) (aw dS (ad (af 0) ai)) (mC (.int (24)))) (aw q8 (ad eW ai))))
def cU:Fn:=fnM [false] 1 mS
theorem sc_are_points:FnScope ["things"] ["things"] (ag cO):=by ac_rfl
theorem kQ (B:Bl mg) (D:Def K mg "are_points" cO) (c:aF P w K mg base "is_point" 2 ["thing"] eS) {a:Tok} (b:mg "MOST_POINTS"=some (.int (24) a)):aF P w K mg base "are_points" 3 ["things"] cU :=by specialize sc_are_points
def bX:EM:=(ah ltI (ah aG (ah aG (af 1) (af 0)) (mC (.int 0))) (ah aG (ah aG (af 1) (ah cE (af 0) (mC (.int 1)))) (mC (.int 0))))
def dB:EM:=(bx (bf cn (ad (ah fm (aw dS (ad (af 0) ai)) (mC (.int 1))) ai)) (aj 0) fg bX [none,some 0])
def fI:SM:=(aT 1 (aw q8 (ad dB ai)))
def ce:Fn:=fnM [false] 1 fI
theorem sc_has_rising_x:FnScope ["points"] ["points"] (ag bO):=by ac_rfl
theorem jj (B:Bl mg) (D:Def K mg "has_rising_x" bO):aF P w K mg base "has_rising_x" 1 ["points"] ce :=by specialize sc_has_rising_x
def CG:SM:=(aI (ba 3 (ah dL (ah fm (ah aG (af 1) (mC (.int 0))) (ah aG (af 0) (mC (.int 0)))) (ah fm (ah aG (af 2) (mC (.int 1))) (ah aG (af 0) (mC (.int 1)))))) (aT 3 (ah fm (af 3) (ah dL (ah fm (ah aG (af 1) (mC (.int 1))) (ah aG (af 0) (mC (.int 1)))) (ah fm (ah aG (af 2) (mC (.int 0))) (ah aG (af 0) (mC (.int 0))))))))
def jm:Fn:=fnM [false,false,false] 4 CG
theorem sc_bend:FnScope ["first","second","third","run"] ["first","second","third"] (ag mB):=by ac_rfl
theorem xP (B:Bl mg) (D:Def K mg "bend" mB):aF P w K mg base "bend" 1 ["first","second","third"] jm :=by specialize sc_bend
def fF:EM:=(jJ (ad (af 1) (ad (af 2) (ad (af 0) ai))))
def ju:EM:=(bx (bf iX (ad (ah cE (af 3) (mC (.int 1))) (ad (af 0) ai))) (aj 0) fg fF [none,some 2,some 3])
def fG:SM:=(fA (t5 isL xw 1 (ad ju ai)))
def jv:SM:=(bP (bf iX (ad (ah cE (af 2) (mC (.int 1))) (ad (af 0) ai))) (aj 3) fG)
def wJ:SM:=(aI (ba 1 (jK ai)) (aI (bP (bf cn (ad (af 0) ai)) (aj 2) jv) (aT 1 (af 1))))
def dZ:Fn:=fnM [false] 4 wJ
theorem sc_threes:FnScope ["many","found","i","j"] ["many"] (ag ip):=by ac_rfl
theorem qP (B:Bl mg) (D:Def K mg "threes" ip):aF P w K mg base "threes" 1 ["many"] dZ :=by specialize sc_threes
def bG:EM:=(ah aG (af 1) (af 0))
def c8:EM:=(bx (cf (af 1)) (aj 0) fg bG [none,some 0])
def bo:SM:=(aI (ba 2 (aw yq (ad c8 ai))) (sIf (cB (ah eqX (am jm (ad (ah aG (af 2) (mC (.int 0))) (ad (ah aG (af 2) (mC (.int 1))) (ad (ah aG (af 2) (mC (.int 2))) ai)))) (mC (.int 0)))) (aT 1 (af 2)) eB))
def jI:SM:=(aI (bP (cf (am dZ (ad (aw dS (ad (af 0) ai)) ai))) (aj 1) bo) (aT 1 (mC .non)))
def bF:Fn:=fnM [false] 3 jI
theorem sc_first_on_line:FnScope ["points","three","found"] ["points"] (ag bE):=by ac_rfl
theorem iL (B:Bl mg) (D:Def K mg "first_on_line" bE) (b:aF P w K mg base "bend" 1 ["first","second","third"] jm) (a:aF P w K mg base "threes" 1 ["many"] dZ):aF P w K mg base "first_on_line" 2 ["points"] bF :=by specialize sc_first_on_line
def qz:SM:=(aI (sIf (cOr (fQ (cB (mUn (iF "tuple") (af 0)))) (fQ (cB (am cU (ad (af 0) ai))))) (aT 1 (mC (.bl false))) eB) (aT 1 (hU (am ce (ad (af 0) ai)) (ah isN (am bF (ad (af 0) ai)) (mC .non)))))
def eR:Fn:=fnM [false] 1 qz
theorem sc_is_sheet:FnScope ["thing"] ["thing"] (ag en):=by ac_rfl
theorem nt (B:Bl mg) (D:Def K mg "is_sheet" en) (c:aF P w K mg base "are_points" 3 ["things"] cU) (a:aF P w K mg base "first_on_line" 2 ["points"] bF) (b:aF P w K mg base "has_rising_x" 1 ["points"] ce):aF P w K mg base "is_sheet" 4 ["thing"] eR :=by specialize sc_is_sheet
def kZ:SM:=(sIf (fQ (cB (am eR (ad (af 0) ai)))) vp eB)
def cr:Fn:=fnM [false] 1 kZ
theorem sc_check_sheet:FnScope ["thing"] ["thing"] (ag cq):=by ac_rfl
theorem jP (B:Bl mg) (D:Def K mg "check_sheet" cq) (a:aF P w K mg base "is_sheet" 4 ["thing"] eR):aF P w K mg base "check_sheet" 5 ["thing"] cr :=by specialize sc_check_sheet
def t0:SM:=(aT 2 (mIf (cB (ah gtI (am jm (ad (ah aG (af 0) (ah aG (af 1) (mC (.int 0)))) (ad (ah aG (af 0) (ah aG (af 1) (mC (.int 1)))) (ad (ah aG (af 0) (ah aG (af 1) (mC (.int 2)))) ai)))) (mC (.int 0)))) (mC (.int 1)) (mUn kj (mC (.int 1)))))
def cW:Fn:=fnM [false,false] 2 t0
theorem sc_turn_at:FnScope ["sheet","three"] ["sheet","three"] (ag fU):=by ac_rfl
theorem pE (B:Bl mg) (D:Def K mg "turn_at" fU) (a:aF P w K mg base "bend" 1 ["first","second","third"] jm):aF P w K mg base "turn_at" 2 ["sheet","three"] cW :=by specialize sc_turn_at
def bY:SM:=(iU nZ 1 (af 2) (am cW (ad (af 0) (ad (af 2) ai))))
def oS:SM:=(aI (fA (am cr (ad (af 0) ai))) (aI (ba 1 mT) (aI (bP (cf (am dZ (ad (aw dS (ad (af 0) ai)) ai))) (aj 2) bY) (aT 1 (af 1)))))
def dH:Fn:=fnM [false] 3 oS
theorem sc_all_turns:FnScope ["sheet","turns","three"] ["sheet"] (ag dn):=by ac_rfl
theorem lj (B:Bl mg) (D:Def K mg "all_turns" dn) (a:aF P w K mg base "check_sheet" 5 ["thing"] cr) (c:aF P w K mg base "threes" 1 ["many"] dZ) (b:aF P w K mg base "turn_at" 2 ["sheet","three"] cW):aF P w K mg base "all_turns" 6 ["sheet"] dH :=by specialize sc_all_turns
def bR:M3 Bool:=(cB (ah eqX (ah aG (af 4) (jJ (ad (af 0) (ad (af 2) (ad (af 5) ai))))) (af 3)))
def bQ:EM:=(ah aG (af 1) (jJ (ad (af 0) (ad (af 2) ai))))
def c7:EM:=(bx (bf cn (ad (af 4) ai)) (aj 0) bR bQ [none,some 3,some 4,some 1,some 2,some 5])
def bT:SM:=(iU nZ 3 (jJ (ad (af 4) (ad (af 5) ai))) (ah cE (mC (.int 1)) (ah zV c7 (mC (.int 1)))))
def bS:SM:=(bP (bf iX (ad (ah cE (af 4) (mC (.int 1))) (ad (aw dS (ad (af 0) ai)) ai))) (aj 5) bT)
def oP:SM:=(aI (ba 2 (am dH (ad (af 0) ai))) (aI (ba 3 mT) (aI (bP (bf cn (ad (aw dS (ad (af 0) ai)) ai)) (aj 4) bS) (aT 2 (af 3)))))
def bL:Fn:=fnM [false,false] 6 oP
theorem sc_row_table:FnScope ["sheet","way","turns","most","i","j"] ["sheet","way"] (ag dj):=by ac_rfl
theorem lf (B:Bl mg) (D:Def K mg "row_table" dj) (a:aF P w K mg base "all_turns" 6 ["sheet"] dH):aF P w K mg base "row_table" 7 ["sheet","way"] bL :=by specialize sc_row_table
def jy:SM:=(aT 1 (am bL (ad (af 0) (ad (mC (.int (1))) ai))))
def dF:Fn:=fnM [false] 1 jy
theorem sc_cup_table:FnScope ["sheet"] ["sheet"] (ag dl):=by ac_rfl
theorem lg (B:Bl mg) (D:Def K mg "cup_table" dl) (a:aF P w K mg base "row_table" 7 ["sheet","way"] bL) {b:Tok} (c:mg "UP"=some (.int (1) b)):aF P w K mg base "cup_table" 8 ["sheet"] dF :=by specialize sc_cup_table
def jz:SM:=(aT 1 (am bL (ad (af 0) (ad (mC (.int (-1))) ai))))
def dG:Fn:=fnM [false] 1 jz
theorem sc_cap_table:FnScope ["sheet"] ["sheet"] (ag dm):=by ac_rfl
theorem lh (B:Bl mg) (D:Def K mg "cap_table" dm) (b:aF P w K mg base "row_table" 7 ["sheet","way"] bL) {a:Tok} (c:mg "DOWN"=some (.int (-1) a)):aF P w K mg base "cap_table" 8 ["sheet"] dG :=by specialize sc_cap_table
def wL:SM:=(aI (sIf (cB (ah ltI (af 1) (aw dS (ad (af 0) ai)))) (aT 2 (ah aG (af 0) (af 1))) eB) (aT 2 (mC (.int 0))))
def iP:Fn:=fnM [false,false] 2 wL
theorem sc_l_cell:FnScope ["_law_script","_law_k"] ["_law_script","_law_k"] (ag iw):=by ac_rfl
theorem qT (B:Bl mg) (D:Def K mg "_law_cell" iw):aF P w K mg base "_law_cell" 1 ["_law_script","_law_k"] iP :=by specialize sc_l_cell
def zY:SM:=(aI (ba 2 (jK (ad (mC (.int 48271)) (ad (mC (.int 69621)) (ad (mC (.int 16807)) (ad (mC (.int 39373)) (ad (mC (.int 30269)) (ad (mC (.int 40014)) (ad (mC (.int 40692)) (ad (mC (.int 50021)) (ad (mC (.int 61687)) (ad (mC (.int 71993)) (ad (mC (.int 83869)) (ad (mC (.int 95561)) (ad (mC (.int 30307)) ai))))))))))))))) (aI (ba 3 (ah cE (ah cE (ah dL (ah cE (ah qv (af 0) (mC (.int 2147483647))) (mC (.int 12345))) (ah aG (af 2) (ah qv (af 1) (mC (.int 13))))) (ah dL (mC (.int 977)) (af 1))) (ah dL (mC (.int 7919)) (ah ul (af 1) (mC (.int 13)))))) (aI (ba 3 (ah qv (af 3) (mC (.int 1000000007)))) (aT 2 (ah ul (ah qv (ah cE (ah dL (af 3) (af 3)) (ah dL (mC (.int 48271)) (af 1))) (mC (.int 1000000007))) (mC (.int 7)))))))
def jY:Fn:=fnM [false,false] 4 zY
theorem sc_l_mix:FnScope ["_law_cell_here","_law_k","_law_some","_law_stir"] ["_law_cell_here","_law_k"] (ag jQ):=by ac_rfl
theorem uC (B:Bl mg) (D:Def K mg "_law_mix" jQ):aF P w K mg base "_law_mix" 1 ["_law_cell_here","_law_k"] jY :=by specialize sc_l_mix
def hJ:SM:=(ba 3 (ah cE (ah dL (af 3) (mC (.int 142857143))) (am jY (ad (af 2) (ad (af 4) ai)))))
def z4:SM:=(aI (ba 2 (am iP (ad (af 0) (ad (af 1) ai)))) (aI (sIf (cB (ah eqX (ah qv (af 2) (mC (.int 2))) (mC (.int 0)))) (aT 2 (jK (ad (ah ul (aw absD (ad (af 2) ai)) (mC (.int 2))) ai))) eB) (aI (ba 3 (mC (.int 0))) (aI (bP (bf cn (ad (mC (.int 40)) ai)) (aj 4) hJ) (aT 2 (jK (ad (af 3) ai)))))))
def jZ:Fn:=fnM [false,false] 5 z4
theorem sc_l_box:FnScope ["_law_script","_law_k","_law_cell_here","_law_number","_law_j"] ["_law_script","_law_k"] (ag jS):=by ac_rfl
theorem uE (B:Bl mg) (D:Def K mg "_law_box" jS) (a:aF P w K mg base "_law_cell" 1 ["_law_script","_law_k"] iP) (b:aF P w K mg base "_law_mix" 1 ["_law_cell_here","_law_k"] jY):aF P w K mg base "_law_box" 2 ["_law_script","_law_k"] jZ :=by specialize sc_l_box
def wK:SM:=(aI (kW (iN 2 (bK (aj 2) (bK (aj 3) iO))) (aw xC (ad (ah aG (af 0) (mC (.int 0))) (ad (af 1) ai)))) (aI (iU nZ 0 (mC (.int 0)) (af 2)) (aT 2 (af 3))))
def bD:Fn:=fnM [false,false] 4 wK
theorem sc_l_take:FnScope ["_law_box_here","_law_many","_law_left","_law_digit"] ["_law_box_here","_law_many"] (ag iq):=by ac_rfl
theorem qQ (B:Bl mg) (D:Def K mg "_law_take" iq):aF P w K mg base "_law_take" 1 ["_law_box_here","_law_many"] bD :=by specialize sc_l_take
def t4:SM:=(aT 1 (hU (mUn (iF "int") (af 0)) (oU (mUn (iF "bool") (af 0)))))
def cX:Fn:=fnM [false] 1 t4
theorem sc_l_whole:FnScope ["_law_thing"] ["_law_thing"] (ag fV):=by ac_rfl
theorem pF (B:Bl mg) (D:Def K mg "_law_whole" fV):aF P w K mg base "_law_whole" 1 ["_law_thing"] cX :=by specialize sc_l_whole
def wM:SM:=(aI (kW (iN 2 (bK (aj 3) (bK (aj 4) iO))) (af 0)) (aI (ba 5 (ah dL (ah fm (ah aG (af 1) (mC (.int 0))) (af 3)) (ah fm (ah aG (af 2) (mC (.int 1))) (af 4)))) (aT 3 (ah fm (af 5) (ah dL (ah fm (ah aG (af 1) (mC (.int 1))) (af 4)) (ah fm (ah aG (af 2) (mC (.int 0))) (af 3)))))))
def dg:Fn:=fnM [false,false,false] 6 wM
theorem sc_l_bend:FnScope ["_law_one","_law_two","_law_three","_law_x","_law_y","_law_wide"] ["_law_one","_law_two","_law_three"] (ag iy):=by ac_rfl
theorem qU (B:Bl mg) (D:Def K mg "_law_bend" iy):aF P w K mg base "_law_bend" 1 ["_law_one","_law_two","_law_three"] dg :=by specialize sc_l_bend
def cy:SM:=(sIf (cB (ah eqX (am dg (ad (af 4) (ad (af 3) (ad (af 1) ai)))) (mC (.int 0)))) (aT 2 (mC (.bl false))) eB)
def dA:SM:=(bP (cf (mSl slD (af 0) eU (dQ (af 2)))) (aj 4) cy)
def ku:SM:=(aI (bP (kC (ad (af 0) ai)) (iN 2 (bK (aj 2) (bK (aj 3) iO))) dA) (aT 2 (mC (.bl true))))
def d7:Fn:=fnM [false,false] 5 ku
theorem sc_l_free:FnScope ["_law_found","_law_point","_law_at","_law_one","_law_two"] ["_law_found","_law_point"] (ag iu):=by ac_rfl
theorem qS (B:Bl mg) (D:Def K mg "_law_free" iu) (a:aF P w K mg base "_law_bend" 1 ["_law_one","_law_two","_law_three"] dg):aF P w K mg base "_law_free" 2 ["_law_found","_law_point"] d7 :=by specialize sc_l_free
def bU:M3 Bool:=(fQ (cB (am d7 (ad (af 5) (ad (jJ (ad (af 4) (ad (af 9) ai))) ai)))))
def cQ:SM:=(ba 9 (ah cE (af 9) (mC (.int 1))))
def bV:SM:=(aI (ba 4 (ah cE (ah cE (af 4) (mC (.int 1))) (am bD (ad (af 0) (ad (mC (.int 3)) ai))))) (aI (ba 7 (ah fm (am bD (ad (af 0) (ad (mC (.int 31)) ai))) (mC (.int 15)))) (aI (ba 8 (jK (ad (af 7) (ad (af 7) (ad (ah cE (ah dL (af 6) (af 6)) (ah ul (af 7) (mC (.int 9)))) (ad (ah fm (ah ul (af 7) (mC (.int 9))) (ah dL (af 6) (af 6))) ai)))))) (aI (ba 8 (ah cE (af 8) (jK (ad (ah dL (ah cE (ah dL (af 6) (af 6)) (mC (.int 30))) (ah fm (mC (.int 1)) (ah dL (mC (.int 2)) (ah qv (af 6) (mC (.int 2)))))) (ad (ah dL (af 7) (mC (.int 1000))) ai))))) (aI (ba 9 (ah aG (af 8) (af 3))) (aI (fy bU cQ) (fA (t5 isL Av 5 (ad (jJ (ad (af 4) (ad (af 9) ai))) ai)))))))))
def eF:EM:=(jJ (ad (ah cE (ah dL (ah wc (mC (.int 10)) (mC (.int 12))) (af 0)) (mC (.int 7))) (ad (ah dL (ah wc (mC (.int 10)) (mC (.int 9))) (af 1)) ai)))
def cP:EM:=(bx (cf (af 5)) (iN 2 (bK (aj 0) (bK (aj 1) iO))) fg eF [none,none])
def lR:SM:=(aI (ba 2 (ah cE (mC (.int 1)) (am bD (ad (af 0) (ad (af 1) ai))))) (aI (ba 3 (am bD (ad (af 0) (ad (mC (.int 6)) ai)))) (aI (ba 4 (ah fm (am bD (ad (af 0) (ad (mC (.int 9)) ai))) (mC (.int 4)))) (aI (ba 5 (jK ai)) (aI (bP (bf cn (ad (af 2) ai)) (aj 6) bV) (aI (sIf (cB (ah eqX (am bD (ad (af 0) (ad (mC (.int 6)) ai))) (mC (.int 5)))) (ba 5 cP) eB) (aT 2 (aw yq (ad (af 5) ai)))))))))
def d6:Fn:=fnM [false,false] 10 lR
theorem sc_l_sheet:FnScope ["_law_box_here","_law_most","_law_many","_law_kind","_law_x","_law_found","_law_k","_law_given","_law_some","_law_y"] ["_law_box_here","_law_most"] (ag fW):=by ac_rfl
theorem pG (B:Bl mg) (D:Def K mg "_law_sheet" fW) (b:aF P w K mg base "_law_free" 2 ["_law_found","_law_point"] d7) (a:aF P w K mg base "_law_take" 1 ["_law_box_here","_law_many"] bD):aF P w K mg base "_law_sheet" 3 ["_law_box_here","_law_most"] d6 :=by specialize sc_l_sheet
def CF:SM:=(aT 4 (ah gtI (am dg (ad (ah aG (af 0) (af 1)) (ad (ah aG (af 0) (af 2)) (ad (ah aG (af 0) (af 3)) ai)))) (mC (.int 0))))
def nD:Fn:=fnM [false,false,false,false] 4 CF
theorem sc_l_up:FnScope ["_law_sheet_here","_law_i","_law_j","_law_k"] ["_law_sheet_here","_law_i","_law_j","_law_k"] (ag mz):=by ac_rfl
theorem xO (B:Bl mg) (D:Def K mg "_law_up" mz) (a:aF P w K mg base "_law_bend" 1 ["_law_one","_law_two","_law_three"] dg):aF P w K mg base "_law_up" 2 ["_law_sheet_here","_law_i","_law_j","_law_k"] nD :=by specialize sc_l_up
def dM:EM:=(am cX (ad (af 0) ai))
def gk:EM:=(bx (cf (af 0)) (aj 0) fg dM [none])
def dN:M3 Bool:=(cOr (cB (ah ltI (af 0) (mC (.int 0)))) (cB (ah geI (af 0) (af 1))))
def gl:EM:=(af 0)
def gj:EM:=(bx (cf (af 0)) (aj 0) dN gl [none,some 1])
def kr:SM:=(aI (sIf (cOr (fQ (cB (mUn (iF "tuple") (af 0)))) (fQ (cB (aw q8 (ad gk ai))))) (aT 2 (mC (.bl false))) eB) (aI (sIf (cB (ah neX gj (jK ai))) (aT 2 (mC (.bl false))) eB) (aT 2 (ah eqX (aw CH (ad (af 0) ai)) (aw ssD (ad (af 0) ai))))))
def eO:Fn:=fnM [false,false] 2 kr
theorem sc_l_rising:FnScope ["_law_thing","_law_many"] ["_law_thing","_law_many"] (ag eg):=by ac_rfl
theorem nk (B:Bl mg) (D:Def K mg "_law_rising" eg) (a:aF P w K mg base "_law_whole" 1 ["_law_thing"] cX):aF P w K mg base "_law_rising" 2 ["_law_thing","_law_many"] eO :=by specialize sc_l_rising
def bW:SM:=(sIf (cB (ah neX (am nD (ad (af 0) (ad (ah aG (af 1) (af 3)) (ad (ah aG (af 1) (ah cE (af 3) (mC (.int 1)))) (ad (ah aG (af 1) (ah cE (af 3) (mC (.int 2)))) ai))))) (af 2))) (aT 3 (mC (.bl false))) eB)
def i5:SM:=(aI (sIf (cOr (fQ (cB (am eO (ad (af 1) (ad (aw dS (ad (af 0) ai)) ai))))) (cB (ah ltI (aw dS (ad (af 1) ai)) (mC (.int 2))))) (aT 3 (mC (.bl false))) eB) (aI (bP (bf cn (ad (ah fm (aw dS (ad (af 1) ai)) (mC (.int 2))) ai)) (aj 3) bW) (aT 3 (mC (.bl true)))))
def d8:Fn:=fnM [false,false,false] 4 i5
theorem sc_l_bends:FnScope ["_law_sheet_here","_law_thing","_law_up_here","_law_at"] ["_law_sheet_here","_law_thing","_law_up_here"] (ag fY):=by ac_rfl
theorem pJ (B:Bl mg) (D:Def K mg "_law_bends" fY) (a:aF P w K mg base "_law_rising" 2 ["_law_thing","_law_many"] eO) (b:aF P w K mg base "_law_up" 2 ["_law_sheet_here","_law_i","_law_j","_law_k"] nD):aF P w K mg base "_law_bends" 3 ["_law_sheet_here","_law_thing","_law_up_here"] d8 :=by specialize sc_l_bends
def mR:EM:=(ah cE (af 0) (jJ (ad (af 1) ai)))
def mQ:EM:=(bx (cf (af 1)) (aj 0) fg mR [none,some 2])
def cR:SM:=(ba 1 (ah cE (af 1) mQ))
def gb:SM:=(aI (ba 1 (jK (ad (jJ ai) ai))) (aI (bP (bf cn (ad (af 0) ai)) (aj 2) cR) (aT 1 (aw iT (ad (af 1) ai)))))
def aU:Fn:=fnM [false] 3 gb
theorem sc_l_parts:FnScope ["_law_many","_law_found","_law_place"] ["_law_many"] (ag fX):=by ac_rfl
theorem pH (B:Bl mg) (D:Def K mg "_law_parts" fX):aF P w K mg base "_law_parts" 1 ["_law_many"] aU :=by specialize sc_l_parts
def fH:M3 Bool:=(cB (am d8 (ad (af 1) (ad (af 0) (ad (af 2) ai)))))
def jx:EM:=(af 0)
def jw:EM:=(bx (cf (am aU (ad (aw dS (ad (af 0) ai)) ai))) (aj 0) fH jx [none,some 0,some 1])
def oR:SM:=(aT 2 jw)
def fR:Fn:=fnM [false,false] 2 oR
theorem sc_l_rows:FnScope ["_law_sheet_here","_law_up_here"] ["_law_sheet_here","_law_up_here"] (ag ir):=by ac_rfl
theorem qR (B:Bl mg) (D:Def K mg "_law_rows" ir) (a:aF P w K mg base "_law_bends" 3 ["_law_sheet_here","_law_thing","_law_up_here"] d8) (b:aF P w K mg base "_law_parts" 1 ["_law_many"] aU):aF P w K mg base "_law_rows" 4 ["_law_sheet_here","_law_up_here"] fR :=by specialize sc_l_rows
def eG:SM:=(iU nZ 2 (mSl slD (af 3) (dQ (mUn kj (mC (.int 2)))) eU) (aw oM (ad (ky xc o6 (af 2) (ad (mSl slD (af 3) (dQ (mUn kj (mC (.int 2)))) eU) (ad (mC (.int 0)) ai))) (ad (aw dS (ad (af 3) ai)) ai))))
def zZ:SM:=(aI (ba 2 mT) (aI (bP (cf (am fR (ad (af 0) (ad (af 1) ai)))) (aj 3) eG) (aT 2 (af 2))))
def eP:Fn:=fnM [false,false] 4 zZ
theorem sc_l_due:FnScope ["_law_sheet_here","_law_up_here","_law_found","_law_row"] ["_law_sheet_here","_law_up_here"] (ag jR):=by ac_rfl
theorem uD (B:Bl mg) (D:Def K mg "_law_due" jR) (a:aF P w K mg base "_law_rows" 4 ["_law_sheet_here","_law_up_here"] fR):aF P w K mg base "_law_due" 5 ["_law_sheet_here","_law_up_here"] eP :=by specialize sc_l_due
def iC:EM:=(am cX (ad (ah aG (af 1) (af 0)) ai))
def oQ:EM:=(bx (m4 (af 5)) (aj 0) fg iC [none,some 5])
def ko:SM:=(aI (sIf (cOr (fQ (cB (mUn (iF "dict") (af 5)))) (cOr (cB (ah wC (af 5) (af 6))) (fQ (cB (aw q8 (ad oQ ai)))))) (aT 1 (mC (.bl false))) eB) (iU nZ 5 (jJ (ad (mC (.int 0)) (ad (mC (.int 0)) ai))) (mC (.int 9))))
def iE:SM:=(n4 5 6 3 (ad (am dF (ad (af 2) ai)) (ad (am dG (ad (af 2) ai)) ai)) ko)
def iD:SM:=(aI (ba 2 (am d6 (ad (am jZ (ad (af 0) (ad (af 1) ai))) (ad (mC (.int 7)) ai)))) (aI (ba 3 (jK (ad (am eP (ad (af 2) (ad (mC (.bl true)) ai))) (ad (am eP (ad (af 2) (ad (mC (.bl false)) ai))) ai)))) (bP (bf cn (ad (mC (.int 2)) ai)) (aj 4) iE)))
def m_law:SM:=(aI (bP (bf cn (ad (aw oM (ad (mC (.int 1)) (ad (aw AS (ad (aw dS (ad (af 0) ai)) (ad (mC (.int 3)) ai))) ai))) ai)) (aj 1) iD) (aT 1 (mC (.bl true))))
def A1:Fn:=fnM [false] 7 m_law
theorem sc_law:FnScope ["_law_script","_law_k","_law_sheet_here","_law_dues","_law_lap","_law_found","_law_due_here"] ["_law_script"] (ag fv):=by ac_rfl
theorem Ai {f:Addr} {fd:FuncData} (B:Bl mg) (D:Fun K "law" "law" fv f fd) (e:aF P w K mg base "_law_box" 2 ["_law_script","_law_k"] jZ) (g:aF P w K mg base "_law_due" 5 ["_law_sheet_here","_law_up_here"] eP) (a:aF P w K mg base "_law_sheet" 3 ["_law_box_here","_law_most"] d6) (b:aF P w K mg base "_law_whole" 1 ["_law_thing"] cX) (c:aF P w K mg base "cap_table" 8 ["sheet"] dG) (d:aF P w K mg base "cup_table" 8 ["sheet"] dF):FnOk P w K mg base CX0 9 f fd ["_law_script"] (sY K A1) :=
 C0 (k:=8) D sc_law rfl rfl fun cdv A outer s H E f G hr hp =>
  have nd:=sc_law.nd;by and_intros
end
theorem tD (p:Pt):eS [(Pd p,.z)]=some (.ok (.bl true,.z),[(Pd p,.z)]):=by
 apply aS (ρ:=[some (Pd p,.z)]) rfl rfl
 ·nomatch [(run_whole _)]
 ·rfl
theorem Af {f c:L3.D->L3.D->Option (L3.D × Fl)} {ma mb mc:EM} {ra rb rc:R3} {ρ ρ1 ρ2 ρ3:Sto} {da db a e d:L3.D} {fl b:Fl} (h1:ma ρ=some (.ok ra,ρ1)) (h2:mb ρ1=some (.ok rb,ρ2)) (h3:der ra ρ2=some (.ok da,ρ2)) (l:der rb ρ2=some (.ok db,ρ2)) (k:f da db=some (.bl true,fl)) (g:mc ρ2=some (.ok rc,ρ3)) (h:der rb ρ3=some (.ok a,ρ3)) (j:der rc ρ3=some (.ok e,ρ3)) (i:c a e=some (d,b)):eI f c ma mb mc ρ=some (.ok (.val d b),ρ3):=by
 simp only [eI,ae,h1,h2,h3,l,k,aN,Option.bind_some,asB,DU,if_true,g,h,j,i]
theorem vB (ps:List Pt) (h0:0 < ps.length) (h1:ps.length<=24):cU [(Shd ps,.z)]=some (.ok (.bl true,.z),[(Shd ps,.z)]):=by
 obtain ⟨τ',e,a,rfl⟩:=fN (bnd:=aj 0) (c:=fg) (elt:=cF) (fun τ=>∃ a,τ=[a]) (fun _=>true) (fun _=>.bl true) (ds:=ps.map Pd) (τ:=[none]) ⟨none,rfl⟩ (by
  rintro d hd τ ⟨a,rfl⟩
  obtain ⟨p,g,rfl⟩:=DF.mp hd
  exact ⟨[some (Pd p,.z)],_,rfl,rfl,(fun h=>by cases h),fun _=>⟨.val (.bl true) .z,[some (Pd p,.z)],(.bl true,.z),[some (Pd p,.z)],by unfold cF;(nomatch [(tD _)]),rfl,rfl,_,rfl⟩⟩)
 have b:=mm (ds:=((ps.map Pd).filter fun _=>true).map fun _=>.bl true) (fun d hd=>by obtain ⟨_,_,rfl⟩:=DF.mp hd;rfl)
 generalize ((ps.map Pd).filter fun _=>true).map (fun _=>L3.D.bl true)=out at *
 have f:eW [some (Shd ps,.z)]=some (.ok (.val (.lst out) .u),[some (Shd ps,.z)]):=bB (im:=cf (af 0)) (ix:=[none]) (ρ1:=[some (Shd ps,.z)]) (ρ2:=[some (Shd ps,.z)]) (ds:=ps.map Pd) (rs:=[.pl 0]) rfl e (by simp;lia) rfl
 have l1:leI (.int 1) (.int ((ps.map Pd).length:Int))=some (.bl true,.z):=by simp [cH];lia
 have l2:leI (.int ((ps.map Pd).length:Int)) (.int 24)=some (.bl true,.z):=by simp [cH];lia
 apply aS (ρ:=[some (Shd ps,.z)]) rfl rfl
 ·apply df
  ·apply si
   ·apply Af
    ·exact i_c
    ·nofun
    ·rfl
    ·rfl
    ·exact l1
    ·exact i_c
    ·rfl
    ·rfl
    ·exact l2
   ·rfl
   ·rfl
   ·(repeat' (first | with_reducible exact f | infer_instance | exact b | eq_refl))
  ·rfl
 ·rfl
theorem gx {xs:List L3.D} {k:Int} {d:L3.D} (h:L2.atI xs k=some d):aG (.tup xs) (.int k)=some (d,.z):=by
 show orD ixD jE (.tup xs) (.int k)=_
 simp [orD,ixD,h]
theorem vw (ps:List Pt) (h0:0 < ps.length) (h1:ps.length<=24) (R:Rising ps):ce [(Shd ps,.z)]=some (.ok (.bl true,.z),[(Shd ps,.z)]):=by
 obtain ⟨τ',e,a,rfl⟩:=fN (bnd:=aj 0) (c:=fg) (elt:=bX) (fun τ=>∃ a,τ=[a,some (Shd ps,.z)]) (fun _=>true) (fun _=>.bl true) (ds:=bc 0 (ps.length - 1)) (τ:=[none,some (Shd ps,.z)]) ⟨none,rfl⟩ (by
  rintro d hd τ ⟨a,rfl⟩
  obtain ⟨i,hi⟩:=List.getElem?_of_mem hd
  obtain ⟨hi,rfl⟩:=cv hi
  have f:ps[i]?=some ps[i]:=Dx _
  have g:ps[i+1]?=some ps[i+1]:=Dx _
  have b:=R i (i+1) _ _ (by lia) f g
  have a1:aG (Shd ps) (.int (0+(i:Int)))=some (Pd ps[i],.z):=gx (by rw [Int.zero_add];exact uF f)
  have a2:aG (Shd ps) (.int (0+(i:Int)+1))=some (Pd ps[i+1],.z):=gx (by rw [Int.zero_add];exact uF g)
  have l:ltI (.int ps[i].1) (.int ps[i+1].1)=some (.bl true,.z):=by simp [cH,b]
  generalize (0+(i:Int))=j at *
  refine ⟨[some (.int j,.z),some (Shd ps,.z)],_,rfl,rfl,(fun h=>by cases h),fun _=>⟨.val (.bl true) .z,[some (.int j,.z),some (Shd ps,.z)],(.bl true,.z),[some (.int j,.z),some (Shd ps,.z)],?_,rfl,rfl,_,rfl⟩⟩
  unfold bX
  (exists a1,a2,l))
 have o:((ps.length:Int) - 1).toNat=ps.length - 1:=by lia
 have n:cn [.int (((ps.map Pd).length:Int) - 1)]=some (bc 0 (ps.length - 1)):=dq (by simp;lia) (by simp)
 have m:=mm (ds:=((bc 0 (ps.length - 1)).filter fun _=>true).map fun _=>.bl true) (fun d hd=>by obtain ⟨_,_,rfl⟩:=DF.mp hd;rfl)
 generalize ((bc 0 (ps.length - 1)).filter fun _=>true).map (fun _=>L3.D.bl true)=out at *
 have k:dB [some (Shd ps,.z)]=some (.ok (.val (.lst out) .u),[some (Shd ps,.z)]):=bB (ρ1:=[some (Shd ps,.z)]) (rs:=[]) (by (repeat' (first | with_reducible apply dD (h3:=n) | infer_instance | eq_refl))) e (by rw [cu];lia) rfl
 apply aS (ρ:=[some (Shd ps,.z)]) rfl rfl
 ·unfold fI;(repeat' (first | with_reducible exact k | infer_instance | exact m | eq_refl))
 ·rfl
theorem lF (p q r:Int × Int) (h1:-18446744073709551616 < q.1 - p.1/\q.1 - p.1 < 18446744073709551616) (h2:-18446744073709551616 < q.2 - p.2/\q.2 - p.2 < 18446744073709551616):jm [(Pd p,.z),(Pd q,.z),(Pd r,.z)]=some (.ok (.int (aR p q r),.z),[(Pd p,.z),(Pd q,.z),(Pd r,.z)]):=by
 apply aS (ρ:=[some (Pd p,.z),some (Pd q,.z),some (Pd r,.z),none]) rfl rfl
 ·apply ak
  ·exists eV h1
  ·exists eV h2
 ·rfl
theorem uS {n i j:Nat} (xs:List L3.D) (k:n<=25) (l:j < n) (elt:EM) (he:∀ (a b c:L3.D),elt [some (c,.z),some (a,.z),some (b,.z)]=some (.ok (.val (.tup [a,b,c]) .z),[some (c,.z),some (a,.z),some (b,.z)])) :
  bx (bf iX (ad (ah cE (af 3) (mC (.int 1))) (ad (af 0) ai))) (aj 0) fg elt [none,some 2,some 3] [some (.int n,.z),some (.lst xs,.u),some (.int i,.z),some (.int j,.z)]=some (.ok (.val (.lst ((kX i j (n - (j+1))).map Td)) .u),[some (.int n,.z),some (.lst xs,.u),some (.int i,.z),some (.int j,.z)]):=by
 obtain ⟨τ',e,a,rfl⟩:=fN (bnd:=aj 0) (c:=fg) (elt:=elt) (fun τ=>∃ a,τ=[a,some (.int i,.z),some (.int j,.z)]) (fun _=>true) (fun d=>.tup [.int i,.int j,d]) (ds:=bc ((j:Int)+1) (n - (j+1))) (τ:=[none,some (.int i,.z),some (.int j,.z)]) ⟨none,rfl⟩ (by
  rintro d hd τ ⟨a,rfl⟩
  exact ⟨[some (d,.z),some (.int i,.z),some (.int j,.z)],_,rfl,rfl,(fun h=>by cases h),fun _=>⟨_,_,(.tup [.int i,.int j,d],.z),_,he _ _ _,rfl,rfl,_,rfl⟩⟩)
 have f:((bc ((j:Int)+1) (n - (j+1))).filter fun _=>true).map (fun d=>L3.D.tup [.int i,.int j,d])=(kX i j (n - (j+1))).map Td:=by
  rw [Ee.mpr (fun _ _=>rfl)]
  simp [bc,kX,Function.comp_def]
 rw [f] at e
 have g:iX [.int ((j:Int)+1),.int n]=some (bc ((j:Int)+1) (n - (j+1))):=mE (by lia) (by lia) (by lia)
 exact bB (rs:=[]) (by (repeat' (first | with_reducible apply dD (h3:=g) | infer_instance | eq_refl))) e (by rw [cu];lia) rfl
theorem C2 {A B:List L3.D} (h:A.length+B.length<=16777216):xw (.lst A) [.lst B]=some (.lst (A ++ B),.non):=by simp [xw,h]
theorem Dg {A:List L3.D} {d:L3.D} (h:A.length < 16777216):Av (.lst A) [d]=some (.lst (A ++ [d]),.non):=by simp [Av,h]
theorem sW {n:Nat} (l:n<=25) {b1 b2:SM} (h2:b2=bP (bf iX (ad (ah cE (af 2) (mC (.int 1))) (ad (af 0) ai))) (aj 3) b1)
  (h1:∀ (i j:Nat) (xs:List L3.D),j < n->xs.length<=20000->b1 [some (.int n,.z),some (.lst xs,.u),some (.int i,.z),some (.int j,.z)]=some (.ok .nx,[some (.int n,.z),some (.lst (xs ++ (kX i j (n - (j+1))).map Td),.u),some (.int i,.z),some (.int j,.z)])) :
  ∃ v2 a,bP (bf cn (ad (af 0) ai)) (aj 2) b2 [some (.int n,.z),some (.lst [],.u),none,none]=some (.ok .nx,[some (.int n,.z),some (.lst ((jH n).map Td),.u),v2,a]):=by
 have inner:∀ (i:Nat) (xs:List Tri) (a:Option (L3.D × Fl)),i < n->xs.length<=15625->∃ f,b2 [some (.int n,.z),some (.lst (xs.map Td),.u),some (.int i,.z),a]=some (.ok .nx,[some (.int n,.z),some (.lst ((xs ++ iW n i (n - (i+1))).map Td),.u),some (.int i,.z),f]):=by
  intro i xs a hi o
  obtain ⟨ρ',e,f,rfl⟩:=bq (bnd:=aj 3) (b:=b1) (fun m ρ=>∃ a,ρ=[some (.int n,.z),some (.lst ((xs ++ iW n i m).map Td),.u),some (.int i,.z),a]) (ds:=bc ((i:Int)+1) (n - (i+1))) (ρ:=[some (.int n,.z),some (.lst (xs.map Td),.u),some (.int i,.z),a]) (k:=0) ⟨a,by simp [iW]⟩ (by
   rintro m d ρ hd ⟨a,rfl⟩
   obtain ⟨hm,rfl⟩:=cv hd
   have g:((xs ++ iW n i m).map Td).length<=20000:=by
    have:=qd (n:=n) (i:=i) (m:=m) l (by lia)
    simp only [DB,DR]
    lia
   have c:=h1 i (i+1+m) ((xs ++ iW n i m).map Td) (by lia) g
   rw [show ((i+1+m:Nat):Int)=(i:Int)+1+m by lia,<- List.map_append,List.append_assoc,<- lG] at c
   exact ⟨_,_,by rw [DP];rfl,.inl c,_,by rw [DP]⟩)
  refine ⟨f,?_⟩
  rw [cu,DP] at e
  have h:iX [.int ((i:Int)+1),.int n]=some (bc ((i:Int)+1) (n - (i+1))):=mE (by lia) (by lia) (by lia)
  rw [h2]
  apply dX
  ·(repeat' (first | with_reducible apply dD (h3:=h) | infer_instance | eq_refl))
  ·rfl
  ·exact e
 obtain ⟨ρ',e,v2,a,rfl⟩:=bq (bnd:=aj 2) (b:=b2) (fun m ρ=>∃ v2 a,ρ=[some (.int n,.z),some (.lst ((mD n m).map Td),.u),v2,a]) (ds:=bc 0 n) (ρ:=[some (.int n,.z),some (.lst [],.u),none,none]) (k:=0) ⟨none,none,rfl⟩ (by
  rintro m d ρ hd ⟨v2,a,rfl⟩
  obtain ⟨hm,rfl⟩:=cv hd
  rw [DP,Int.zero_add]
  obtain ⟨f,e⟩:=inner m (mD n m) a hm (qe l (by lia))
  rw [<- lH] at e
  exact ⟨_,_,rfl,.inl e,_,_,rfl⟩)
 rw [cu,DP] at e
 have h:cn [.int (n:Int)]=some (bc 0 n):=dq (by lia) (by lia)
 refine ⟨v2,a,?_⟩
 apply dX
 ·(repeat' (first | with_reducible apply dD (h3:=h) | infer_instance | eq_refl))
 ·rfl
 ·exact e
theorem j7 (n:Nat) (d:n<=25):dZ [(.int n,.z)]=some (.ok (.lst ((jH n).map Td),.u),[(.int n,.z)]):=by
 obtain ⟨v2,k,e⟩:=sW (n:=n) d (b1:=fG) (b2:=jv) rfl (by
  intro i j xs f h
  have c:=uS (n:=n) (i:=i) (j:=j) xs d f fF (fun a b c=>by unfold fF;(nofun))
  have g:xs.length+((kX i j (n - (j+1))).map Td).length<=16777216:=by
   rw [DB,oi];lia
  unfold fG ju
  (repeat' (first | with_reducible exact c | infer_instance | exact C2 g | eq_refl)))
 apply aS (ρ:=[some (.int n,.z),none,none,none]) rfl rfl
 ·apply ak
  ·nofun
  ·apply ak
   ·exact e
   ·nofun
 ·rfl
theorem xu {S:List L3.D} {i j k:Int} {p q r:Pt} {v2:Option (L3.D × Fl)} (a1:aG (.tup S) (.int i)=some (Pd p,.z)) (a2:aG (.tup S) (.int j)=some (Pd q,.z)) (a3:aG (.tup S) (.int k)=some (Pd r,.z)) (f:Small p) (e:Small q) (h0:aR p q r ≠ 0):bo [some (.tup S,.z),some (.tup [.int i,.int j,.int k],.z),v2]=some (.ok .nx,[some (.tup S,.z),some (.tup [.int i,.int j,.int k],.z),some (.tup [Pd p,Pd q,Pd r],.z)]):=by
 have b:=lF p q r (Small.sub f e).1 (Small.sub f e).2
 have one:∀ (x d:L3.D) (a:Option (L3.D × Fl)),aG (.tup S) x=some (d,.z)->bG [some (x,.z),some (.tup S,.z)]=some (.ok (.val d .z),[some (x,.z),some (.tup S,.z)]):=fun x d a h=>by unfold bG;(exists h)
 have c:c8 [some (.tup S,.z),some (.tup [.int i,.int j,.int k],.z),v2]=some (.ok (.val (.lst [Pd p,Pd q,Pd r]) .u),[some (.tup S,.z),some (.tup [.int i,.int j,.int k],.z),v2]):=by
  refine bB (ρ1:=[some (.tup S,.z),some (.tup [.int i,.int j,.int k],.z),v2]) (ρ2:=[some (.tup S,.z),some (.tup [.int i,.int j,.int k],.z),v2]) (ds:=[.int i,.int j,.int k]) (rs:=[.pl 1]) (τ:=[some (.int k,.z),some (.tup S,.z)]) rfl ?_ (by simp) rfl
  have e1:=one (.int i) _ none a1
  have g:=one (.int j) _ none a2
  have m:=one (.int k) _ none a3
  have l:∀ d a,aj 0 d [a,some (L3.D.tup S,.z)]=some [some (d,.z),some (.tup S,.z)]:=fun _ _=>rfl
  have cs:qM [none,some 0] (au bz (us [some (L3.D.tup S,.z),some (.tup [.int i,.int j,.int k],.z),v2] (pls [R3.pl 1])) [some (.tup S,.z),some (.tup [.int i,.int j,.int k],.z),v2])=[none,some (.tup S,.z)]:=rfl
  rw [cs]
  simp only [bJ,l,fg,ae,aJ,if_true,e1,g,m,cK,nol]
 unfold bo
 apply ak
 ·(repeat' (first | with_reducible exact c | infer_instance | eq_refl))
 ·apply eY
  ·nomatch [b]
  ·exact DN h0
  ·rfl
theorem yS (ps:List Pt) (n:ps.length<=24) (g:∀ p ∈ ps,Small p) (l:NoLine ps):bF [(Shd ps,.z)]=some (.ok (.non,.z),[(Shd ps,.z)]):=by
 have a:=j7 ps.length (by lia)
 rw [show (ps.length:Int)=((ps.map Pd).length:Int) by rw [DB]] at a
 obtain ⟨ρ',e,v1,v2,rfl⟩:=bq (bnd:=aj 1) (b:=bo) (fun _ ρ=>∃ v1 v2,ρ=[some (Shd ps,.z),v1,v2]) (ds:=(jH ps.length).map Td) (ρ:=[some (Shd ps,.z),none,none]) (k:=0) ⟨none,none,rfl⟩ (by
  rintro m d ρ hd ⟨v1,v2,rfl⟩
  rw [DG,Dt] at hd
  obtain ⟨t,a,rfl⟩:=hd
  obtain ⟨i,j,o⟩:=oK (DD a)
  have c:ps[t.1]?=some (ps[t.1]'(by lia)):=Dx _
  have f:ps[t.2.1]?=some (ps[t.2.1]'(by lia)):=Dx _
  have h:ps[t.2.2]?=some (ps[t.2.2]'(by lia)):=Dx _
  have b:=xu (v2:=v2) (gx (uF c)) (gx (uF f)) (gx (uF h)) (g _ (DD c)) (g _ (DD f)) (l _ _ _ _ _ _ i j c f h)
  exact ⟨[some (Shd ps,.z),some (Td t,.z),v2],_,rfl,.inl b,_,_,rfl⟩)
 apply aS (ρ:=[some (Shd ps,.z),none,none]) rfl rfl
 ·apply ak
  ·apply dX
   ·nomatch [a]
   ·rfl
   ·exact e
  ·nofun
 ·rfl
theorem oe {ps:List Pt} (g:GoodSh ps):eR [(Shd ps,.z)]=some (.ok (.bl true,.z),[(Shd ps,.z)]):=by
 have h1:=vB ps g.pos g.most
 have h2:=vw ps g.pos g.most g.rising
 have h3:=yS ps g.most g.small g.noline
 apply aS (ρ:=[some (Shd ps,.z)]) rfl rfl
 ·apply ak
  ·apply eY
   ·nomatch [h1]
   ·rfl
   ·rfl
  ·nomatch [h2,h3]
 ·rfl
theorem tG {ps:List Pt} (g:GoodSh ps):cr [(Shd ps,.z)]=some (.ok (.non,.z),[(Shd ps,.z)]):=by
 have h1:=oe g
 apply F_nx (ρ:=[some (Shd ps,.z)]) rfl rfl
 ·apply eY
  ·nomatch [h1]
  ·rfl
  ·rfl
 ·rfl
def nJ (p q r:Pt):Int:=if 0 < aR p q r then 1 else -1
theorem p9 {S:List L3.D} {i j k:Int} {p q r:Pt} (a1:aG (.tup S) (.int i)=some (Pd p,.z)) (a2:aG (.tup S) (.int j)=some (Pd q,.z)) (a3:aG (.tup S) (.int k)=some (Pd r,.z)) (a:Small p) (c:Small q):cW [(.tup S,.z),(.tup [.int i,.int j,.int k],.z)]=some (.ok (.int (nJ p q r),.z),[(.tup S,.z),(.tup [.int i,.int j,.int k],.z)]):=by
 have b:=lF p q r (Small.sub a c).1 (Small.sub a c).2
 by_cases h:0 < aR p q r
 ·rw [show nJ p q r=1 from if_pos h]
  apply aS (ρ:=[some (.tup S,.z),some (.tup [.int i,.int j,.int k],.z)]) rfl rfl
  ·apply df
   ·apply CV
    ·nomatch [b],[a1,a2,a3]
    ·exact DM h
    ·exact i_c
   ·rfl
  ·rfl
 ·rw [show nJ p q r = -1 from if_neg h]
  apply aS (ρ:=[some (.tup S,.z),some (.tup [.int i,.int j,.int k],.z)]) rfl rfl
  ·apply df
   ·apply CW
    ·nomatch [b],[a1,a2,a3]
    ·exact DN h
    ·nofun
   ·rfl
  ·rfl
theorem dE (c:Int) (m:Int) (h:0 < m):0<=c % m/\c % m < m:=⟨Int.emod_nonneg _ (by lia),Int.emod_lt_of_pos _ h⟩
theorem n6 (n m:Int) (h:0 < m/\m < 1073741824):bD [(.lst [.int n],.u),(.int m,.z)]=some (.ok (.int (n % m),.z),[(.lst [.int (n / m)],.u),(.int m,.z)]):=by
 have hd:xC [.int n,.int m]=some (.tup [.int (n / m),.int (n % m)],.z):=by simp [c2,iH,h]
 apply aS (ρ:=[some (.lst [.int n],.u),some (.int m,.z),none,none]) rfl rfl
 ·apply ak
  ·exists hd
  ·apply ak
   ·nofun
   ·nofun
 ·rfl
theorem og (p q r:Int × Int) (h1:-18446744073709551616 < q.1 - p.1/\q.1 - p.1 < 18446744073709551616) (h2:-18446744073709551616 < q.2 - p.2/\q.2 - p.2 < 18446744073709551616):dg [(Pd p,.z),(Pd q,.z),(Pd r,.z)]=some (.ok (.int (aR p q r),.z),[(Pd p,.z),(Pd q,.z),(Pd r,.z)]):=by
 apply aS (ρ:=[some (Pd p,.z),some (Pd q,.z),some (Pd r,.z),none,none,none]) rfl rfl
 ·apply ak
  ·nofun
  apply ak
  ·exists eV h1
  ·exists eV h2
 ·rfl
theorem vA (ns:List Int) (k:Nat):∃ n:Int,iP [(.fls (ns.map .int),.z),(.int k,.z)]=some (.ok (.int n,.z),[(.fls (ns.map .int),.z),(.int k,.z)]):=by
 by_cases h:k < ns.length
 ·refine ⟨ns[k],?_⟩
  have a:aG (.fls (ns.map .int)) (.int (k:Int))=some (.int ns[k],.z):=by
   have:L2.atI (ns.map L3.D.int) (k:Int)=some (.int ns[k]):=sL (by simp [h])
   simp [orD,ixD,this]
  have b:(k:Int) < ((ns.map L3.D.int).length:Int):=by simp;lia
  generalize (k:Int)=kk at *
  apply aS (ρ:=[some (.fls (ns.map .int),.z),some (.int kk,.z)]) rfl rfl
  ·apply my
   apply lX
   ·nofun
   ·exact DM b
   ·exists a
  ·rfl
 ·refine ⟨0,?_⟩
  have b:¬ (k:Int) < ((ns.map L3.D.int).length:Int):=by simp;lia
  generalize (k:Int)=kk at *
  apply aS (ρ:=[some (.fls (ns.map .int),.z),some (.int kk,.z)]) rfl rfl
  ·apply ak
   ·apply eY
    ·nofun
    ·exact DN b
    ·rfl
   ·nofun
  ·rfl
theorem yQ (c j:Int):∃ n:Int,jY [(.int c,.z),(.int j,.z)]=some (.ok (.int n,.z),[(.int c,.z),(.int j,.z)]):=by
 have a:=dE c 2147483647 (by decide)
 have b:=dE j 13 (by decide)
 obtain ⟨m,hm⟩:∃ m:Nat,j % 13=m:=⟨(j % 13).toNat,by lia⟩
 have e:m < 13:=by lia
 have d:∃ v:Int,aG (.lst [.int 48271,.int 69621,.int 16807,.int 39373,.int 30269,.int 40014,.int 40692,.int 50021,.int 61687,.int 71993,.int 83869,.int 95561,.int 30307]) (.int (j % 13))=some (.int v,.z):=by
  rw [hm]
  clear hm
  match m,e with
  | 0,_=>exact ⟨_,rfl⟩
  | 1,_=>exact ⟨_,rfl⟩
  | 2,_=>exact ⟨_,rfl⟩
  | 3,_=>exact ⟨_,rfl⟩
  | 4,_=>exact ⟨_,rfl⟩
  | 5,_=>exact ⟨_,rfl⟩
  | 6,_=>exact ⟨_,rfl⟩
  | 7,_=>exact ⟨_,rfl⟩
  | 8,_=>exact ⟨_,rfl⟩
  | 9,_=>exact ⟨_,rfl⟩
  | 10,_=>exact ⟨_,rfl⟩
  | 11,_=>exact ⟨_,rfl⟩
  | 12,_=>exact ⟨_,rfl⟩
 obtain ⟨v,f⟩:=d
 have c1:-18446744073709551616 < c % 2147483647+12345/\c % 2147483647+12345 < 18446744073709551616:=by lia
 have c2:∀ z:Int,-18446744073709551616 < z % 1000000007/\z % 1000000007 < 18446744073709551616:=fun z=>by
  have:=dE z 1000000007 (by decide)
  lia
 apply Exists.intro
 apply aS (ρ:=[some (.int c,.z),some (.int j,.z),none,none]) rfl rfl
 ·apply ak
  ·nofun
  apply ak
  ·exists f,eV (by decide),eV c1
  apply ak
  ·nofun
  ·exists eV (by decide),eV (c2 _)
 ·rfl
theorem yT (ns:List Int) (k:Nat):∃ n:Int,jZ [(.fls (ns.map .int),.z),(.int k,.z)]=some (.ok (.lst [.int n],.u),[(.fls (ns.map .int),.z),(.int k,.z)]):=by
 obtain ⟨c,a⟩:=vA ns k
 generalize L3.D.fls (ns.map .int)=S at *
 generalize L3.D.int (k:Int)=kk at *
 by_cases h:c % 2=0
 ·apply Exists.intro
  apply aS (ρ:=[some (S,.z),some (kk,.z),none,none,none]) rfl rfl
  ·apply ak
   ·nomatch [a]
   apply my
   apply lX
   ·nofun
   ·exact DM h
   ·nofun
  ·rfl
 ·obtain ⟨ρ',e,n,v4,rfl⟩:=bq (bnd:=aj 4) (b:=hJ) (fun _ ρ=>∃ (n:Int) (v4:Option (L3.D × Fl)),ρ=[some (S,.z),some (kk,.z),some (.int c,.z),some (.int n,.z),v4]) (ds:=bc 0 40) (ρ:=[some (S,.z),some (kk,.z),some (.int c,.z),some (.int 0,.z),none]) (k:=0) ⟨0,none,rfl⟩ (by
   rintro i d ρ hd ⟨n,v4,rfl⟩
   obtain ⟨hi,rfl⟩:=cv hd
   obtain ⟨m,hm⟩:=yQ c (0+(i:Int))
   generalize (0+(i:Int))=j at *
   exact ⟨_,[some (S,.z),some (kk,.z),some (.int c,.z),some (.int (n * 142857143+m),.z),some (.int j,.z)],rfl,.inl (by unfold hJ;(nomatch [hm],[wD (by decide)])),_,_,rfl⟩)
  refine ⟨n,?_⟩
  apply aS (ρ:=[some (S,.z),some (kk,.z),none,none,none]) rfl rfl
  ·apply ak
   ·nomatch [a]
   apply ak
   ·apply eY
    ·nofun
    ·exact DN h
    ·rfl
   apply ak
   ·nofun
   apply ak
   ·apply dX
    ·exact dD (by (nofun)) rfl (dq (n:=40) (by decide) (by decide))
    ·rfl
    ·exact e
   ·nofun
  ·rfl
theorem xr {X Z:L3.D} {f:Fl} {k:L3.D} {p q:L3.D} {b:Int} (a:dg [(p,.z),(q,.z),(Z,.z)]=some (.ok (.int b,.z),[(p,.z),(q,.z),(Z,.z)])) :
  cy [some (X,f),some (Z,.z),some (k,.z),some (q,.z),some (p,.z)]=some (.ok (if b=0 then .rt (.bl false) .z else .nx),[some (X,f),some (Z,.z),some (k,.z),some (q,.z),some (p,.z)]):=by
 by_cases h:b=0
 ·rw [if_pos h]
  apply lX
  ·nomatch [a]
  ·exact DM h
  ·nofun
 ·rw [if_neg h]
  apply eY
  ·nomatch [a]
  ·exact DN h
  ·rfl
theorem vz (ps:List Pt) (z:Pt) (y:∀ p ∈ ps,Small p) (F:ps.length<=24):∃ b:Bool,d7 [(.lst (ps.map Pd),.u),(Pd z,.z)]=some (.ok (.bl b,.z),[(.lst (ps.map Pd),.u),(Pd z,.z)])/\(b=true->ye ps z)/\(b=false->∃ (i j:Nat) (p q:Pt),i < j/\ps[i]?=some p/\ps[j]?=some q/\aR p q z=0):=by
 have inner:∀ (i:Nat) (q:Pt) (v4:Option (L3.D × Fl)),ps[i]?=some q->∃ a,cC (aj 4) cy ((ps.take i).map Pd) [some (.lst (ps.map Pd),.l),some (Pd z,.z),some (.int i,.z),some (Pd q,.z),v4]=some (.ok .nx,[some (.lst (ps.map Pd),.l),some (Pd z,.z),some (.int i,.z),some (Pd q,.z),a])/\(∀ j p,j < i->ps[j]?=some p->aR p q z ≠ 0) \/
   cC (aj 4) cy ((ps.take i).map Pd) [some (.lst (ps.map Pd),.l),some (Pd z,.z),some (.int i,.z),some (Pd q,.z),v4]=some (.ok (.rt (.bl false) .z),[some (.lst (ps.map Pd),.l),some (Pd z,.z),some (.int i,.z),some (Pd q,.z),a])/\∃ j p,j < i/\ps[j]?=some p/\aR p q z=0:=by
  intro i q v4 n
  have hi:i < ps.length:=(DC.mp n).1
  obtain ⟨ρ',h⟩:=m6 (bnd:=aj 4) (b:=cy) (fun m ρ=>∃ v4,ρ=[some (.lst (ps.map Pd),.l),some (Pd z,.z),some (.int i,.z),some (Pd q,.z),v4]/\∀ j p,j < m->ps[j]?=some p->aR p q z ≠ 0)
   (fun m r f ρ=>r=.bl false/\f=.z/\∃ v4,ρ=[some (.lst (ps.map Pd),.l),some (Pd z,.z),some (.int i,.z),some (Pd q,.z),v4]/\∃ p,ps[m]?=some p/\aR p q z=0)
   (ds:=(ps.take i).map Pd) (ρ:=[some (.lst (ps.map Pd),.l),some (Pd z,.z),some (.int i,.z),some (Pd q,.z),v4]) (k:=0) ⟨v4,rfl,fun j p h=>absurd h (Nat.not_lt_zero _)⟩ (by
    rintro m d ρ hd ⟨v4,rfl,x⟩
    rw [DG,Dt] at hd
    obtain ⟨p,g,rfl⟩:=hd
    have s:ps[m]?=some p/\m < i:=by
     rw [List.getElem?_take] at g
     split at g
     ·exact ⟨g,by assumption⟩
     ·cases g
    have sm:=Small.sub (y p (DD s.1)) (y q (DD n))
    have rb:=og p q z sm.1 sm.2
    have rb:=xr (X:=.lst (ps.map Pd)) (f:=.l) (k:=.int (i:Int)) rb
    by_cases h0:aR p q z=0
    ·rw [if_pos h0] at rb
     exact ⟨_,_,rfl,.inr ⟨.bl false,.z,rb,rfl,rfl,_,rfl,p,by simpa using s.1,h0⟩⟩
    ·rw [if_neg h0] at rb
     refine ⟨_,_,rfl,.inl ⟨.inl rb,_,rfl,fun j A o t=>?_⟩⟩
     by_cases e:j=m
     ·subst e;rw [s.1] at t;cases t;exact h0
     ·exact x j A (by lia) t)
  rcases h with ⟨e,a,rfl,h⟩ | ⟨m,r,f,hm,e,rfl,rfl,a,rfl,p,g,h0⟩
  ·exact ⟨a,.inl ⟨e,fun j p o=>h j p (by simp;lia)⟩⟩
  ·refine ⟨a,.inr ⟨e,m,p,by simp at hm;lia,by simpa using g,h0⟩⟩
 obtain ⟨ρ',h⟩:=m6 (bnd:=iN 2 (bK (aj 2) (bK (aj 3) iO))) (b:=dA) (fun m ρ=>∃ v2 w v4,ρ=[some (.lst (ps.map Pd),.l),some (Pd z,.z),v2,w,v4]/\∀ i j p q,i < j->j < m->ps[i]?=some p->ps[j]?=some q->aR p q z ≠ 0)
   (fun m r f ρ=>r=.bl false/\f=.z/\∃ v2 w v4,ρ=[some (.lst (ps.map Pd),.l),some (Pd z,.z),v2,w,v4]/\∃ (i j:Nat) (p q:Pt),i < j/\ps[i]?=some p/\ps[j]?=some q/\aR p q z=0)
   (ds:=fL 0 (ps.map Pd)) (ρ:=[some (.lst (ps.map Pd),.l),some (Pd z,.z),none,none,none]) (k:=0) ⟨_,_,_,rfl,fun i j p q _ h=>absurd h (Nat.not_lt_zero _)⟩ (by
    rintro m d ρ hd ⟨v2,w,v4,rfl,x⟩
    rw [jg,DG,Option.map_map,Dt] at hd
    obtain ⟨q,n,rfl⟩:=hd
    have hm:m < ps.length:=(DC.mp n).1
    obtain ⟨a,h⟩:=inner m q v4 n
    have sl:=An (xs:=ps.map Pd) (m:=m) (by simp;lia)
    rw [<- List.map_take] at sl
    rcases h with ⟨e,h⟩ | ⟨e,j,p,o,g,h0⟩
    ·refine ⟨_,[some (.lst (ps.map Pd),.l),some (Pd z,.z),some (.int m,.z),some (Pd q,.z),a],by simp [aj,iN,bK,iO];rfl,.inl ⟨.inl (by simp [dA,ae,aJ,aN,der,af,mC,ah,mUn,ai,ad,cb,aw,eB,aI,aT,rA,ba,kW,sIf,fA,cK,lowAt,nol,frz,ug,pls,gives,oT,orD,cH,ixD,jE,aj,iO,bK,iN,fnM,fn0,eZ,dY,k6,c1,c2,iH,iU,nY,qm,js,mSl,slD,eU,dQ,asI,cB,At,cOr,fQ,hU,mOr,oU,mIf,eI,asB,eqS,eqA,am,prs,jM,back,iF,lU,i9,kj,isN,zQ,jC,mV,xX,uP,wQ,orC,uw,uu,ux,L2.atI,ixN,bP,cf,rz,-List.map_take,sl,au,us,e]),_,_,_,rfl,fun i j p E c o hi v=>?_⟩⟩
     by_cases B:j=m
     ·subst B;rw [n] at v;cases v;exact h i p c hi
     ·exact x i j p E c (by lia) hi v
    ·refine ⟨_,[some (.lst (ps.map Pd),.l),some (Pd z,.z),some (.int m,.z),some (Pd q,.z),a],by simp [aj,iN,bK,iO];rfl,.inr ⟨.bl false,.z,by simp [dA,ae,aJ,aN,der,af,mC,ah,mUn,ai,ad,cb,aw,eB,aI,aT,rA,ba,kW,sIf,fA,cK,lowAt,nol,frz,ug,pls,gives,oT,orD,cH,ixD,jE,aj,iO,bK,iN,fnM,fn0,eZ,dY,k6,c1,c2,iH,iU,nY,qm,js,mSl,slD,eU,dQ,asI,cB,At,cOr,fQ,hU,mOr,oU,mIf,eI,asB,eqS,eqA,am,prs,jM,back,iF,lU,i9,kj,isN,zQ,jC,mV,xX,uP,wQ,orC,uw,uu,ux,L2.atI,ixN,bP,cf,rz,-List.map_take,sl,au,us,e],rfl,rfl,_,_,_,rfl,j,m,p,q,o,g,n,h0⟩⟩)
 rcases h with ⟨e,v2,w,v4,rfl,h⟩ | ⟨m,r,f,hm,e,rfl,rfl,v2,w,v4,rfl,C⟩
 ·refine ⟨true,?_,fun _ i j p q c hi o=>h i j p q c ?_ hi o,fun h=>by cases h⟩
  ·simp [d7,ku,ae,aJ,aN,der,af,mC,ah,mUn,ai,ad,cb,aw,eB,aI,aT,rA,ba,kW,sIf,fA,cK,lowAt,nol,frz,ug,pls,gives,oT,orD,cH,ixD,jE,aj,iO,bK,iN,fnM,fn0,eZ,dY,k6,c1,c2,iH,iU,nY,qm,js,mSl,slD,eU,dQ,asI,cB,At,cOr,fQ,hU,mOr,oU,mIf,eI,asB,eqS,eqA,am,prs,jM,back,iF,lU,i9,kj,isN,zQ,jC,mV,xX,uP,wQ,orC,uw,uu,ux,L2.atI,ixN,bP,kC,au,us,iB,bz,dh,e]
  ·have:=(DC.mp o).1
   simp [jf];lia
 ·refine ⟨false,?_,fun h=>(by cases h),fun _=>C⟩
  simp [d7,ku,ae,aJ,aN,der,af,mC,ah,mUn,ai,ad,cb,aw,eB,aI,aT,rA,ba,kW,sIf,fA,cK,lowAt,nol,frz,ug,pls,gives,oT,orD,cH,ixD,jE,aj,iO,bK,iN,fnM,fn0,eZ,dY,k6,c1,c2,iH,iU,nY,qm,js,mSl,slD,eU,dQ,asI,cB,At,cOr,fQ,hU,mOr,oU,mIf,eI,asB,eqS,eqA,am,prs,jM,back,iF,lU,i9,kj,isN,zQ,jC,mV,xX,uP,wQ,orC,uw,uu,ux,L2.atI,ixN,bP,kC,au,us,iB,bz,dh,e]
theorem sq_le {i:Nat} (h:i < 12):0<=(i:Int) * (i:Int)/\(i:Int) * (i:Int)<=144:=by
 have h1:i * i<=12 * 12:=Nat.mul_le_mul (by lia) (by lia)
 have h2:(i:Int) * (i:Int)=((i * i:Nat):Int):=by simp
 rw [h2];lia
theorem yp {i:Nat} {g kd:Int} (hi:i < 12) (c:-15<=g) (g1:g<=15) (b:0<=kd) (f:kd < 6) :
  ∃ y:Int,aG (.lst [.int g,.int g,.int ((i:Int) * i+g / 9),.int (g / 9 - (i:Int) * i),.int (((i:Int) * i+30) * (1 - 2 * ((i:Int) % 2))),.int (g * 1000)]) (.int kd)=some (.int y,.z)/\-16000<=y/\y<=16000:=by
 obtain ⟨d,h⟩:=sq_le hi
 obtain ⟨j,rfl⟩:∃ j:Nat,kd=(j:Int):=⟨kd.toNat,by lia⟩
 have a:j < 6:=by lia
 generalize (i:Int) * (i:Int)=qq at *
 have hm:(qq+30) * (1 - 2 * ((i:Int) % 2))<=16000/\-16000<=(qq+30) * (1 - 2 * ((i:Int) % 2)):=by
  rcases Int.emod_two_eq (i:Int) with e | e
  ·rw [e];simp;lia
  ·rw [e];simp;lia
 generalize (qq+30) * (1 - 2 * ((i:Int) % 2))=zz at *
 match j,a with
 | 0,_=>exact ⟨_,rfl,by lia,by lia⟩
 | 1,_=>exact ⟨_,rfl,by lia,by lia⟩
 | 2,_=>exact ⟨_,rfl,by lia,by lia⟩
 | 3,_=>exact ⟨_,rfl,by lia,by lia⟩
 | 4,_=>exact ⟨_,rfl,by lia,by lia⟩
 | 5,_=>exact ⟨_,rfl,by lia,by lia⟩
abbrev cg (n most many kd x:Int) (ps:List Pt) (v6 v7 v8 v9:Option (L3.D × Fl)):Sto:=[some (.lst [.int n],.u),some (.int most,.z),some (.int many,.z),some (.int kd,.z),some (.int x,.z),some (.lst (ps.map Pd),.u),v6,v7,v8,v9]
theorem qa {n most many kd x y0:Int} {ps:List Pt} {v6 v7 v8:Option (L3.D × Fl)} (R:Rising ps) (l:∀ p ∈ ps,Small p) (r:ps.length<=12) :
  ∃ y,fy bU cQ (cg n most many kd x ps v6 v7 v8 (some (.int y0,.z)))=some (.ok .nx,cg n most many kd x ps v6 v7 v8 (some (.int y,.z)))/\ye ps (x,y)/\y0<=y/\y<=y0+144:=by
 have f:above ps x y0<=144:=by
  have h1:=xZ ps x y0
  have h2:ps.length * ps.length<=12 * 12:=Nat.mul_le_mul (by lia) (by lia)
  lia
 obtain ⟨ρ',e,y,rfl,hf,h1,h2⟩:=sQ (c:=bU) (b:=cQ) (fun m ρ=>∃ y:Int,ρ=cg n most many kd x ps v6 v7 v8 (some (.int y,.z))/\m=above ps x y/\y0<=y/\y+(above ps x y:Int)<=y0+(above ps x y0:Int))
  (fun ρ=>∃ y:Int,ρ=cg n most many kd x ps v6 v7 v8 (some (.int y,.z))/\ye ps (x,y)/\y0<=y/\y<=y0+144) (ρ:=cg n most many kd x ps v6 v7 v8 (some (.int y0,.z))) ⟨y0,rfl,rfl,Int.le_refl _,Int.le_refl _⟩ (by
   rintro m ρ ⟨y,rfl,rfl,h1,h2⟩
   obtain ⟨b,o,k,hf⟩:=vz ps (x,y) l (by lia)
   have g:bU (cg n most many kd x ps v6 v7 v8 (some (.int y,.z)))=some (.ok (!b),cg n most many kd x ps v6 v7 v8 (some (.int y,.z))):=by
    unfold bU
    nomatch [o]
   cases b with
   | true=>exact .inl ⟨_,g,y,rfl,k rfl,h1,by lia⟩
   | false =>
    obtain ⟨i,j,p,q,d,e1,h,h0⟩:=hf rfl
    have a:=xY R d e1 h h0
    exact .inr ⟨_,cg n most many kd x ps v6 v7 v8 (some (.int (y+1),.z)),_,g,.inl (by unfold cQ;(nofun)),a,y+1,rfl,rfl,by lia,by lia⟩)
 exact ⟨y,e,hf,h1,h2⟩
theorem vq {n most many kd x:Int} {i:Nat} {ps:List Pt} {v7 v8 v9:Option (L3.D × Fl)} (R:Rising ps) (l:∀ p ∈ ps,Small p) (m:ps.length<=12) (hi:i < 12) (k:0<=kd) (A:kd < 6) :
  ∃ (r d y:Int) (b a c:Option (L3.D × Fl)),bV (cg n most many kd x ps (some (.int i,.z)) v7 v8 v9)=some (.ok .nx,cg r most many kd (x+1+d) (ps ++ [(x+1+d,y)]) (some (.int i,.z)) b a c)/\0<=d/\d < 3/\ye ps (x+1+d,y)/\-16000<=y/\y<=16144:=by
 have t:=n6
 have E:=dE (n / 3) 31 (by decide)
 have h:=dE n 3 (by decide)
 generalize q:n / 3 % 31 - 15=G at *
 obtain ⟨y0,s,B,C⟩:=yp (i:=i) (g:=G) (kd:=kd) hi (by lia) (by lia) k A
 have f:-18446744073709551616 < (i:Int)/\(i:Int) < 18446744073709551616:=by lia
 have o:-18446744073709551616 < 1 - 2 * ((i:Int) % 2)/\1 - 2 * ((i:Int) % 2) < 18446744073709551616:=by lia
 generalize e:x+1+n % 3=X at *
 obtain ⟨y,w,hf,h1,h2⟩:=qa (n:=n / 3 / 31) (most:=most) (many:=many) (kd:=kd) (x:=X) (y0:=y0) (ps:=ps) (v6:=some (.int i,.z)) (v7:=some (.int G,.z)) (v8:=some (.lst [.int G,.int G,.int ((i:Int) * i+G / 9),.int (G / 9 - (i:Int) * i),.int (((i:Int) * i+30) * (1 - 2 * ((i:Int) % 2))),.int (G * 1000)],.u)) R l m
 refine ⟨n / 3 / 31,n % 3,y,some (.int G,.z),some (.lst [.int G,.int G,.int ((i:Int) * i+G / 9),.int (G / 9 - (i:Int) * i),.int (((i:Int) * i+30) * (1 - 2 * ((i:Int) % 2))),.int (G * 1000)],.u),some (.int y,.z),?_,h.1,h.2,by rw [e];exact hf,by lia,by lia⟩
 rw [e]
 have v:(ps.map Pd).length < 16777216:=by simp;lia
 have j:=Dg (d:=Pd (X,y)) v
 rw [show ps.map Pd ++ [Pd (X,y)]=(ps ++ [(X,y)]).map Pd by simp] at j
 clear hi
 generalize (i:Int)=zi at *
 unfold bV
 apply ak (ρ1:=cg (n / 3) most many kd X ps (some (.int zi,.z)) v7 v8 v9)
 ·rw [<- e]
  nomatch [(t _ _ (by decide))]
 apply ak (ρ1:=cg (n / 3 / 31) most many kd X ps (some (.int zi,.z)) (some (.int G,.z)) v8 v9)
 ·rw [<- q]
  nomatch [(t _ _ (by decide))]
 apply ak (ρ1:=cg (n / 3 / 31) most many kd X ps (some (.int zi,.z)) (some (.int G,.z)) (some (.lst [.int G,.int G,.int (zi * zi+G / 9),.int (G / 9 - zi * zi)],.u)) v9)
 ·exists eV f
 apply ak (ρ1:=cg (n / 3 / 31) most many kd X ps (some (.int zi,.z)) (some (.int G,.z)) (some (.lst [.int G,.int G,.int (zi * zi+G / 9),.int (G / 9 - zi * zi),.int ((zi * zi+30) * (1 - 2 * (zi % 2))),.int (G * 1000)],.u)) v9)
 ·exists eV f,eV (by decide),wD o,wD (by decide)
 apply ak (ρ1:=cg (n / 3 / 31) most many kd X ps (some (.int zi,.z)) (some (.int G,.z)) (some (.lst [.int G,.int G,.int (zi * zi+G / 9),.int (G / 9 - zi * zi),.int ((zi * zi+30) * (1 - 2 * (zi % 2))),.int (G * 1000)],.u)) (some (.int y0,.z)))
 ·exists s
 apply ak
 ·exact w
 ·exists j
theorem vy {n most many kd x:Int} (hm:0<=many/\many<=12) (o:0<=kd) (u:kd < 6) (x0:-4<=x) (v:x<=4) :
  ∃ (g l:Int) (ps:List Pt) (v6 v7 v8 v9:Option (L3.D × Fl)),bP (bf cn (ad (af 2) ai)) (aj 6) bV (cg n most many kd x [] none none none none)=some (.ok .nx,cg g most many kd l ps v6 v7 v8 v9)/\(ps.length:Int)=many/\Rising ps/\NoLine ps/\(∀ q ∈ ps,-5<=q.1/\q.1<=100/\-17000<=q.2/\q.2<=17000):=by
 obtain ⟨ρ',e,g,l,ps,v6,v7,v8,v9,rfl,m,c,f,bnd,h1,h2⟩:=bq (bnd:=aj 6) (b:=bV) (fun i ρ=>∃ (n x:Int) (ps:List Pt) (v6 v7 v8 v9:Option (L3.D × Fl)),ρ=cg n most many kd x ps v6 v7 v8 v9/\ps.length=i/\Rising ps/\NoLine ps/\(∀ q ∈ ps,q.1<=x/\-5<=q.1/\-17000<=q.2/\q.2<=17000)/\-4<=x/\x<=4+3 * (i:Int))
  (ds:=bc 0 many.toNat) (ρ:=cg n most many kd x [] none none none none) (k:=0) ⟨n,x,[],none,none,none,none,rfl,rfl,fun _ _ _ _ _ e _=>by simp at e,fun _ _ _ _ _ _ _ _ e _ _=>by simp at e,fun _ e=>by simp at e,by lia,by lia⟩ (by
   rintro i d ρ hd ⟨n,x,ps,v6,v7,v8,v9,rfl,m,c,f,bnd,h1,h2⟩
   obtain ⟨hi,rfl⟩:=cv hd
   have j:∀ q ∈ ps,Small q:=fun q a=>by
    obtain ⟨a1,a2,a3,a4⟩:=bnd q a
    exact ⟨by lia,by lia,by lia,by lia⟩
   obtain ⟨g,h,y,s,p,t,e,A,d1,fr,y0,w⟩:=vq (n:=n) (most:=most) (many:=many) (kd:=kd) (x:=x) (i:=i) (ps:=ps) (v7:=v7) (v8:=v8) (v9:=v9) c j (by lia) (by lia) o u
   refine ⟨cg n most many kd x ps (some (.int i,.z)) v7 v8 v9,_,by rw [Int.zero_add];rfl,.inl e,g,x+1+h,ps ++ [(x+1+h,y)],_,_,_,_,rfl,by simp;lia,c.snoc fun q a=>?_,f.snoc fr,fun q a=>?_,by lia,by lia⟩
   ·show q.1 < x+1+h
    have:=(bnd q a).1
    lia
   ·rcases Dz.mp a with a | a
    ·obtain ⟨a1,a2,a3,a4⟩:=bnd q a
     exact ⟨by lia,by lia,by lia,by lia⟩
    ·have e:q=(x+1+h,y):=by simpa using a
     subst e
     exact ⟨Int.le_refl _,by show -5<=x+1+h;lia,by show -17000<=y;lia,by show y<=17000;lia⟩)
 rw [cu] at m h2
 have r:cn [.int many]=some (bc 0 many.toNat):=dq (by lia) rfl
 refine ⟨g,l,ps,v6,v7,v8,v9,?_,by lia,c,f,fun q a=>?_⟩
 ·apply dX
  ·(repeat' (first | with_reducible apply dD (h3:=r) | infer_instance | eq_refl))
  ·rfl
  ·exact e
 ·obtain ⟨a1,a2,a3,a4⟩:=bnd q a
  exact ⟨by lia,by lia,by lia,by lia⟩
abbrev scJ (p:Pt):Pt:=gJ 1000000000000 1000000000 7 p
theorem pow12:wc (.int 10) (.int 12)=some (.int 1000000000000,.z):=rfl
theorem pow9:wc (.int 10) (.int 9)=some (.int 1000000000,.z):=rfl
theorem tz (ps:List Pt) (f:ps.length<=24) {n most many kd x:Int} {v6 v7 v8 v9:Option (L3.D × Fl)}:ba 5 cP (cg n most many kd x ps v6 v7 v8 v9)=some (.ok .nx,cg n most many kd x (ps.map scJ) v6 v7 v8 v9):=by
 obtain ⟨τ',e,a,b,rfl⟩:=cD (bnd:=iN 2 (bK (aj 0) (bK (aj 1) iO))) (c:=fg) (elt:=eF) (fun τ=>∃ a b,τ=[a,b]) Pd (fun _=>true) (fun p=>Pd (scJ p)) (xs:=ps) (τ:=[none,none]) ⟨none,none,rfl⟩ (by
  rintro p g τ ⟨a,b,rfl⟩
  exact ⟨[some (.int p.1,.z),some (.int p.2,.z)],_,rfl,rfl,(fun h=>by cases h),fun _=>⟨.val (Pd (scJ p)) .z,[some (.int p.1,.z),some (.int p.2,.z)],(Pd (scJ p),.z),_,by unfold eF;(exists pow12,pow9,eV (by decide)),rfl,rfl,_,_,rfl⟩⟩)
 rw [Ee.mpr (fun _ _=>rfl)] at e
 have d:cP (cg n most many kd x ps v6 v7 v8 v9)=some (.ok (.val (.lst (ps.map fun p=>Pd (scJ p))) .u),cg n most many kd x ps v6 v7 v8 v9):=bB (rs:=[.pl 5]) (ρ1:=cg n most many kd x ps v6 v7 v8 v9) (ρ2:=[some (.lst [.int n],.u),some (.int most,.z),some (.int many,.z),some (.int kd,.z),some (.int x,.z),some (.lst (ps.map Pd),.l),v6,v7,v8,v9]) rfl e (by simp;lia) rfl
 rw [show (ps.map fun p=>Pd (scJ p))=(ps.map scJ).map Pd by simp] at d
 exact AT d rfl (Nat.le_of_ble_eq_true rfl) rfl
theorem tw (n most:Int) (h1:1<=most) (h2:most<=12):∃ (b:Int) (ps:List Pt),d6 [(.lst [.int n],.u),(.int most,.z)]=some (.ok (.tup (ps.map Pd),.z),[(.lst [.int b],.u),(.int most,.z)])/\GoodSh ps/\(ps.length:Int)<=most:=by
 have t:=n6
 have a0:=dE n most (by lia)
 have i:=dE (n / most) 6 (by decide)
 have k:=dE (n / most / 6) 9 (by decide)
 obtain ⟨b,j,ps,v6,v7,v8,v9,e,l,c,d,bnd⟩:=vy (n:=n / most / 6 / 9) (most:=most) (many:=1+n % most) (kd:=n / most % 6) (x:=n / most / 6 % 9 - 4) ⟨by lia,by lia⟩ i.1 i.2 (by lia) (by lia)
 have good:GoodSh ps:=⟨by lia,by lia,fun q f=>by
  obtain ⟨a1,a2,a3,a4⟩:=bnd q f
  exact ⟨by lia,by lia,by lia,by lia⟩,c,d⟩
 have a:GoodSh (ps.map scJ):=⟨by simpa using good.pos,by simpa using good.most,fun q f=>by
  obtain ⟨r,g,rfl⟩:=DF.mp f
  obtain ⟨a1,a2,a3,a4⟩:=bnd r g
  exact ⟨by show -(2 ^ 62) < (1000000000000:Int) * r.1+7;lia,by show (1000000000000:Int) * r.1+7 < 2 ^ 62;lia,by show -(2 ^ 62) < (1000000000:Int) * r.2;lia,by show (1000000000:Int) * r.2 < 2 ^ 62;lia⟩,c.scale (by decide),d.scale (by decide) (by decide)⟩
 have pre:∀ {r:Option (Except L3.D Flw × Sto)},aI (sIf (cB (ah eqX (am bD (ad (af 0) (ad (mC (.int 6)) ai))) (mC (.int 5)))) (ba 5 cP) eB) (aT 2 (aw yq (ad (af 5) ai))) (cg b most (1+n % most) (n / most % 6) j ps v6 v7 v8 v9)=r->lR [some (.lst [.int n],.u),some (.int most,.z),none,none,none,none,none,none,none,none]=r:=by
  intro r g
  apply ak (ρ1:=[some (.lst [.int (n / most)],.u),some (.int most,.z),some (.int (1+n % most),.z),none,none,none,none,none,none,none])
  ·nomatch [(t n most (by lia))]
  apply ak (ρ1:=[some (.lst [.int (n / most / 6)],.u),some (.int most,.z),some (.int (1+n % most),.z),some (.int (n / most % 6),.z),none,none,none,none,none,none])
  ·nomatch [(t _ _ (by decide))]
  apply ak (ρ1:=[some (.lst [.int (n / most / 6 / 9)],.u),some (.int most,.z),some (.int (1+n % most),.z),some (.int (n / most % 6),.z),some (.int (n / most / 6 % 9 - 4),.z),none,none,none,none,none])
  ·nomatch [(t _ _ (by decide))]
  apply ak (ρ1:=cg (n / most / 6 / 9) most (1+n % most) (n / most % 6) (n / most / 6 % 9 - 4) [] none none none none)
  ·nofun
  exact ak e g
 by_cases h:b % 6=5
 ·refine ⟨b / 6,ps.map scJ,?_,a,by rw [DB];lia⟩
  apply aS (ρ:=[some (.lst [.int n],.u),some (.int most,.z),none,none,none,none,none,none,none,none]) rfl rfl
  ·apply pre
   apply ak
   ·apply lX
    ·nomatch [(t _ _ (by decide))]
    ·exact DM h
    ·exact tz ps (by lia)
   ·nofun
  ·rfl
 ·refine ⟨b / 6,ps,?_,good,by lia⟩
  apply aS (ρ:=[some (.lst [.int n],.u),some (.int most,.z),none,none,none,none,none,none,none,none]) rfl rfl
  ·apply pre
   apply ak
   ·apply eY
    ·nomatch [(t _ _ (by decide))]
    ·exact DN h
    ·rfl
   ·nofun
  ·rfl
def bv (ps:List Pt) (i:Nat):Pt:=ps.getD i (0,0)
theorem oA {ps:List Pt} {i:Nat} (h:i < ps.length):ps[i]?=some (bv ps i):=by
 simp [bv,List.getD,Dx h]
theorem eD {ps:List Pt} {i:Nat} (a:∀ p ∈ ps,Small p) (h:i < ps.length):Small (bv ps i):=a _ (DD (oA h))
theorem iR {ps:List Pt} {i:Nat} (h:i < ps.length):aG (Shd ps) (.int i)=some (Pd (bv ps i),.z):=gx (uF (oA h))
def tq (ps:List Pt) (t:Tri):Int:=nJ (bv ps t.1) (bv ps t.2.1) (bv ps t.2.2)
abbrev tk (t:Tri):List Key:=[.inl (t.1:Int),.inl (t.2.1:Int),.inl (t.2.2:Int)]
theorem uR {t u:Tri} (h:tk t=tk u):t=u:=by
 simp only [tk,List.cons.injEq,Sum.inl.injEq,and_true] at h
 exact Prod.ext (by lia) (Prod.ext (by lia) (by lia))
def tb (ps:List Pt) (l:List Tri):List (List Key × L3.D):=l.map fun t=>(tk t,.int (tq ps t))
theorem B0 {ps:List Pt} {l:List Tri} {t:Tri} (h:t ∉ l):ff (tb ps l) (tk t) (.int (tq ps t))=tb ps (l ++ [t]):=by
 have c:¬ ((tb ps l).any fun d=>decide (d.1=tk t))=true:=by
  intro b
  obtain ⟨x,a,e⟩:=List.any_eq_true.mp b
  obtain ⟨u,hu,rfl⟩:=DF.mp a
  exact h (uR (of_decide_eq_true e) ▸ hu)
 unfold ff
 rw [if_neg c]
 unfold tb
 rw [List.map_append]
 rfl
theorem xl {ps:List Pt} {t:Tri}:∀ {l:List Tri},t ∈ l->cA (tb ps l) (tk t)=some (.int (tq ps t))
 | u :: l,h=>by
  unfold cA tb
  rw [DL,List.find?_cons]
  by_cases e:tk u=tk t
  ·rw [uR e];simp
  ·have:t ∈ l:=by
    rcases Dw.mp h with rfl | h
    ·exact absurd rfl e
    ·exact h
   have a:=xl (ps:=ps) this
   unfold cA tb at a
   simp only [e,decide_false]
   exact a
theorem Bx {ps:List Pt} {l:List Tri} {t:Tri} (h:t ∉ l) (a:l.length < 16777216):nZ (.dt (tb ps l)) [Td t,.int (tq ps t)]=some (.dt (tb ps (l ++ [t])),.non):=by
 show (if (tb ps l).length < 16777216 then some (L3.D.dt (ff (tb ps l) (tk t) (.int (tq ps t))),L3.D.non) else none)=_
 rw [if_pos (by unfold tb;rw [DB];exact a),B0 h]
theorem pV:∀ n:Nat,n<=9->(jH n).Nodup
 | 0,_=>by decide +kernel
 | 1,_=>by decide +kernel
 | 2,_=>by decide +kernel
 | 3,_=>by decide +kernel
 | 4,_=>by decide +kernel
 | 5,_=>by decide +kernel
 | 6,_=>by decide +kernel
 | 7,_=>by decide +kernel
 | 8,_=>by decide +kernel
 | 9,_=>by decide +kernel
 | n+10,h=>absurd h (by lia)
theorem uQ:∀ n:Nat,n<=9->(jH n).length<=84
 | 0,_=>by decide +kernel
 | 1,_=>by decide +kernel
 | 2,_=>by decide +kernel
 | 3,_=>by decide +kernel
 | 4,_=>by decide +kernel
 | 5,_=>by decide +kernel
 | 6,_=>by decide +kernel
 | 7,_=>by decide +kernel
 | 8,_=>by decide +kernel
 | 9,_=>by decide +kernel
 | n+10,h=>absurd h (by lia)
theorem sX {α:Type} {l:List α} {m:Nat} {t:α} (h:l[m]?=some t):l.take (m+1)=l.take m ++ [t]:=by
 rw [List.take_add_one,h];rfl
theorem qt {α:Type} {l:List α} {m:Nat} {t:α} (nd:l.Nodup) (h:l[m]?=some t):t ∉ l.take m:=by
 rw [<- List.take_append_drop m l] at nd
 intro hm
 refine (List.nodup_append.mp nd).2.2 t hm t ?_ rfl
 refine DD (i:=0) ?_
 rw [List.getElem?_drop]
 exact h
theorem uI {ps:List Pt} (g:GoodSh ps) {t:Tri} (h1:t.1 < t.2.1) (h2:t.2.1 < t.2.2) (h3:t.2.2 < ps.length) {l:List Tri} (b:t ∉ l) (c:l.length < 16777216):bY [some (Shd ps,.z),some (.dt (tb ps l),.u),some (Td t,.z)]=some (.ok .nx,[some (Shd ps,.z),some (.dt (tb ps (l ++ [t])),.u),some (Td t,.z)]):=by
 obtain ⟨i,j,k⟩:=t
 dsimp only at h1 h2 h3
 have f:cW [(Shd ps,.z),(Td (i,j,k),.z)]=some (.ok (.int (tq ps (i,j,k)),.z),[(Shd ps,.z),(Td (i,j,k),.z)]):=p9 (iR (ps:=ps) (i:=i) (by lia)) (iR (ps:=ps) (i:=j) (by lia)) (iR (ps:=ps) (i:=k) (by lia)) (eD g.small (show i < ps.length by lia)) (eD g.small (show j < ps.length by lia))
 have e:=Bx (ps:=ps) b c
 unfold bY
 have a:am cW (ad (af 0) (ad (af 2) ai)) [some (Shd ps,.z),some (.dt (tb ps l),.u),some (Td (i,j,k),.z)]=some (.ok (.val (.int (tq ps (i,j,k))) .z),[some (Shd ps,.z),some (.dt (tb ps l),.u),some (Td (i,j,k),.z)]):=by (nomatch [f])
 exact o0 (i:=1) (ρ2:=[some (Shd ps,.z),some (.dt (tb ps l),.u),some (Td (i,j,k),.z)]) (ρ3:=[some (Shd ps,.z),some (.dt (tb ps l),.u),some (Td (i,j,k),.z)]) a rfl (bC (i:=2) rfl) rfl rfl e
theorem vC {ps:List Pt} (g:GoodSh ps) (f:ps.length<=9):dH [(Shd ps,.z)]=some (.ok (.dt (tb ps (jH ps.length)),.u),[(Shd ps,.z)]):=by
 have nd:=pV ps.length f
 have l:=uQ ps.length f
 obtain ⟨ρ',e,v2,rfl⟩:=bq (bnd:=aj 2) (b:=bY) (fun m ρ=>∃ v2,ρ=[some (Shd ps,.z),some (.dt (tb ps ((jH ps.length).take m)),.u),v2]) (ds:=(jH ps.length).map Td) (ρ:=[some (Shd ps,.z),some (.dt [],.u),none]) (k:=0) ⟨none,rfl⟩ (by
  rintro m d ρ hd ⟨v2,rfl⟩
  rw [DP]
  rw [DG] at hd
  obtain ⟨t,a,rfl⟩:=Dt.mp hd
  obtain ⟨h,i,j⟩:=oK (DD a)
  rw [sX a]
  exact ⟨_,_,rfl,.inl (uI g h i j (qt nd a) (by rw [DT];lia)),_,rfl⟩)
 rw [DP,DB,List.take_length] at e
 have c:=tG g
 have th:=j7 ps.length (by lia)
 have hlen:dS [Shd ps]=some (.int (ps.length:Nat),.z):=by simp [mV,c1]
 apply aS (ρ:=[some (Shd ps,.z),none,none]) rfl rfl
 ·apply ak (ρ1:=[some (Shd ps,.z),none,none])
  ·exact xi (ao c (bH (bC rfl) dW) rfl rfl rfl)
  ·apply ak (ρ1:=[some (Shd ps,.z),some (.dt [],.u),none])
   ·rfl
   ·apply ak
    ·apply dX
     ·nomatch [th],[hlen]
     ·rfl
     ·exact e
    ·nofun
 ·rfl
abbrev k3 (i j k:Nat):List Key:=[.inl (i:Int),.inl (j:Int),.inl (k:Int)]
structure Sg where
 length:Nat
 f:Nat->Nat->Nat->Int
def trn (ps:Sg) (i j k:Nat):Int:=ps.f i j k
def x4 (ps:Sg) (T:List (List Key × L3.D)):Prop:=∀ i j k,i < j->j < k->k < ps.length->cA T (k3 i j k)=some (.int (trn ps i j k))
theorem tW {n i j k:Nat} (h1:i < j) (h2:j < k) (h3:k < n):(i,j,k) ∈ jH n:=by
 refine Ef.mpr ⟨i,List.mem_range.mpr (by lia),Ef.mpr ⟨j - (i+1),List.mem_range.mpr (by lia),DF.mpr ⟨k - (j+1),List.mem_range.mpr (by lia),?_⟩⟩⟩
 refine Prod.ext rfl (Prod.ext ?_ ?_) <;> simp <;> lia
theorem sub3 {kvs:List (List Key × L3.D)} {i j k:Nat} {d:L3.D} (h:cA kvs (k3 i j k)=some d):aG (.dt kvs) (.tup [.int i,.int j,.int k])=some (d,.z):=by
 show (cA kvs (k3 i j k)).map (fun d=>(d,Fl.z))=_
 rw [h];rfl
def sgn (ps:List Pt):Sg:=⟨ps.length,fun i j k=>nJ (bv ps i) (bv ps j) (bv ps k)⟩
theorem uN (ps:List Pt):x4 (sgn ps) (tb ps (jH ps.length)):=fun i j k h1 h2 h3=>xl (t:=(i,j,k)) (tW h1 h2 h3)
abbrev Nd (l:List Nat):List L3.D:=l.map fun (i:Nat)=>L3.D.int (i:Int)
def el (L:List Nat) (i:Nat):Nat:=L.getD i 0
theorem ic {L:List Nat} {i:Nat} (h:i < L.length):L[i]?=some (el L i):=by simp [el,List.getD,h]
theorem m7 {L:List Nat} {i:Nat} (h:i < L.length):el L i ∈ L:=DD (ic h)
theorem sN {α:Type} (b:α->Bool):∀ xs:List α,gr (xs.map fun x=>L3.D.bl (b x))=some (xs.map b)
 | []=>rfl
 | x :: xs=>by simp [gr,sN b xs]
theorem xV {α:Type} (b:α->Bool) (xs:List α):q8 [.lst (xs.map fun x=>L3.D.bl (b x))]=some (.bl (xs.all b),.z):=by
 show (gr _).map _=_
 rw [sN]
 simp [List.all_map]
theorem Df {xs:List L3.D} {i:Nat} {d:L3.D} (h:xs[i]?=some d):L2.atI xs (i:Int)=some d:=by
 have lt:=(DC.mp h).1
 unfold L2.atI L2.ixN
 rw [if_pos (by lia),if_pos (by lia)]
 simpa using h
theorem Dl {r:List Nat} {i:Nat} (h:i < r.length):(Nd r)[i]?=some (.int (el r i)):=by rw [DG,ic h];rfl
theorem pZ {r:List Nat} {i:Nat} (h:i < r.length):aG (.tup (Nd r)) (.int (i:Int))=some (.int (el r i),.z):=gx (Df (Dl h))
structure Ris (n:Nat) (r:List Nat):Prop where
 up:r.Pairwise (· < ·)
 lt:∀ x ∈ r,x < n
theorem Ris.at {n:Nat} {r:List Nat} (h:Ris n r) {i j:Nat} (b:i < j) (c:j < r.length):el r i < el r j:=by
 have:=List.pairwise_iff_getElem.mp h.up i j (by lia) c b
 have e1:=ic (L:=r) (i:=i) (by lia)
 have a:=ic (L:=r) (i:=j) c
 rw [Dx (by lia)] at e1 a
 injection e1 with e1
 injection a with a
 lia
theorem rD {n:Nat}:∀ (r:List Nat) (a:Nat),r.Pairwise (· < ·)->(∀ x ∈ r,a<=x/\x < n)->r.length<=n - a
 | [],a,_,_=>Nat.zero_le _
 | x :: r,a,hp,hb=>by
  rw [List.pairwise_cons] at hp
  have h0:=hb x Dq
  have:=rD r (x+1) hp.2 fun y b=>⟨hp.1 y b,(hb y (Dr _ b)).2⟩
  rw [DS]
  lia
theorem Ris.len {n:Nat} {r:List Nat} (h:Ris n r):r.length<=n:=rD r 0 h.up fun x a=>⟨Nat.zero_le _,h.lt x a⟩
def rb (s:Sg) (row:List Nat) (way:Int):Bool:=(List.range (row.length - 2)).all fun a=>decide (s.f (el row a) (el row (a+1)) (el row (a+2))=way)
theorem fl_nx {bnd:L3.D->Sto->Option Sto} {b:SM} {d:L3.D} {ds:List L3.D} {ρ ρ1 ρ2:Sto} {x:Option (Except L3.D Flw × Sto)} (h1:bnd d ρ=some ρ1) (h2:b ρ1=some (.ok .nx,ρ2)) (h3:cC bnd b ds ρ2=x):cC bnd b (d :: ds) ρ=x:=by
 simp only [cC,h1,ae,h2,h3]
theorem fl_rt {bnd:L3.D->Sto->Option Sto} {b:SM} {d:L3.D} {ds:List L3.D} {ρ ρ1 ρ2:Sto} {y:L3.D} {g:Fl} (h1:bnd d ρ=some ρ1) (h2:b ρ1=some (.ok (.rt y g),ρ2)):cC bnd b (d :: ds) ρ=some (.ok (.rt y g),ρ2):=by
 simp only [cC,h1,ae,h2];rfl
theorem AJ {α:Type} (f:α->Int):∀ l:List α,∃ qs,kY (l.map fun x=>L3.D.int (f x))=some qs/\PyData.canLayAll0 qs=true/\PyData.depthAll qs<=10/\qs.length=l.length
 | []=>⟨[],rfl,rfl,by decide,rfl⟩
 | x :: l=>by
  obtain ⟨qs,e1,b,c,a⟩:=AJ f l
  refine ⟨.int (f x) :: qs,?_,?_,?_,?_⟩
  ·show (match pyD (.int (f x)),kY (l.map fun x=>L3.D.int (f x)) with | some p,some ps=>some (p :: ps) | _,_=>none)=_
   rw [e1];rfl
  ·simp [PyData.canLayAll0,PyData.canLay0,b]
  ·simp [PyData.depthAll,PyData.depth];lia
  ·simp [a]
theorem uj {d:L3.D} {p:PyData} (a:eqS d d=none) (h:pyD d=some p) (b:p.canLay0=true) (hd:p.depth<=30):eqX d d=some (.bl true,.z):=by
 have h1:eqA d d=some true:=by
  unfold eqA
  rw [a]
  exact xz h b hd
 show (eqA d d).map _=_
 rw [h1];rfl
theorem rZ:∀ (l ns:List Int),l.Nodup->(∀ x ∈ l,x ∉ ns)->l.foldl met ns=ns ++ l
 | [],ns,_,_=>by simp
 | x :: l,ns,hd,hx=>by
  rw [List.nodup_cons] at hd
  rw [List.foldl_cons,show met ns x=ns ++ [x] from if_neg (hx x Dq),rZ l (ns ++ [x]) hd.2 fun y a h=>?_]
  ·simp
  ·rcases Dz.mp h with h | h
   ·exact hx y (Dr _ a) h
   ·exact hd.1 (DX.mp h ▸ a)
theorem ss_is {n:Nat} {r:List Nat} (h:Ris n r) (d:n<=24):ssD [.tup (Nd r)]=some (.lst (Nd r),.u):=by
 have b:=h.len
 have c:bj (Nd r)=some (r.map fun x:Nat=>(x:Int)):=by
  clear h b
  induction r with
  | nil=>rfl
  | cons x r ih=>simp [bj,ih]
 have up:(r.map fun x:Nat=>(x:Int)).Pairwise (· < ·):=List.pairwise_map.mpr (h.up.imp fun a=>by lia)
 have m:=rZ (r.map fun x:Nat=>(x:Int)) [] (up.imp fun a=>by lia) (fun _ _=>List.not_mem_nil)
 rw [List.nil_append] at m
 have st:srt (r.map fun x:Nat=>(x:Int))=r.map fun x:Nat=>(x:Int):=fq (j4 _) (gz _) (up.imp fun a=>by lia)
 show (bj (Nd r)).bind _=_
 rw [c]
 show (if (r.map fun x:Nat=>(x:Int)).length < 64 then some ((.lst ((srt ((r.map fun x:Nat=>(x:Int)).foldl met [])).map .int),.u):L3.D × Fl) else none)=_
 rw [if_pos (by rw [DB];lia),m,st,Eg]
 rfl
theorem Ak (r:List Nat):eqX (.lst (Nd r)) (.lst (Nd r))=some (.bl true,.z):=by
 obtain ⟨qs,e1,a,d,c⟩:=AJ (fun i:Nat=>(i:Int)) r
 have b:pyD (.lst (Nd r))=some (.list qs):=by unfold pyD;rw [e1];rfl
 exact uj rfl b (by simp [PyData.canLay0,a]) (by simp [PyData.depth];lia)
theorem o9 {α:Type} {bnd:L3.D->Sto->Option Sto} {b:SM} (D:α->L3.D) (t:α->Bool) (P:Sto->Prop) {r:L3.D} {f:Fl}:∀ {xs:List α} {ρ:Sto},P ρ->(∀ x ∈ xs,∀ ρ,P ρ->∃ ρ1 ρ2,bnd (D x) ρ=some ρ1/\b ρ1=some (.ok (if t x=true then .nx else .rt r f),ρ2)/\P ρ2)->∃ ρ',cC bnd b (xs.map D) ρ=some (.ok (if xs.all t=true then .nx else .rt r f),ρ')/\P ρ'
 | [],ρ,h0,_=>⟨ρ,rfl,h0⟩
 | x :: xs,ρ,h0,hs=>by
  obtain ⟨ρ1,ρ2,e1,a,h1⟩:=hs x Dq ρ h0
  rw [DL,List.all_cons]
  cases c:t x with
  | true =>
   rw [c] at a
   obtain ⟨ρ',d,h3⟩:=o9 D t P (xs:=xs) (ρ:=ρ2) h1 fun y e=>hs y (Dr _ e)
   exact ⟨ρ',fl_nx e1 a (by rw [Bool.true_and];exact d),h3⟩
  | false =>
   rw [c] at a
   exact ⟨ρ2,fl_rt e1 a,h1⟩
theorem j8 (i:Int):cX [(.int i,.z)]=some (.ok (.bl true,.z),[(.int i,.z)]):=by kernel_rfl
theorem n9 {n:Nat} {r:List Nat} (h:Ris n r) (m:n<=24):eO [(.tup (Nd r),.z),(.int (n:Int),.z)]=some (.ok (.bl true,.z),[(.tup (Nd r),.z),(.int (n:Int),.z)]):=by
 have o:=h.len
 obtain ⟨τ',e,a,rfl⟩:=cD (bnd:=aj 0) (c:=fg) (elt:=dM) (fun τ=>∃ a,τ=[a]) (fun i:Nat=>L3.D.int (i:Int)) (fun _=>true) (fun _=>.bl true) (xs:=r) (τ:=[none]) ⟨none,rfl⟩ (by
  rintro k g τ ⟨a,rfl⟩
  have w:=j8 (k:Int)
  exact ⟨[some (.int (k:Int),.z)],_,rfl,rfl,(fun h=>by cases h),fun _=>⟨.val (.bl true) .z,[some (.int (k:Int),.z)],(.bl true,.z),_,by unfold dM;(nomatch [w]),rfl,rfl,_,rfl⟩⟩)
 rw [Ee.mpr (fun _ _=>rfl)] at e
 have a1:=xV (fun _:Nat=>true) r
 rw [List.all_eq_true.mpr (fun _ _=>rfl)] at a1
 have e1:gk [some (.tup (Nd r),.z),some (.int (n:Int),.z)]=some (.ok (.val (.lst (r.map fun _=>.bl true)) .u),[some (.tup (Nd r),.z),some (.int (n:Int),.z)]):=bB (rs:=[.pl 0]) (ρ1:=[some (.tup (Nd r),.z),some (.int (n:Int),.z)]) (ρ2:=[some (.tup (Nd r),.z),some (.int (n:Int),.z)]) rfl e (by rw [DB];lia) rfl
 obtain ⟨τ2,f,v,rfl⟩:=cD (bnd:=aj 0) (c:=dN) (elt:=gl) (fun τ=>∃ a,τ=[a,some (.int (n:Int),.z)]) (fun i:Nat=>L3.D.int (i:Int)) (fun _=>false) (fun _=>.non) (xs:=r) (τ:=[none,some (.int (n:Int),.z)]) ⟨none,rfl⟩ (by
  rintro k g τ ⟨a,rfl⟩
  have lt:=h.lt k g
  have l:ltI (.int (k:Int)) (.int 0)=some (.bl false,.z):=by simp [cH]
  have c1:geI (.int (k:Int)) (.int (n:Int))=some (.bl false,.z):=by simp [cH];lia
  refine ⟨[some (.int (k:Int),.z),some (.int (n:Int),.z)],[some (.int (k:Int),.z),some (.int (n:Int),.z)],rfl,?_,fun _=>⟨_,rfl⟩,fun h=>by cases h⟩
  unfold dN
  refine kD (b:=false) (ρ1:=[some (.int (k:Int),.z),some (.int (n:Int),.z)]) ?_ rfl ?_
  ·exists l
  ·(exists c1))
 rw [List.filter_eq_nil_iff.mpr (fun _ _=>by decide)] at f
 have j:gj [some (.tup (Nd r),.z),some (.int (n:Int),.z)]=some (.ok (.val (.lst []) .u),[some (.tup (Nd r),.z),some (.int (n:Int),.z)]):=bB (rs:=[.pl 0]) (ρ1:=[some (.tup (Nd r),.z),some (.int (n:Int),.z)]) (ρ2:=[some (.tup (Nd r),.z),some (.int (n:Int),.z)]) rfl f (by rw [DB];lia) rfl
 have ss:=ss_is h m
 have li:CH [.tup (Nd r)]=some (.lst (Nd r),.u):=rfl
 have eq:=Ak r
 have z:neX (.lst []) (.lst [])=some (.bl false,.z):=by kernel_rfl
 have d:iF "tuple" (.tup (Nd r))=some (.bl true,.z):=rfl
 generalize L3.D.lst (Nd r)=RL at *
 generalize L3.D.tup (Nd r)=R at *
 generalize L3.D.int (n:Int)=N at *
 apply aS (ρ:=[some (R,.z),some (N,.z)]) (ρ1:=[some (R,.z),some (N,.z)]) rfl rfl
 ·unfold kr
  apply ak (ρ1:=[some (R,.z),some (N,.z)])
  ·refine eY (b:=false) (kD (b:=false) (ρ1:=[some (R,.z),some (N,.z)]) ?_ rfl ?_) rfl rfl
   ·exact hV (k7 (CT (bC rfl) rfl d) rfl)
   ·exact hV (k7 (cS (bH e1 dW) rfl a1) rfl)
  apply ak (ρ1:=[some (R,.z),some (N,.z)])
  ·exact eY (b:=false) (k7 (kE j rfl rfl rfl z) rfl) rfl rfl
  ·apply df
   ·exists ss,li,eq
   ·rfl
 ·rfl
theorem BC {ps:List Pt} (g:GoodSh ps) {i j k:Nat} (h1:i < ps.length) (h2:j < ps.length) (h3:k < ps.length):nD [(Shd ps,.z),(.int i,.z),(.int j,.z),(.int k,.z)]=some (.ok (.bl (decide (aR (bv ps i) (bv ps j) (bv ps k) > 0)),.z),[(Shd ps,.z),(.int i,.z),(.int j,.z),(.int k,.z)]):=by
 have s:=Small.sub (eD g.small h1) (eD g.small h2)
 have b:=og (bv ps i) (bv ps j) (bv ps k) s.1 s.2
 have a1:=iR h1
 have a2:=iR h2
 have a3:=iR h3
 generalize bv ps i=p at *
 generalize bv ps j=q at *
 generalize bv ps k=r at *
 have z:gtI (.int (aR p q r)) (.int 0)=some (.bl (decide (aR p q r > 0)),.z):=rfl
 generalize Shd ps=H at *
 generalize decide (aR p q r > 0)=B at *
 generalize aR p q r=M at *
 generalize Pd p=p at *
 generalize Pd q=q at *
 generalize Pd r=r at *
 apply aS (ρ:=[some (H,.z),some (.int i,.z),some (.int j,.z),some (.int k,.z)]) (ρ1:=[some (H,.z),some (.int i,.z),some (.int j,.z),some (.int k,.z)]) rfl rfl
 ·apply df
  ·nomatch [b],[a1,a2,a3,z]
  ·rfl
 ·rfl
def way (b:Bool):Int:=if b then 1 else -1
theorem f_way (ps:List Pt) (i j k:Nat) (b:Bool):decide (decide (aR (bv ps i) (bv ps j) (bv ps k) > 0)=b)=decide ((sgn ps).f i j k=way b):=by
 show _=decide ((if 0 < aR (bv ps i) (bv ps j) (bv ps k) then (1:Int) else -1)=way b)
 by_cases h:0 < aR (bv ps i) (bv ps j) (bv ps k)
 ·rw [if_pos h,DM (show aR (bv ps i) (bv ps j) (bv ps k) > 0 from h)]
  cases b <;> rfl
 ·rw [if_neg h,DN (show ¬ aR (bv ps i) (bv ps j) (bv ps k) > 0 from h)]
  cases b <;> rfl
theorem kz (ps:List Pt):dS [Shd ps]=some (.int (ps.length:Int),.z):=by simp [mV,c1]
theorem qW {ps:List Pt} (g:GoodSh ps) {row:List Nat} (h:Ris ps.length row) {k:Nat} (c:k+2 < row.length) {b:Bool}:bW [some (Shd ps,.z),some (.tup (Nd row),.z),some (.bl b,.z),some (.int (k:Int),.z)]=some (.ok (if decide ((sgn ps).f (el row k) (el row (k+1)) (el row (k+2))=way b)=true then .nx else .rt (.bl false) .z),[some (Shd ps,.z),some (.tup (Nd row),.z),some (.bl b,.z),some (.int (k:Int),.z)]):=by
 have f:=BC g (h.lt _ (m7 (L:=row) (i:=k) (by lia))) (h.lt _ (m7 (L:=row) (i:=k+1) (by lia))) (h.lt _ (m7 (L:=row) (i:=k+2) (by lia)))
 have s0:=pZ (r:=row) (i:=k) (by lia)
 have s1:aG (.tup (Nd row)) (.int ((k:Int)+1))=some (.int (el row (k+1)),.z):=pZ (r:=row) (i:=k+1) (by lia)
 have s2:aG (.tup (Nd row)) (.int ((k:Int)+2))=some (.int (el row (k+2)),.z):=pZ (r:=row) (i:=k+2) (by lia)
 have a:=f_way ps (el row k) (el row (k+1)) (el row (k+2)) b
 rw [<- a]
 generalize decide (aR (bv ps (el row k)) (bv ps (el row (k+1))) (bv ps (el row (k+2))) > 0)=u at *
 have ne:neX (.bl u) (.bl b)=some (.bl (!decide (u=b)),.z):=rfl
 generalize Shd ps=H at *
 generalize L3.D.tup (Nd row)=R at *
 unfold bW
 cases hd:decide (u=b) with
 | true =>
  rw [hd] at ne
  refine eY (b:=false) ?_ rfl rfl
  nomatch [f],[s0,s1,s2,ne]
 | false =>
  rw [hd] at ne
  refine lX (b:=true) ?_ rfl (df i_c rfl)
  nomatch [f],[s0,s1,s2,ne]
theorem qb {ps:List Pt} (g:GoodSh ps) {row:List Nat} (h:Ris ps.length row) (h2:2<=row.length) {b:Bool}:d8 [(Shd ps,.z),(.tup (Nd row),.z),(.bl b,.z)]=some (.ok (.bl (rb (sgn ps) row (way b)),.z),[(Shd ps,.z),(.tup (Nd row),.z),(.bl b,.z)]):=by
 have o:=g.most
 have n:=h.len
 have m:=n9 h (by lia)
 have ln:=kz ps
 have a:dS [.tup (Nd row)]=some (.int (row.length:Int),.z):=by simp [mV,c1]
 have c2:ltI (.int (row.length:Int)) (.int 2)=some (.bl false,.z):=by simp [cH];lia
 have j:cn [.int ((row.length:Int) - 2)]=some (bc 0 (row.length - 2)):=dq (by lia) (by lia)
 obtain ⟨ρ',e,v,rfl⟩:=o9 (bnd:=aj 3) (b:=bW) (fun i:Nat=>L3.D.int (0+(i:Int))) (fun k=>decide ((sgn ps).f (el row k) (el row (k+1)) (el row (k+2))=way b)) (fun ρ=>∃ v,ρ=[some (Shd ps,.z),some (.tup (Nd row),.z),some (.bl b,.z),v]) (r:=.bl false) (f:=.z) (xs:=List.range (row.length - 2)) (ρ:=[some (Shd ps,.z),some (.tup (Nd row),.z),some (.bl b,.z),none]) ⟨none,rfl⟩ (by
  rintro k l ρ ⟨v,rfl⟩
  rw [List.mem_range] at l
  rw [Int.zero_add]
  exact ⟨_,_,rfl,qW g h (k:=k) (by lia),_,rfl⟩)
 have c:(List.range (row.length - 2)).all (fun k=>decide ((sgn ps).f (el row k) (el row (k+1)) (el row (k+2))=way b))=rb (sgn ps) row (way b):=rfl
 rw [c] at e
 have d:cC (aj 3) bW (bc 0 (row.length - 2)) [some (Shd ps,.z),some (.tup (Nd row),.z),some (.bl b,.z),none]=some (.ok (if rb (sgn ps) row (way b)=true then .nx else .rt (.bl false) .z),[some (Shd ps,.z),some (.tup (Nd row),.z),some (.bl b,.z),v]):=e
 generalize rb (sgn ps) row (way b)=B at *
 generalize Shd ps=H at *
 generalize L3.D.tup (Nd row)=R at *
 generalize L3.D.int (ps.length:Int)=N at *
 generalize (row.length:Int)=M at *
 apply aS (ρ:=[some (H,.z),some (R,.z),some (.bl b,.z),none]) (ρ1:=[some (H,.z),some (R,.z),some (.bl b,.z),v]) rfl rfl
 ·unfold i5
  apply ak (ρ1:=[some (H,.z),some (R,.z),some (.bl b,.z),none])
  ·refine eY (b:=false) (kD (b:=false) (ρ1:=[some (H,.z),some (R,.z),some (.bl b,.z),none]) ?_ rfl ?_) rfl rfl
   ·exact hV (k7 (ao m (bH (bC rfl) (bH (cS (bH (bC rfl) dW) rfl ln) dW)) rfl rfl rfl) rfl)
   ·exists a,c2
  cases B with
  | true =>
   apply ak (ρ1:=[some (H,.z),some (R,.z),some (.bl b,.z),v])
   ·apply dX
    ·(repeat' (first | with_reducible apply dD (h3:=j) | infer_instance | exact a | eq_refl))
    ·rfl
    ·exact d
   ·exact df i_c rfl
  | false =>
   apply my
   apply dX
   ·(repeat' (first | with_reducible apply dD (h3:=j) | infer_instance | exact a | eq_refl))
   ·rfl
   ·exact d
 ·rfl
abbrev k2 (i j:Nat):List Key:=[.inl (i:Int),.inl (j:Int)]
theorem mY {i j a b:Nat} (h:k2 i j=k2 a b):i=a/\j=b:=by
 simp only [k2,List.cons.injEq,Sum.inl.injEq,and_true] at h
 lia
theorem sub2 {kvs:List (List Key × L3.D)} {i j:Nat} {d:L3.D} (h:cA kvs (k2 i j)=some d):aG (.dt kvs) (.tup [.int i,.int j])=some (d,.z):=by
 show jE (.dt kvs) (.tup [.int i,.int j])=_
 show (cA kvs (k2 i j)).map (fun d=>(d,Fl.z))=_
 rw [h];rfl
theorem By {kvs:List (List Key × L3.D)} {i j:Nat} {d:L3.D} (h:kvs.length < 16777216):nZ (.dt kvs) [.tup [.int i,.int j],d]=some (.dt (ff kvs (k2 i j) d),.non):=by
 show (if kvs.length < 16777216 then some (L3.D.dt (ff kvs (k2 i j) d),L3.D.non) else none)=_
 rw [if_pos h]
theorem Al (a b:Int):eqX (.int a) (.int b)=some (.bl (decide (a=b)),.z):=rfl
def mx1 (l:List Int):Int:=(rX l).getD 1
theorem rW {l:List Int} (h:l ≠ []):mx1 l ∈ l:=by
 cases l with
 | nil=>exact absurd rfl h
 | cons x xs=>exact (eK xs x).1
theorem Cz {l:List Int} {n:Int} (h:n ∈ l):n<=mx1 l:=by
 cases l with
 | nil=>cases h
 | cons x xs=>exact (eK xs x).2 n h
theorem CA {l:List Int} (h:∀ n ∈ l,1<=n):1<=mx1 l:=by
 cases l with
 | nil=>exact Int.le_refl 1
 | cons x xs=>exact h _ (rW (by simp))
section
variable (w:Nat->Nat->Nat->Bool)
def m8:Nat->Nat->Nat->Int
 | 0,_,_=>2
 | f+1,i,j=>1+mx1 (((List.range i).filter fun h=>w h i j).map fun h=>m8 f h i)
def bg (i j:Nat):Int:=m8 w i i j
theorem kO:∀ (f a i j:Nat),i<=f->i<=a->m8 w f i j=m8 w a i j
 | 0,0,_,_,_,_=>rfl
 | 0,a+1,i,j,h,_=>by
  obtain rfl:i=0:=by lia
  rfl
 | f+1,0,i,j,_,h=>by
  obtain rfl:i=0:=by lia
  rfl
 | f+1,a+1,i,j,h,h'=>by
  unfold m8
  congr 2
  refine Eh fun k b=>?_
  have b:=List.mem_range.mp (DZ.mp b).1
  exact kO f a k i (by lia) (by lia)
theorem iK (i j:Nat):bg w i j=1+mx1 (((List.range i).filter fun h=>w h i j).map fun h=>bg w h i):=by
 have h:bg w i j=m8 w (i+1) i j:=kO w i (i+1) i j (DH _) (Nat.le_succ _)
 rw [h]
 show 1+mx1 (((List.range i).filter fun h=>w h i j).map fun h=>m8 w i h i)=_
 congr 2
 refine Eh fun k a=>?_
 have a:=List.mem_range.mp (DZ.mp a).1
 exact kO w i k k i (by lia) (DH _)
theorem pq:∀ (f i j:Nat),2<=m8 w f i j
 | 0,_,_=>Int.le_refl 2
 | f+1,i,j=>by
  show 2<=1+mx1 _
  have:=CA (l:=((List.range i).filter fun h=>w h i j).map fun h=>m8 w f h i) fun n a=>by
   obtain ⟨k,_,rfl⟩:=DF.mp a
   have:=pq f k i
   lia
  lia
theorem xG (i j:Nat):2<=bg w i j:=pq w i i j
theorem l8 {h i j:Nat} (hw:w h i j=true) (a:h < i):bg w h i+1<=bg w i j:=by
 rw [iK w i j]
 have:=Cz (l:=((List.range i).filter fun h=>w h i j).map fun h=>bg w h i) (n:=bg w h i) (DF.mpr ⟨h,DZ.mpr ⟨List.mem_range.mpr a,hw⟩,rfl⟩)
 lia
def ks (n j:Nat):List Nat:=(List.range (n - (j+1))).map fun d=>j+1+d
inductive Pth (n:Nat):Nat->Nat->Nat->Nat->Nat->Prop
 | nil {i j:Nat}:i < j->j < n->Pth n 0 i j i j
 | cons {m i j k i' j':Nat}:i < j->w i j k=true->Pth n m j k i' j'->Pth n (m+1) i j i' j'
variable {w}
theorem Pth.lt {n m i j d c:Nat} (h:Pth w n m i j d c):i < j/\j < n/\d < c/\c < n:=by
 induction h with
 | nil a b=>exact ⟨a,b,a,b⟩
 | cons a _ _ ih=>exact ⟨a,by lia,ih.2.2⟩
theorem Pth.up {n m i j c d:Nat} (h:Pth w n m i j c d):bg w i j+m<=bg w c d:=by
 induction h with
 | nil a b=>simp
 | cons a b _ ih =>
  have:=l8 w b a
  lia
end
theorem oY {α:Type} (f:α->Int):∀ xs:List α,bj (xs.map fun x=>L3.D.int (f x))=some (xs.map f)
 | []=>rfl
 | x :: xs=>by simp only [DL,bj,oY f xs,DU]
def wv (ps:Sg) (way:Int) (h i j:Nat):Bool:=decide (trn ps h i j=way)
theorem zU {α:Type} (xs:List α) (f:α->Int):zV (.lst (xs.map fun x=>L3.D.int (f x))) (.int 1)=some (.int (mx1 (xs.map f)),.z):=by
 show (bj (xs.map fun x=>L3.D.int (f x))).map _=_
 rw [oY]
 show some _=_
 unfold mx1
 cases h:rX (xs.map f) <;> simp [h]
theorem gq {P t:List Nat} {a:Nat} (h:a < P.length):el (P ++ t) a=el P a:=by
 simp [el,List.getD,List.getElem?_append,h]
theorem AY {P t:List Nat} {a:Nat} (h:P.length<=a):el (P ++ t) a=el t (a - P.length):=by
 have:¬ a < P.length:=by lia
 simp [el,List.getD,List.getElem?_append,this]
theorem gf {L:List Nat} {m i:Nat} (h:i < m):el (L.take m) i=el L i:=by
 simp [el,List.getD,List.getElem?_take,h]
structure Rw (w:Nat->Nat->Nat->Bool) (n:Nat) (r:List Nat):Prop where
 two:2<=r.length
 up:∀ a,a+1 < r.length->el r a < el r (a+1)
 lt:∀ a,a < r.length->el r a < n
 ok:∀ a,a+2 < r.length->w (el r a) (el r (a+1)) (el r (a+2))=true
section
variable {w:Nat->Nat->Nat->Bool} {n:Nat}
theorem Rw.pair {i j:Nat} (h1:i < j) (h2:j < n):Rw w n [i,j] where
 two:=DH _
 up:=fun a b=>by
  have:a=0:=by simp at b;lia
  subst this;exact h1
 lt:=fun a b=>by
  have:a=0\/a=1:=by simp at b;lia
  rcases this with rfl | rfl
  ·show i < n;lia
  ·exact h2
 ok:=fun a b=>by simp at b;lia
theorem Rw.snoc {r:List Nat} {k:Nat} (h:Rw w n r) (h1:el r (r.length - 1) < k) (h2:k < n) (h3:w (el r (r.length - 2)) (el r (r.length - 1)) k=true):Rw w n (r ++ [k]):=by
 have h0:=h.two
 have c:el (r ++ [k]) r.length=k:=by rw [AY (DH _),Nat.sub_self];rfl
 refine ⟨by simp;lia,fun a b=>?_,fun a b=>?_,fun a b=>?_⟩
 ·simp at b
  by_cases e:a+1 < r.length
  ·rw [gq (by lia),gq e];exact h.up a e
  ·rw [gq (by lia),show a+1=r.length by lia,c,show a=r.length - 1 by lia];exact h1
 ·simp at b
  by_cases e:a < r.length
  ·rw [gq e];exact h.lt a e
  ·rw [show a=r.length by lia,c];exact h2
 ·simp at b
  by_cases e:a+2 < r.length
  ·rw [gq (by lia),gq (by lia),gq e];exact h.ok a e
  ·rw [gq (by lia),gq (by lia),show a+2=r.length by lia,c,show a=r.length - 2 by lia,show r.length - 2+1=r.length - 1 by lia];exact h3
theorem Rw.take {r:List Nat} {m:Nat} (h:Rw w n r) (h1:2<=m) (h2:m<=r.length):Rw w n (r.take m):=by
 have c:(r.take m).length=m:=by rw [DT];lia
 refine ⟨by lia,fun a b=>?_,fun a b=>?_,fun a b=>?_⟩
 ·rw [gf (by lia),gf (by lia)];exact h.up a (by lia)
 ·rw [gf (by lia)];exact h.lt a (by lia)
 ·rw [gf (by lia),gf (by lia),gf (by lia)];exact h.ok a (by lia)
end
def lx:Nat->Nat->List (List Nat)
 | 0,_=>[[]]
 | k+1,a=>[] :: ((lx k (a+1)).map (fun r=>a :: r) ++ (lx k (a+1)).tail)
abbrev Pl (l:List (List Nat)):List L3.D:=l.map fun p=>L3.D.tup (Nd p)
theorem wO:∀ (k a:Nat),∀ r ∈ lx k a,r.Pairwise (· < ·)/\∀ x ∈ r,a<=x/\x < a+k
 | 0,a,r,h=>by
  rcases DX.mp h with rfl
  exact ⟨.nil,fun x b=>by cases b⟩
 | k+1,a,r,h=>by
  rcases Dw.mp h with rfl | h
  ·exact ⟨.nil,fun x b=>by cases b⟩
  rcases Dz.mp h with h | h
  ·obtain ⟨q,c,rfl⟩:=DF.mp h
   obtain ⟨h1,h2⟩:=wO k (a+1) q c
   refine ⟨List.pairwise_cons.mpr ⟨fun x b=>?_,h1⟩,fun x b=>?_⟩
   ·have:=h2 x b;lia
   ·rcases Dw.mp b with rfl | b
    ·lia
    ·have:=h2 x b;lia
  ·obtain ⟨h1,h2⟩:=wO k (a+1) r (List.mem_of_mem_tail h)
   exact ⟨h1,fun x b=>by have:=h2 x b;lia⟩
theorem wN {n:Nat} {r:List Nat} (h:r ∈ lx n 0):Ris n r:=by
 obtain ⟨h1,h2⟩:=wO n 0 r h
 exact ⟨h1,fun x a=>by have:=h2 x a;lia⟩
theorem lz:∀ ns:List (List Int),jn (ns.map ntD)=some ns
 | []=>rfl
 | n :: ns=>by
  have a:=lz ns
  have e:bj (n.map L3.D.int)=some n:=by
   clear a
   induction n with
   | nil=>rfl
   | cons x n a=>simp [bj,a]
  show (bj (n.map L3.D.int)).bind (fun n=>(jn (ns.map ntD)).map (n :: ·))=_
  rw [e,a];rfl
theorem iS {ns:List (List Int)} {is:List Nat} (h1:xa ns=true) (h2:ns.length<=16777216) (h3:aW ns=some is) (b:is.length<=16777216) (a:(is.all fun i=>decide (i < ns.length))=true):iT [.lst (ns.map ntD)]=some (.lst (is.map fun i=>ntD (ns.getD i [])),.u):=by
 show (jn (ns.map ntD)).bind _=_
 rw [lz]
 show (if (xa ns && decide (ns.length<=16777216))=true then _ else _)=_
 rw [h1,DM h2,Bool.and_self,if_pos rfl,h3]
 show (if (decide (is.length<=16777216) && is.all fun i=>decide (i < ns.length))=true then _ else _)=_
 rw [a,DM b,Bool.and_self,if_pos rfl]
theorem fp1:aU [(.int (1:Int),.z)]=some (.ok (.lst (Pl (lx 1 0)),.u),[(.int (1:Int),.z)]):=by kernel_rfl
theorem fp2:aU [(.int (2:Int),.z)]=some (.ok (.lst (Pl (lx 2 0)),.u),[(.int (2:Int),.z)]):=by kernel_rfl
theorem fp3:aU [(.int (3:Int),.z)]=some (.ok (.lst (Pl (lx 3 0)),.u),[(.int (3:Int),.z)]):=by kernel_rfl
theorem fp4:aU [(.int (4:Int),.z)]=some (.ok (.lst (Pl (lx 4 0)),.u),[(.int (4:Int),.z)]):=by kernel_rfl
theorem fp5:aU [(.int (5:Int),.z)]=some (.ok (.lst (Pl (lx 5 0)),.u),[(.int (5:Int),.z)]):=by kernel_rfl
theorem fq6:(bP (bf cn (ad (af 0) ai)) (aj 2) cR) [some (.int (6:Int),.z),some (.lst [.tup []],.u),none]=some (.ok .nx,[some (.int (6:Int),.z),some (.lst (U6.map ntD),.u),some (.int (5:Int),.z)]):=by kernel_rfl
theorem fr6:(L6_4.map fun i=>ntD (U6.getD i []))=Pl (lx 6 0):=by kernel_rfl
theorem fs6:iT [.lst (U6.map ntD)]=some (.lst (Pl (lx 6 0)),.u):=by
 rw [<- fr6]
 exact iS (by kernel_rfl) (by decide +kernel) sort6 (by decide +kernel) (by decide +kernel)
theorem fp6:aU [(.int (6:Int),.z)]=some (.ok (.lst (Pl (lx 6 0)),.u),[(.int (6:Int),.z)]):=by
 have s:=fs6
 have q:=fq6
 generalize L3.D.lst (U6.map ntD)=A at *
 generalize L3.D.lst (Pl (lx 6 0))=B at *
 apply aS (ρ:=[some (.int (6:Int),.z),none,none]) (ρ1:=[some (.int (6:Int),.z),some (A,.u),some (.int (5:Int),.z)]) rfl rfl
 ·unfold gb
  refine ak (ρ1:=[some (.int (6:Int),.z),some (.lst [.tup []],.u),none]) rfl ?_
  refine ak q ?_
  exact df (cS (bH (bC rfl) dW) rfl s) rfl
 ·rfl
theorem fq7:(bP (bf cn (ad (af 0) ai)) (aj 2) cR) [some (.int (7:Int),.z),some (.lst [.tup []],.u),none]=some (.ok .nx,[some (.int (7:Int),.z),some (.lst (U7.map ntD),.u),some (.int (6:Int),.z)]):=by kernel_rfl
theorem fr7:(L7_10.map fun i=>ntD (U7.getD i []))=Pl (lx 7 0):=by kernel_rfl
theorem fs7:iT [.lst (U7.map ntD)]=some (.lst (Pl (lx 7 0)),.u):=by
 rw [<- fr7]
 exact iS (by kernel_rfl) (by decide +kernel) sort7 (by decide +kernel) (by decide +kernel)
theorem fp7:aU [(.int (7:Int),.z)]=some (.ok (.lst (Pl (lx 7 0)),.u),[(.int (7:Int),.z)]):=by
 have s:=fs7
 have q:=fq7
 generalize L3.D.lst (U7.map ntD)=A at *
 generalize L3.D.lst (Pl (lx 7 0))=B at *
 apply aS (ρ:=[some (.int (7:Int),.z),none,none]) (ρ1:=[some (.int (7:Int),.z),some (A,.u),some (.int (6:Int),.z)]) rfl rfl
 ·unfold gb
  refine ak (ρ1:=[some (.int (7:Int),.z),some (.lst [.tup []],.u),none]) rfl ?_
  refine ak q ?_
  exact df (cS (bH (bC rfl) dW) rfl s) rfl
 ·rfl
theorem fq8:(bP (bf cn (ad (af 0) ai)) (aj 2) cR) [some (.int (8:Int),.z),some (.lst [.tup []],.u),none]=some (.ok .nx,[some (.int (8:Int),.z),some (.lst (U8.map ntD),.u),some (.int (7:Int),.z)]):=by kernel_rfl
theorem fr8:(L8_22.map fun i=>ntD (U8.getD i []))=Pl (lx 8 0):=by kernel_rfl
theorem fs8:iT [.lst (U8.map ntD)]=some (.lst (Pl (lx 8 0)),.u):=by
 rw [<- fr8]
 exact iS (by kernel_rfl) (by decide +kernel) sort8 (by decide +kernel) (by decide +kernel)
theorem fp8:aU [(.int (8:Int),.z)]=some (.ok (.lst (Pl (lx 8 0)),.u),[(.int (8:Int),.z)]):=by
 have s:=fs8
 have q:=fq8
 generalize L3.D.lst (U8.map ntD)=A at *
 generalize L3.D.lst (Pl (lx 8 0))=B at *
 apply aS (ρ:=[some (.int (8:Int),.z),none,none]) (ρ1:=[some (.int (8:Int),.z),some (A,.u),some (.int (7:Int),.z)]) rfl rfl
 ·unfold gb
  refine ak (ρ1:=[some (.int (8:Int),.z),some (.lst [.tup []],.u),none]) rfl ?_
  refine ak q ?_
  exact df (cS (bH (bC rfl) dW) rfl s) rfl
 ·rfl
theorem tF:∀ n:Nat,1<=n->n<=8->aU [(.int (n:Int),.z)]=some (.ok (.lst (Pl (lx n 0)),.u),[(.int (n:Int),.z)])
 | 0,h,_=>absurd h (by decide)
 | 1,_,_=>fp1
 | 2,_,_=>fp2
 | 3,_,_=>fp3
 | 4,_,_=>fp4
 | 5,_,_=>fp5
 | 6,_,_=>fp6
 | 7,_,_=>fp7
 | 8,_,_=>fp8
 | n+9,_,h=>absurd h (by lia)
theorem lx_hd:∀ (k a:Nat),∃ l,lx k a=[] :: l
 | 0,_=>⟨[],rfl⟩
 | _+1,_=>⟨_,rfl⟩
theorem qB:∀ (k a:Nat) (r:List Nat),r.Pairwise (· < ·)->(∀ x ∈ r,a<=x/\x < a+k)->r ∈ lx k a
 | 0,a,[],_,_=>DX.mpr rfl
 | 0,a,x :: r,_,h=>by have:=h x Dq;lia
 | k+1,a,[],_,_=>Dq
 | k+1,a,x :: r,hp,h=>by
  refine Dr _ (Dz.mpr ?_)
  have f:=h x Dq
  obtain ⟨c,p2⟩:=List.pairwise_cons.mp hp
  by_cases e:x=a
  ·subst e
   exact .inl (DF.mpr ⟨r,qB k (x+1) r p2 fun y b=>by have:=c y b;have:=h y (Dr _ b);lia,rfl⟩)
  ·have:=qB k (a+1) (x :: r) hp fun y b=>by
    have:=h y b
    rcases Dw.mp b with rfl | b
    ·lia
    ·have:=c y b;lia
   obtain ⟨l,d⟩:=lx_hd k (a+1)
   rw [d] at this ⊢
   rcases Dw.mp this with h | h
   ·cases h
   ·exact .inr h
theorem wP:∀ n:Nat,n<=8->(lx n 0).length<=256
 | 0,_=>by decide +kernel
 | 1,_=>by decide +kernel
 | 2,_=>by decide +kernel
 | 3,_=>by decide +kernel
 | 4,_=>by decide +kernel
 | 5,_=>by decide +kernel
 | 6,_=>by decide +kernel
 | 7,_=>by decide +kernel
 | 8,_=>by decide +kernel
 | n+9,h=>absurd h (by lia)
def rwB (s:Sg) (way:Int) (r:List Nat):Bool:=decide (2<=r.length) && rb s r way
theorem rw_iff {s:Sg} {way:Int} {r:List Nat}:Rw (wv s way) s.length r ↔ Ris s.length r/\rwB s way r=true:=by
 constructor
 ·intro h
  have up:r.Pairwise (· < ·):=by
   rw [List.pairwise_iff_getElem]
   intro i j hi g l
   have key:∀ d,i+d < r.length->0 < d->el r i < el r (i+d):=by
    intro d
    induction d with
    | zero=>intro _ h;cases h
    | succ d ih =>
     intro hd _
     have h1:=h.up (i+d) (by lia)
     by_cases f:d=0
     ·subst f;exact h1
     ·have:=ih (by lia) (by lia)
      rw [show i+(d+1)=i+d+1 by lia]
      lia
   have:=key (j - i) (by lia) (by lia)
   rw [show i+(j - i)=j by lia] at this
   have e1:=ic (L:=r) hi
   have e:=ic (L:=r) g
   rw [Dx hi] at e1
   rw [Dx g] at e
   injection e1 with e1
   injection e with e
   lia
  refine ⟨⟨up,fun x k=>?_⟩,?_⟩
  ·obtain ⟨i,hi,rfl⟩:=List.mem_iff_getElem.mp k
   have e1:=ic (L:=r) hi
   rw [Dx hi] at e1
   injection e1 with e1
   rw [e1]
   exact h.lt i hi
  ·unfold rwB rb
   rw [DM h.two,Bool.true_and,List.all_eq_true]
   intro a b
   exact h.ok a (by have:=List.mem_range.mp b;lia)
 ·rintro ⟨h,c⟩
  unfold rwB at c
  rw [Bool.and_eq_true] at c
  refine ⟨of_decide_eq_true c.1,fun a b=>h.at (by lia) b,fun a b=>h.lt _ (m7 b),fun a b=>?_⟩
  exact List.all_eq_true.mp c.2 a (List.mem_range.mpr (by lia))
theorem wS (r:List Nat):dS [.tup (Nd r)]=some (.int (r.length:Int),.z):=by simp [mV,c1]
theorem BE {ps:List Pt} (g:GoodSh ps) {r:List Nat} (h:Ris ps.length r) (b:Bool):d8 [(Shd ps,.z),(.tup (Nd r),.z),(.bl b,.z)]=some (.ok (.bl (rwB (sgn ps) (way b) r),.z),[(Shd ps,.z),(.tup (Nd r),.z),(.bl b,.z)]):=by
 have pm:=g.most
 by_cases h2:2<=r.length
 ·have e:rwB (sgn ps) (way b) r=rb (sgn ps) r (way b):=by unfold rwB;rw [DM h2,Bool.true_and]
  rw [e]
  exact qb g h h2
 ·have e:rwB (sgn ps) (way b) r=false:=by unfold rwB;rw [DN h2,Bool.false_and]
  rw [e]
  have c:=n9 h pm
  have a:=kz ps
  have ln:=wS r
  have lt:ltI (.int (r.length:Int)) (.int 2)=some (.bl true,.z):=by simp [cH];lia
  generalize L3.D.int (ps.length:Int)=LN at *
  generalize L3.D.int (r.length:Int)=LR at *
  generalize L3.D.tup (Nd r)=R at *
  generalize Shd ps=H at *
  apply aS (ρ:=[some (H,.z),some (R,.z),some (.bl b,.z),none]) (ρ1:=[some (H,.z),some (R,.z),some (.bl b,.z),none]) rfl rfl
  ·unfold i5
   refine my (lX (b:=true) (kD (b:=false) (ρ1:=[some (H,.z),some (R,.z),some (.bl b,.z),none]) ?_ rfl ?_) rfl (df i_c rfl))
   ·exact hV (k7 (ao c (bH (bC rfl) (bH (cS (bH (bC rfl) dW) rfl a) dW)) rfl rfl rfl) rfl)
   ·exact k7 (kE (cS (bH (bC rfl) dW) rfl ln) i_c rfl rfl lt) rfl
  ·rfl
abbrev rws (ps:List Pt) (b:Bool):List (List Nat):=(lx ps.length 0).filter (rwB (sgn ps) (way b))
theorem mem_rws {ps:List Pt} {b:Bool} {r:List Nat}:r ∈ rws ps b ↔ Rw (wv (sgn ps) (way b)) ps.length r:=by
 rw [DZ]
 constructor
 ·rintro ⟨h1,h2⟩
  exact rw_iff.mpr ⟨wN h1,h2⟩
 ·intro h
  obtain ⟨h1,h2⟩:=rw_iff.mp h
  exact ⟨qB _ _ _ h1.up fun x a=>⟨Nat.zero_le _,by have h3:x < ps.length:=h1.lt x a;lia⟩,h2⟩
theorem vv {ps:List Pt} (g:GoodSh ps) (a:ps.length<=8) (b:Bool):fR [(Shd ps,.z),(.bl b,.z)]=some (.ok (.lst (Pl (rws ps b)),.u),[(Shd ps,.z),(.bl b,.z)]):=by
 have pr:=tF ps.length g.pos a
 have h:=wP ps.length a
 have d:=kz ps
 obtain ⟨τ',e,v,rfl⟩:=cD (bnd:=aj 0) (c:=fH) (elt:=jx) (fun τ=>∃ v,τ=[v,some (Shd ps,.z),some (.bl b,.z)]) (fun r:List Nat=>L3.D.tup (Nd r)) (rwB (sgn ps) (way b)) (fun r:List Nat=>L3.D.tup (Nd r)) (xs:=lx ps.length 0) (τ:=[none,some (Shd ps,.z),some (.bl b,.z)]) ⟨none,rfl⟩ (by
  rintro r f τ ⟨v,rfl⟩
  have q:=BE g (wN f) b
  generalize rwB (sgn ps) (way b) r=bb at *
  generalize L3.D.tup (Nd r)=R at *
  generalize Shd ps=H at *
  exact ⟨[some (R,.z),some (H,.z),some (.bl b,.z)],[some (R,.z),some (H,.z),some (.bl b,.z)],rfl,by unfold fH;(nomatch [q]),fun _=>⟨_,rfl⟩,fun _=>⟨.pl 0,[some (R,.z),some (H,.z),some (.bl b,.z)],(R,.z),[some (R,.z),some (H,.z),some (.bl b,.z)],bC rfl,rfl,rfl,_,rfl⟩⟩)
 have el:((lx ps.length 0).map fun r:List Nat=>L3.D.tup (Nd r)).length < 16777216:=by rw [DB];lia
 generalize L3.D.int (ps.length:Int)=LN at *
 change fR _=some (.ok (.lst ((rws ps b).map fun r:List Nat=>L3.D.tup (Nd r)),.u),_)
 generalize ((rws ps b).map fun r:List Nat=>L3.D.tup (Nd r))=X at *
 have pr:aU [(LN,.z)]=some (.ok (.lst ((lx ps.length 0).map fun r:List Nat=>L3.D.tup (Nd r)),.u),[(LN,.z)]):=pr
 generalize ((lx ps.length 0).map fun r:List Nat=>L3.D.tup (Nd r))=P at *
 generalize Shd ps=H at *
 have l1:jw [some (H,.z),some (.bl b,.z)]=some (.ok (.val (.lst X) .u),[some (H,.z),some (.bl b,.z)]):=bB (rs:=[.val (.lst P) .u]) (ρ1:=[some (H,.z),some (.bl b,.z)]) (ρ2:=[some (H,.z),some (.bl b,.z)]) (by (nomatch [pr],[d])) e el rfl
 apply aS (ρ:=[some (H,.z),some (.bl b,.z)]) (ρ1:=[some (H,.z),some (.bl b,.z)]) rfl rfl
 ·unfold oR
  exact df l1 rfl
 ·rfl
def tbl (f:Nat->Nat->Int) (l:List (Nat × Nat)):List (List Key × L3.D):=l.map fun p=>(k2 p.1 p.2,.int (f p.1 p.2))
theorem rS {f:Nat->Nat->Int} {l:List (Nat × Nat)} {i j:Nat} (h:(i,j) ∉ l):ff (tbl f l) (k2 i j) (.int (f i j))=tbl f (l ++ [(i,j)]):=by
 have d:¬ ((tbl f l).any fun g=>decide (g.1=k2 i j))=true:=by
  intro c
  obtain ⟨x,a,e⟩:=List.any_eq_true.mp c
  obtain ⟨u,hu,rfl⟩:=DF.mp a
  obtain ⟨e1,b⟩:=mY (of_decide_eq_true e)
  exact h (by rw [<- e1,<- b];exact hu)
 unfold ff
 rw [if_neg d]
 unfold tbl
 rw [List.map_append]
 rfl
theorem jW {f:Nat->Nat->Int} {i j:Nat}:∀ {l:List (Nat × Nat)},(i,j) ∈ l->cA (tbl f l) (k2 i j)=some (.int (f i j))
 | u :: l,h=>by
  unfold cA tbl
  rw [DL,List.find?_cons]
  by_cases e:k2 u.1 u.2=k2 i j
  ·obtain ⟨e1,b⟩:=mY e
   simp [e1,b]
  ·have:(i,j) ∈ l:=by
    rcases Dw.mp h with rfl | h
    ·exact absurd rfl e
    ·exact h
   have a:=jW (f:=f) this
   unfold cA tbl at a
   simp only [e,decide_false]
   exact a
theorem mw {f:Nat->Nat->Int} {l:List (Nat × Nat)}:(tbl f l).length=l.length:=DB ..
def rI (n i m:Nat):List (Nat × Nat):=(List.range m).map fun d=>(i,i+1+d)
def pI (n m:Nat):List (Nat × Nat):=(List.range m).flatMap fun i=>rI n i (n - (i+1))
theorem rN (n i m:Nat):rI n i (m+1)=rI n i m ++ [(i,i+1+m)]:=by simp [rI,List.range_succ]
theorem mO (n m:Nat):pI n (m+1)=pI n m ++ rI n m (n - (m+1)):=by simp [pI,List.range_succ,List.flatMap_append]
theorem mem_rI {n i m a b:Nat}:(a,b) ∈ rI n i m ↔ a=i/\i < b/\b < i+1+m:=by
 simp only [rI,DF,List.mem_range,Prod.mk.injEq]
 constructor
 ·rintro ⟨d,h,rfl,rfl⟩;omega
 ·rintro ⟨rfl,h1,h2⟩;exact ⟨b - (a+1),by omega,rfl,by omega⟩
theorem mem_pI {n m a b:Nat}:(a,b) ∈ pI n m ↔ a < m/\a < b/\b < n:=by
 simp only [pI,Ef,List.mem_range]
 constructor
 ·rintro ⟨i,h,h2⟩
  have:=mem_rI.mp h2
  lia
 ·intro h
  exact ⟨a,h.1,mem_rI.mpr ⟨rfl,h.2.1,by omega⟩⟩
theorem vV {n i m:Nat}:(rI n i m).length=m:=by simp [rI]
theorem qk (n:Nat):∀ m,(pI n m).length<=n * m
 | 0=>by simp [pI]
 | m+1=>by
  have:=qk n m
  rw [mO,DR,vV,Nat.mul_succ]
  lia
abbrev rtS (ps:List Pt) (way:Int) (T kvs:List (List Key × L3.D)) (a b:Option (L3.D × Fl)):Sto:=[some (Shd ps,.z),some (.int way,.z),some (.dt T,.u),some (.dt kvs,.u),a,b]
section
variable {ps:List Pt} {way:Int} {T kvs:List (List Key × L3.D)} {i j:Nat}
theorem yU (k:x4 (sgn ps) T) (f:j < ps.length) (hi:i < j) (l:ps.length<=24) (d:∀ h,h < i->cA kvs (k2 h i)=some (.int (bg (wv (sgn ps) way) h i))) :
  c7 (rtS ps way T kvs (some (.int i,.z)) (some (.int j,.z)))=some (.ok (.val (.lst (((List.range i).filter fun h=>wv (sgn ps) way h i j).map fun h=>L3.D.int (bg (wv (sgn ps) way) h i))) .u),rtS ps way T kvs (some (.int i,.z)) (some (.int j,.z))):=by
 obtain ⟨τ',e,a,rfl⟩:=cD (bnd:=aj 0) (c:=bR) (elt:=bQ) (fun τ=>∃ a,τ=[a,some (.dt kvs,.u),some (.int i,.z),some (.int way,.z),some (.dt T,.u),some (.int j,.z)]) (fun h:Nat=>L3.D.int (0+(h:Int))) (fun h=>wv (sgn ps) way h i j) (fun h=>L3.D.int (bg (wv (sgn ps) way) h i)) (xs:=List.range i) (τ:=[none,some (.dt kvs,.u),some (.int i,.z),some (.int way,.z),some (.dt T,.u),some (.int j,.z)]) ⟨none,rfl⟩ (by
  rintro h b τ ⟨a,rfl⟩
  have b:=List.mem_range.mp b
  have s3:=sub3 (k h i j b hi f)
  have s2:=sub2 (d h b)
  have c:bR [some (.int h,.z),some (.dt kvs,.u),some (.int i,.z),some (.int way,.z),some (.dt T,.u),some (.int j,.z)]=some (.ok (wv (sgn ps) way h i j),[some (.int h,.z),some (.dt kvs,.u),some (.int i,.z),some (.int way,.z),some (.dt T,.u),some (.int j,.z)]):=by
   unfold bR
   exists s3,Al _ _
  have el:bQ [some (.int h,.z),some (.dt kvs,.u),some (.int i,.z),some (.int way,.z),some (.dt T,.u),some (.int j,.z)]=some (.ok (.val (.int (bg (wv (sgn ps) way) h i)) .z),[some (.int h,.z),some (.dt kvs,.u),some (.int i,.z),some (.int way,.z),some (.dt T,.u),some (.int j,.z)]):=by
   unfold bQ
   exists s2
  exact ⟨_,_,by rw [Int.zero_add];rfl,c,fun _=>⟨_,rfl⟩,fun _=>⟨_,_,_,_,el,rfl,rfl,_,rfl⟩⟩)
 have g:cn [.int (i:Int)]=some (bc 0 i):=dq (by omega) (by omega)
 have im:bf cn (ad (af 4) ai) (rtS ps way T kvs (some (.int i,.z)) (some (.int j,.z)))=some (.ok ([],bc 0 i),rtS ps way T kvs (some (.int i,.z)) (some (.int j,.z))):=by (repeat' (first | with_reducible apply dD (h3:=g) | infer_instance | eq_refl))
 exact bB (rs:=[]) im e (by rw [cu];lia) rfl
theorem yV (e:x4 (sgn ps) T) (d:j < ps.length) (hi:i < j) (f:ps.length<=24) (b:∀ h,h < i->cA kvs (k2 h i)=some (.int (bg (wv (sgn ps) way) h i))) (a:kvs.length < 16777216) :
  bT (rtS ps way T kvs (some (.int i,.z)) (some (.int j,.z)))=some (.ok .nx,rtS ps way T (ff kvs (k2 i j) (.int (bg (wv (sgn ps) way) i j))) (some (.int i,.z)) (some (.int j,.z))):=by
 have c:=yU e d hi f b
 have v:ah cE (mC (.int 1)) (ah zV c7 (mC (.int 1))) (rtS ps way T kvs (some (.int i,.z)) (some (.int j,.z)))=some (.ok (.val (.int (bg (wv (sgn ps) way) i j)) .z),rtS ps way T kvs (some (.int i,.z)) (some (.int j,.z))):=by
  rw [iK]
  exact kE i_c (kE c i_c rfl rfl (zU _ _)) rfl rfl rfl
 unfold bT
 exact o0 (i:=3) (ρ1:=rtS ps way T kvs (some (.int i,.z)) (some (.int j,.z))) (ρ2:=rtS ps way T kvs (some (.int i,.z)) (some (.int j,.z))) (ρ3:=rtS ps way T kvs (some (.int i,.z)) (some (.int j,.z))) v rfl (by (nofun)) rfl rfl (By a)
theorem vt (g:GoodSh ps) (p:ps.length<=8):bL [(Shd ps,.z),(.int way,.z)]=some (.ok (.dt (tbl (bg (wv (sgn ps) way)) (pI ps.length ps.length)),.u),[(Shd ps,.z),(.int way,.z)]):=by
 have n:=vC g (by omega)
 have r:=uN ps
 generalize tb ps (jH ps.length)=T at *
 have o:=g.most
 have inner:∀ (i:Nat) (a:Option (L3.D × Fl)),i < ps.length->∃ c,bS (rtS ps way T (tbl (bg (wv (sgn ps) way)) (pI ps.length i)) (some (.int i,.z)) a)=some (.ok .nx,rtS ps way T (tbl (bg (wv (sgn ps) way)) (pI ps.length (i+1))) (some (.int i,.z)) c):=by
  intro i a hi
  obtain ⟨ρ',e,c,rfl⟩:=bq (bnd:=aj 5) (b:=bT) (fun m ρ=>∃ a,ρ=rtS ps way T (tbl (bg (wv (sgn ps) way)) (pI ps.length i ++ rI ps.length i m)) (some (.int i,.z)) a) (ds:=bc ((i:Int)+1) (ps.length - (i+1))) (ρ:=rtS ps way T (tbl (bg (wv (sgn ps) way)) (pI ps.length i)) (some (.int i,.z)) a) (k:=0) ⟨a,by simp [rI]⟩ (by
   rintro m d ρ hd ⟨a,rfl⟩
   obtain ⟨hm,rfl⟩:=cv hd
   rw [DP]
   have q:(tbl (bg (wv (sgn ps) way)) (pI ps.length i ++ rI ps.length i m)).length < 16777216:=by
    have:=qk ps.length i
    have:ps.length * i<=8 * 8:=Nat.mul_le_mul p (by omega)
    rw [mw,DR,vV]
    lia
   have b:=yV (way:=way) (kvs:=tbl (bg (wv (sgn ps) way)) (pI ps.length i ++ rI ps.length i m)) (i:=i) (j:=i+1+m) r (by omega) (by omega) o (fun h l=>jW (Du _ (mem_pI.mpr ⟨l,l,hi⟩))) q
   rw [rS (fun z=>(Dz.mp z).elim (fun z=>by have:=mem_pI.mp z;omega) fun z=>by have:=mem_rI.mp z;omega),List.append_assoc,<- rN] at b
   rw [show ((i+1+m:Nat):Int)=(i:Int)+1+m by lia] at b
   exact ⟨_,_,rfl,.inl b,_,rfl⟩)
  rw [cu,DP,<- mO] at e
  have f:iX [.int ((i:Int)+1),.int (ps.length:Nat)]=some (bc ((i:Int)+1) (ps.length - (i+1))):=mE (by omega) (by omega) (by omega)
  have hlen:=kz ps
  refine ⟨c,?_⟩
  unfold bS
  apply dX
  ·(repeat' (first | with_reducible apply dD (h3:=f) | infer_instance | exact hlen | eq_refl))
  ·rfl
  ·exact e
 obtain ⟨ρ',e,v4,a,rfl⟩:=bq (bnd:=aj 4) (b:=bS) (fun m ρ=>∃ v4 a,ρ=rtS ps way T (tbl (bg (wv (sgn ps) way)) (pI ps.length m)) v4 a) (ds:=bc 0 ps.length) (ρ:=rtS ps way T [] none none) (k:=0) ⟨none,none,rfl⟩ (by
  rintro m d ρ hd ⟨v4,a,rfl⟩
  obtain ⟨hm,rfl⟩:=cv hd
  rw [DP]
  obtain ⟨c,e⟩:=inner m a hm
  exact ⟨_,_,by rw [Int.zero_add];rfl,.inl e,_,_,rfl⟩)
 rw [cu,DP] at e
 have f:cn [.int (ps.length:Nat)]=some (bc 0 ps.length):=dq (by omega) (by omega)
 have hlen:=kz ps
 apply aS (ρ:=[some (Shd ps,.z),some (.int way,.z),none,none,none,none]) rfl rfl
 ·apply ak (ρ1:=[some (Shd ps,.z),some (.int way,.z),some (.dt T,.u),none,none,none])
  ·nomatch [n]
  ·apply ak (ρ1:=rtS ps way T [] none none)
   ·rfl
   ·apply ak
    ·apply dX
     ·(repeat' (first | with_reducible apply dD (h3:=f) | infer_instance | exact hlen | eq_refl))
     ·rfl
     ·exact e
    ·nofun
 ·rfl
end
section
variable {w:Nat->Nat->Nat->Bool} {n:Nat}
theorem Ao:∀ (f i j:Nat),i<=f->i < j->j < n->∃ r,Rw w n r/\(r.length:Int)=bg w i j/\el r (r.length - 2)=i/\el r (r.length - 1)=j:=by
 have base:∀ i j:Nat,i < j->j < n->bg w i j=2->∃ r,Rw w n r/\(r.length:Int)=bg w i j/\el r (r.length - 2)=i/\el r (r.length - 1)=j:=fun i j h1 h2 h3=>⟨[i,j],Rw.pair h1 h2,by rw [h3];rfl,rfl,rfl⟩
 intro f
 induction f with
 | zero =>
  intro i j h0 h1 h2
  obtain rfl:i=0:=by lia
  exact base 0 j h1 h2 (by rw [iK];rfl)
 | succ f ih =>
  intro i j h0 h1 h2
  by_cases he:((List.range i).filter fun h=>w h i j).map (fun h=>bg w h i)=[]
  ·exact base i j h1 h2 (by rw [iK,he];rfl)
  ·obtain ⟨h,hm,e⟩:=DF.mp (rW he)
   obtain ⟨b,hw⟩:=DZ.mp hm
   have b:=List.mem_range.mp b
   obtain ⟨r,c,d,g,a⟩:=ih h i (by omega) b (by omega)
   have t:=c.two
   refine ⟨r ++ [j],c.snoc (by rw [a];exact h1) h2 (by rw [g,a];exact hw),?_,?_,?_⟩
   ·rw [iK,DR,<- e,<- d]
    simp
    lia
   ·rw [DR,gq (by simp;omega)]
    simpa using a
   ·rw [DR,AY (by simp)]
    simp [el]
theorem Rw.cup {r:List Nat} (h:Rw w n r):∀ d:Nat,d+2<=r.length->2+(d:Int)<=bg w (el r d) (el r (d+1))
 | 0,_=>xG w _ _
 | d+1,hd=>by
  have a:=h.cup d (by omega)
  have b:=l8 w (h.ok d (by omega)) (h.up d (by omega))
  have e:d+1+1=d+2:=rfl
  rw [e]
  lia
end
def fu (f:Nat->Nat->Int) (i j:Nat) (v:Int) (a b:Nat):Int:=if a=i/\b=j then v else f a b
theorem uT {f g:Nat->Nat->Int} {l:List (Nat × Nat)} (h:∀ p ∈ l,f p.1 p.2=g p.1 p.2):tbl f l=tbl g l:=Eh fun p a=>by rw [h p a]
theorem xo {f:Nat->Nat->Int} {i j:Nat}:∀ {l:List (Nat × Nat)},(i,j) ∉ l->cA (tbl f l) (k2 i j)=none
 | [],_=>rfl
 | u :: l,h=>by
  have e:k2 u.1 u.2 ≠ k2 i j:=fun e=>by
   obtain ⟨e1,b⟩:=mY e
   exact h (by rw [<- e1,<- b];exact Dq)
  have a:=xo (f:=f) (fun z=>h (Dr u z))
  unfold cA tbl at a ⊢
  rw [DL,List.find?_cons]
  simp only [e,decide_false]
  exact a
theorem B1 {f:Nat->Nat->Int} {l:List (Nat × Nat)} {i j:Nat} {v:Int} (h:(i,j) ∉ l):ff (tbl f l) (k2 i j) (.int v)=tbl (fu f i j v) (l ++ [(i,j)]):=by
 have e:tbl f l=tbl (fu f i j v) l:=uT fun p a=>by
  unfold fu
  rw [if_neg fun z=>h (by rw [<- z.1,<- z.2];exact a)]
 have b:v=fu f i j v i j:=by simp [fu]
 have:=rS (f:=fu f i j v) h
 rw [<- e,<- b] at this
 exact this
theorem B2 {f:Nat->Nat->Int} {l:List (Nat × Nat)} {i j:Nat} {v:Int} (h:(i,j) ∈ l):ff (tbl f l) (k2 i j) (.int v)=tbl (fu f i j v) l:=by
 unfold ff
 rw [if_pos (by
  rw [List.any_eq_true]
  exact ⟨_,DF.mpr ⟨(i,j),h,rfl⟩,by simp⟩)]
 unfold tbl
 rw [Eg]
 refine Eh fun p b=>?_
 by_cases e:k2 p.1 p.2=k2 i j
 ·obtain ⟨e1,a⟩:=mY e
  simp [e1,a,fu]
 ·have:¬ (p.1=i/\p.2=j):=fun z=>e (by rw [z.1,z.2])
  simp [e,fu,this]
def lt2 (r:List Nat):Nat × Nat:=(el r (r.length - 2),el r (r.length - 1))
theorem Am {r:List Nat} (h:2<=r.length):jN (Nd r) (some (-2)) none=[.int (lt2 r).1,.int (lt2 r).2]:=by
 obtain ⟨P,a,b,rfl⟩:∃ P a b,r=P ++ [a,b]:=by
  refine ⟨r.take (r.length - 2),r[r.length - 2]'(by omega),r[r.length - 1]'(by omega),?_⟩
  have e:=(List.take_append_drop (r.length - 2) r).symm
  rw [List.drop_eq_getElem_cons (by omega),show r.length - 2+1=r.length - 1 by omega,List.drop_eq_getElem_cons (by omega),List.drop_of_length_le (by omega)] at e
  exact e
 have h1:HT.sIx (Nd (P ++ [a,b])).length 0 (some (-2))=P.length:=by
  simp only [HT.sIx,DB,DR,DS,List.length_nil]
  simp
  lia
 have h2:HT.sIx (Nd (P ++ [a,b])).length (Nd (P ++ [a,b])).length none=P.length+2:=by
  show (Nd (P ++ [a,b])).length=_
  simp
 unfold jN
 rw [h1,h2]
 have e1:(lt2 (P ++ [a,b])).1=a:=by simp [lt2,el]
 have c:(lt2 (P ++ [a,b])).2=b:=by simp [lt2,el]
 rw [e1,c]
 simp [Nd]
structure Tld (L:List (List Nat)) (l:List (Nat × Nat)) (f:Nat->Nat->Int):Prop where
 nd:l.Nodup
 few:l.length<=L.length
 has:∀ p ∈ l,∃ r ∈ L,lt2 r=p/\(r.length:Int)=f p.1 p.2
 up:∀ r ∈ L,lt2 r ∈ l/\(r.length:Int)<=f (lt2 r).1 (lt2 r).2
theorem zW (a c:Int):oM [.int a,.int c]=some (.int (if a < c then c else a),.z):=by
 show some _=some _
 simp
def gv (f:Nat->Nat->Int) (l:List (Nat × Nat)) (p:Nat × Nat):Int:=if p ∈ l then f p.1 p.2 else 0
def nv (f:Nat->Nat->Int) (l:List (Nat × Nat)) (r:List Nat):Int:=if gv f l (lt2 r) < (r.length:Int) then (r.length:Int) else gv f l (lt2 r)
def nl (l:List (Nat × Nat)) (p:Nat × Nat):List (Nat × Nat):=if p ∈ l then l else l ++ [p]
theorem Ag {f:Nat->Nat->Int} {l:List (Nat × Nat)} {i j:Nat}:o6 [.dt (tbl f l),.tup [.int (i:Int),.int (j:Int)],.int 0]=some (.int (gv f l (i,j)),.z):=by
 show some ((cA (tbl f l) (k2 i j)).getD (.int 0),Fl.z)=_
 unfold gv
 by_cases h:(i,j) ∈ l
 ·rw [jW h,if_pos h];rfl
 ·rw [xo h,if_neg h];rfl
theorem zj {f:Nat->Nat->Int} {l:List (Nat × Nat)} {i j:Nat} {v:Int}:ff (tbl f l) (k2 i j) (.int v)=tbl (fu f i j v) (nl l (i,j)):=by
 unfold nl
 by_cases h:(i,j) ∈ l
 ·rw [if_pos h,B2 h]
 ·rw [if_neg h,B1 h]
theorem Tld.step {L:List (List Nat)} {l:List (Nat × Nat)} {f:Nat->Nat->Int} (t:Tld L l f) (r:List Nat):Tld (L ++ [r]) (nl l (lt2 r)) (fu f (lt2 r).1 (lt2 r).2 (nv f l r)):=by
 have hm:lt2 r ∈ nl l (lt2 r):=by unfold nl;split <;> simp [*]
 have k:∀ p ∈ l,p ∈ nl l (lt2 r):=fun p c=>by unfold nl;split <;> simp [c]
 have n:∀ p ∈ nl l (lt2 r),p ∈ l\/p=lt2 r:=fun p c=>by
  unfold nl at c
  split at c
  ·exact .inl c
  ·rcases Dz.mp c with h | h
   ·exact .inl h
   ·exact .inr (DX.mp h)
 have fs:fu f (lt2 r).1 (lt2 r).2 (nv f l r) (lt2 r).1 (lt2 r).2=nv f l r:=by simp [fu]
 have g:∀ p:Nat × Nat,p ≠ lt2 r->fu f (lt2 r).1 (lt2 r).2 (nv f l r) p.1 p.2=f p.1 p.2:=fun p c=>by
  unfold fu
  rw [if_neg fun z=>c (Prod.ext z.1 z.2)]
 refine ⟨?_,?_,fun p c=>?_,fun q i=>?_⟩
 ·unfold nl
  split
  ·exact t.nd
  ·rename_i h
   exact List.nodup_append.mpr ⟨t.nd,by simp,fun a j b m=>by rw [DX.mp m];exact fun z=>h (z ▸ j)⟩
 ·have:=t.few
  unfold nl
  split <;> simp <;> omega
 ·by_cases e:p=lt2 r
  ·subst e
   rw [fs]
   unfold nv
   split
   ·exact ⟨r,by simp,rfl,rfl⟩
   ·rename_i h
    by_cases d:lt2 r ∈ l
    ·obtain ⟨q,h1,h2,h3⟩:=t.has _ d
     exact ⟨q,Du _ h1,h2,by rw [h3,gv,if_pos d]⟩
    ·rw [gv,if_neg d] at h
     exact ⟨r,by simp,rfl,by rw [gv,if_neg d];omega⟩
  ·obtain ⟨q,h1,h2,h3⟩:=t.has p ((n p c).resolve_right e)
   exact ⟨q,Du _ h1,h2,by rw [g p e];exact h3⟩
 ·by_cases e:lt2 q=lt2 r
  ·rw [e,fs]
   refine ⟨hm,?_⟩
   rcases Dz.mp i with h | h
   ·obtain ⟨h1,h2⟩:=t.up q h
    rw [e] at h1 h2
    unfold nv
    rw [gv,if_pos h1]
    split <;> omega
   ·rw [DX.mp h]
    unfold nv
    split <;> omega
  ·rcases Dz.mp i with h | h
   ·obtain ⟨h1,h2⟩:=t.up q h
    exact ⟨k _ h1,by rw [g _ e];exact h2⟩
   ·exact absurd (by rw [DX.mp h]) e
abbrev iJ (ps:List Pt) (b:Bool) (kvs:List (List Key × L3.D)) (x:Option (L3.D × Fl)):Sto:=[some (Shd ps,.z),some (.bl b,.z),some (.dt kvs,.u),x]
theorem due_b {ps:List Pt} {b:Bool} {f:Nat->Nat->Int} {l:List (Nat × Nat)} {r:List Nat} (h:2<=r.length) (a:l.length < 16777216) :
  eG (iJ ps b (tbl f l) (some (.tup (Nd r),.z)))=some (.ok .nx,iJ ps b (tbl (fu f (lt2 r).1 (lt2 r).2 (nv f l r)) (nl l (lt2 r))) (some (.tup (Nd r),.z))):=by
 have e:slD (.tup (Nd r)) (some (-2)) none=some (.tup [.int ((lt2 r).1:Int),.int ((lt2 r).2:Int)],.z):=by
  show some (L3.D.tup (jN (Nd r) (some (-2)) none),Fl.z)=_
  rw [Am h]
 have c:=Ag (f:=f) (l:=l) (i:=(lt2 r).1) (j:=(lt2 r).2)
 have g:=wS r
 have hm:=zW (gv f l (lt2 r)) (r.length:Int)
 have sl:mSl slD (af 3) (dQ (mUn kj (mC (.int 2)))) eU (iJ ps b (tbl f l) (some (.tup (Nd r),.z)))=some (.ok (.val (.tup [.int ((lt2 r).1:Int),.int ((lt2 r).2:Int)]) .z),iJ ps b (tbl f l) (some (.tup (Nd r),.z))):=by
  exists e
 have v:aw oM (ad (ky xc o6 (af 2) (ad (mSl slD (af 3) (dQ (mUn kj (mC (.int 2)))) eU) (ad (mC (.int 0)) ai))) (ad (aw dS (ad (af 3) ai)) ai)) (iJ ps b (tbl f l) (some (.tup (Nd r),.z)))=some (.ok (.val (.int (nv f l r)) .z),iJ ps b (tbl f l) (some (.tup (Nd r),.z))):=by
  have k:ky xc o6 (af 2) (ad (mSl slD (af 3) (dQ (mUn kj (mC (.int 2)))) eU) (ad (mC (.int 0)) ai)) (iJ ps b (tbl f l) (some (.tup (Nd r),.z)))=some (.ok (.val (.int (gv f l (lt2 r))) .z),iJ ps b (tbl f l) (some (.tup (Nd r),.z))):=by
   apply CU
   ·exact bC rfl
   ·rfl
   ·rfl
   ·(repeat' (first | with_reducible exact sl | infer_instance | eq_refl))
   ·rfl
   ·exact c
  (repeat' (first | with_reducible exact k | infer_instance | exact g | exact hm | eq_refl))
 have st:=By (i:=(lt2 r).1) (j:=(lt2 r).2) (d:=.int (nv f l r)) (kvs:=tbl f l) (by rw [mw];exact a)
 rw [zj] at st
 unfold eG
 exact o0 (i:=2) (ρ1:=iJ ps b (tbl f l) (some (.tup (Nd r),.z))) (ρ2:=iJ ps b (tbl f l) (some (.tup (Nd r),.z))) (ρ3:=iJ ps b (tbl f l) (some (.tup (Nd r),.z))) v rfl sl rfl rfl st
theorem rB {ps:List Pt} (g:GoodSh ps) (c:ps.length<=8) (b:Bool):∃ l f,Tld (rws ps b) l f/\eP [(Shd ps,.z),(.bl b,.z)]=some (.ok (.dt (tbl f l),.u),[(Shd ps,.z),(.bl b,.z)]):=by
 have i:=vv g c b
 have two:∀ r ∈ rws ps b,2<=r.length:=fun r a=>(mem_rws.mp a).two
 have few:(rws ps b).length < 16777216:=by
  have:=wP ps.length c
  have:(rws ps b).length<=(lx ps.length 0).length:=List.length_filter_le ..
  lia
 generalize rws ps b=L at i two few
 obtain ⟨ρ',e,l,f,x,t,rfl⟩:=bq (bnd:=aj 3) (b:=eG) (fun m ρ=>∃ l f x,Tld (L.take m) l f/\ρ=iJ ps b (tbl f l) x) (ds:=Pl L) (ρ:=iJ ps b [] none) (k:=0) ⟨[],fun _ _=>0,none,⟨List.nodup_nil,Nat.zero_le _,fun _ h=>(by cases h),fun _ h=>(by simp at h)⟩,rfl⟩ (by
  rintro m d ρ hd ⟨l,f,x,t,rfl⟩
  rw [DG] at hd
  obtain ⟨r,a,rfl⟩:=Dt.mp hd
  have hm:=DD a
  have lt:=(DC.mp a).1
  have h1:=t.few
  have h2:=t.step r
  rw [show L.take (0+m) ++ [r]=L.take (0+m+1) by rw [DP,List.take_add_one,a];rfl] at h2
  have bd:=due_b (ps:=ps) (b:=b) (f:=f) (l:=l) (two r hm) (by rw [DT] at h1;omega)
  exact ⟨_,_,rfl,.inl bd,_,_,_,h2,rfl⟩)
 rw [show 0+(Pl L).length=L.length by simp,List.take_length] at t
 refine ⟨l,f,t,?_⟩
 apply aS (ρ:=[some (Shd ps,.z),some (.bl b,.z),none,none]) rfl rfl
 ·apply ak (ρ1:=iJ ps b [] none)
  ·rfl
  ·apply ak
   ·apply dX
    ·nomatch [i]
    ·rfl
    ·exact e
   ·nofun
 ·rfl
theorem rI_nd (n i m:Nat):(rI n i m).Nodup:=by
 induction m with
 | zero=>exact List.nodup_nil
 | succ m ih =>
  rw [rN]
  exact List.nodup_append.mpr ⟨ih,by simp,fun a d b c z=>by
   rw [DX.mp c] at z
   subst z
   have:=mem_rI.mp d
   omega⟩
theorem pI_nd (n m:Nat):(pI n m).Nodup:=by
 induction m with
 | zero=>exact List.nodup_nil
 | succ m ih =>
  rw [mO]
  refine List.nodup_append.mpr ⟨ih,rI_nd _ _ _,fun a d b c z=>?_⟩
  subst z
  obtain ⟨x,y⟩:=a
  have h1:=mem_pI.mp d
  have h2:=mem_rI.mp c
  lia
theorem sf (f:Nat->Nat->Int):∀ l:List (Nat × Nat),kvI (tbl f l)=some (l.map fun p=>(k2 p.1 p.2,f p.1 p.2))
 | []=>rfl
 | p :: l=>by
  show (kvI (tbl f l)).map _=_
  rw [sf f l]
  rfl
section
variable {ps:List Pt} {b:Bool} {l:List (Nat × Nat)} {f:Nat->Nat->Int}
theorem Tld.end (t:Tld (rws ps b) l f):(∀ i j,(i,j) ∈ l ↔ i < j/\j < ps.length)/\∀ i j,i < j->j < ps.length->f i j=bg (wv (sgn ps) (way b)) i j:=by
 have le:∀ r,Rw (wv (sgn ps) (way b)) ps.length r->(r.length:Int)<=bg (wv (sgn ps) (way b)) (lt2 r).1 (lt2 r).2:=fun r h=>by
  have:=h.two
  have c:=h.cup (r.length - 2) (by omega)
  rw [show r.length - 2+1=r.length - 1 by omega] at c
  show _<=bg _ (el r (r.length - 2)) (el r (r.length - 1))
  lia
 have ex:∀ i j,i < j->j < ps.length->(i,j) ∈ l/\bg (wv (sgn ps) (way b)) i j<=f i j:=fun i j h1 h2=>by
  obtain ⟨r,m,p,q,o⟩:=Ao (w:=wv (sgn ps) (way b)) (n:=ps.length) i i j (DH _) h1 h2
  have e:lt2 r=(i,j):=Prod.ext q o
  obtain ⟨d,k⟩:=t.up r (mem_rws.mpr m)
  rw [e] at d k
  exact ⟨d,by rw [<- p];exact k⟩
 have inl:∀ i j,(i,j) ∈ l->(i < j/\j < ps.length)/\f i j<=bg (wv (sgn ps) (way b)) i j:=fun i j h=>by
  obtain ⟨r,h1,h2,h3⟩:=t.has _ h
  have a:=mem_rws.mp h1
  have c:=le r a
  rw [h2] at c
  have e1:el r (r.length - 2)=i:=congrArg Prod.fst h2
  have g:el r (r.length - 1)=j:=congrArg Prod.snd h2
  have s:=a.two
  have u:=a.up (r.length - 2) (by omega)
  rw [show r.length - 2+1=r.length - 1 by omega,e1,g] at u
  have lt:=a.lt (r.length - 1) (by omega)
  rw [g] at lt
  exact ⟨⟨u,lt⟩,by rw [<- h3];exact c⟩
 exact ⟨fun i j=>⟨fun h=>(inl i j h).1,fun h=>(ex i j h.1 h.2).1⟩,fun i j h1 h2=>Int.le_antisymm (inl i j (ex i j h1 h2).1).2 (ex i j h1 h2).2⟩
theorem wA (t:Tld (rws ps b) l f):wC (.dt (tbl (bg (wv (sgn ps) (way b))) (pI ps.length ps.length))) (.dt (tbl f l))=some (.bl false,.z):=by
 obtain ⟨m,v⟩:=t.end
 have pm:(pI ps.length ps.length).Perm l:=(List.perm_ext_iff_of_nodup (pI_nd _ _) t.nd).mpr fun p=>by
  obtain ⟨i,j⟩:=p
  rw [m i j]
  exact mem_pI.trans ⟨fun h=>h.2,fun h=>⟨by omega,h⟩⟩
 unfold wC
 simp only [sf]
 rw [if_pos]
 rw [Bool.and_eq_true]
 refine ⟨DM (by rw [DB,DB];exact pm.length_eq),List.all_eq_true.mpr fun q d=>List.any_eq_true.mpr ?_⟩
 obtain ⟨p,c,rfl⟩:=DF.mp d
 obtain ⟨i,j⟩:=p
 have a:=pm.mem_iff.mp c
 obtain ⟨h1,h2⟩:=(m i j).mp a
 exact ⟨_,DF.mpr ⟨(i,j),a,rfl⟩,DM (by show (k2 i j,f i j)=_;rw [v i j h1 h2])⟩
end
abbrev Kp (p:Nat × Nat):L3.D:=.tup [.int p.1,.int p.2]
theorem wY (f:Nat->Nat->Int) (l:List (Nat × Nat)):(tbl f l).map (fun a=>CO a.1)=l.map Kp:=by
 unfold tbl
 rw [Eg]
 rfl
theorem CI {f:Nat->Nat->Int} {l:List (Nat × Nat)} (d:l.length < 16777216) {a0 a1 a2 a3 a4 a6:Option (L3.D × Fl)} :
  oQ [a0,a1,a2,a3,a4,some (.dt (tbl f l),.u),a6]=some (.ok (.val (.lst (l.map fun _=>L3.D.bl true)) .u),[a0,a1,a2,a3,a4,some (.dt (tbl f l),.u),a6]):=by
 obtain ⟨τ,b,a,rfl⟩:=cD (bnd:=aj 0) (c:=fg) (elt:=iC) (fun τ=>∃ a,τ=[a,some (.dt (tbl f l),.l)]) Kp (fun _=>true) (fun _=>L3.D.bl true) (xs:=l) (τ:=[none,some (.dt (tbl f l),.l)]) ⟨none,rfl⟩ (by
  rintro p e τ ⟨a,rfl⟩
  have s1:aG (.dt (tbl f l)) (Kp p)=some (.int (f p.1 p.2),.z):=sub2 (jW e)
  have r:=j8 (f p.1 p.2)
  generalize L3.D.int (f p.1 p.2)=Q at *
  have el:iC [some (Kp p,.z),some (.dt (tbl f l),.l)]=some (.ok (.val (.bl true) .z),[some (Kp p,.z),some (.dt (tbl f l),.l)]):=by
   unfold iC
   exact ao r (bH (kE (bC rfl) (bC rfl) rfl rfl s1) dW) rfl rfl rfl
  exact ⟨_,_,rfl,rfl,(fun h=>by cases h),fun _=>⟨_,_,_,_,el,rfl,rfl,_,rfl⟩⟩)
 rw [Ee.mpr (fun _ _=>rfl)] at b
 have im:m4 (af 5) [a0,a1,a2,a3,a4,some (.dt (tbl f l),.u),a6]=some (.ok ([.pl 5],l.map Kp),[a0,a1,a2,a3,a4,some (.dt (tbl f l),.u),a6]):=by rw [<- wY f l];rfl
 generalize tbl f l=T at *
 exact bB (rs:=[.pl 5]) (ρ1:=[a0,a1,a2,a3,a4,some (.dt T,.u),a6]) (ρ2:=[a0,a1,a2,a3,a4,some (.dt T,.l),a6]) im b (by rw [DB];exact d) rfl
theorem Dh {α:Type} (l:List α):q8 [.lst (l.map fun _=>L3.D.bl true)]=some (.bl true,.z):=by
 rw [xV (fun _:α=>true)]
 simp
theorem wV {f h:Nat->Nat->Int} {l m:List (Nat × Nat)} (a:l.length < 16777215) (ne:wC (.dt (tbl f l)) (.dt (tbl h m))=some (.bl false,.z)) {a0 a1 a2 a3 a4:Option (L3.D × Fl)} :
  ∃ K,ko [a0,a1,a2,a3,a4,some (.dt (tbl f l),.u),some (.dt (tbl h m),.z)]=some (.ok .nx,[a0,a1,a2,a3,a4,some (.dt K,.u),some (.dt (tbl h m),.z)]):=by
 have l1:=CI (f:=f) (l:=l) (by omega) (a0:=a0) (a1:=a1) (a2:=a2) (a3:=a3) (a4:=a4) (a6:=some (.dt (tbl h m),.z))
 have al:=Dh l
 have st:=By (i:=0) (j:=0) (d:=.int 9) (kvs:=tbl f l) (by rw [mw];omega)
 generalize tbl f l=T at *
 generalize tbl h m=U at *
 generalize (l.map fun _=>L3.D.bl true)=AA at *
 refine ⟨ff T (k2 0 0) (.int 9),?_⟩
 unfold ko
 apply ak (ρ1:=[a0,a1,a2,a3,a4,some (.dt T,.u),some (.dt U,.z)])
 ·exact eY (b:=false) (kD (b:=false) (hV (b:=true) (k7 (CT (bC rfl) rfl rfl) rfl)) rfl (kD (b:=false) (k7 (kE (bC rfl) (bC rfl) rfl rfl ne) rfl) rfl (hV (b:=true) (k7 (cS (bH l1 dW) rfl al) rfl)))) rfl rfl
 ·exact o0 (i:=5) (ρ1:=[a0,a1,a2,a3,a4,some (.dt T,.u),some (.dt U,.z)]) (ρ2:=[a0,a1,a2,a3,a4,some (.dt T,.u),some (.dt U,.z)]) (ρ3:=[a0,a1,a2,a3,a4,some (.dt T,.u),some (.dt U,.z)]) i_c rfl (by (nofun)) rfl rfl st
theorem CS {a b i:Nat} {ms:M3 (List R3)} {m:SM} {ρ ρ1 ρ2 ρ3:Sto} {d1 d2 c p2:L3.D} {f1 f2 fl:Fl} (h1:ms ρ=some (.ok [.val d1 f1,.val d2 f2],ρ1)) (h2:(ρ1[i]?).join=some (.lst [c,p2],fl)) (h3:mn a b i d1 f1 c m ρ1=some (.ok .nx,ρ2)) (d:mn a b i d2 f2 p2 m ρ2=some (.ok .nx,ρ3)) :
  n4 a b i ms m ρ=some (.ok .nx,ρ3):=by
 simp only [n4,ae,h1,h2,h3,d,znx,aJ]
theorem rg {m:SM} {a0 a1 a2 a4 b a6:Option (L3.D × Fl)} {X C a P:L3.D} (h:m [a0,a1,a2,some (X,.l),a4,some (C,.u),some (P,.z)]=some (.ok .nx,[a0,a1,a2,some (X,.l),a4,some (a,.u),some (P,.z)])) :
  mn 5 6 3 C .u P m [a0,a1,a2,some (X,.u),a4,b,a6]=some (.ok .nx,[a0,a1,a2,some (X,.u),a4,some (a,.u),some (P,.z)]):=by
 show (if 5 < 7/\6 < 7 then (m [a0,a1,a2,some (X,.l),a4,some (C,.u),some (P,.z)]).map _ else none)=_
 rw [if_pos (by decide),h]
 rfl
theorem BG {ps:List Pt} (g:GoodSh ps) (a:ps.length<=8):dF [(Shd ps,.z)]=some (.ok (.dt (tbl (bg (wv (sgn ps) (way true))) (pI ps.length ps.length)),.u),[(Shd ps,.z)]):=by
 have r:=vt (way:=way true) g a
 generalize tbl (bg (wv (sgn ps) (way true))) (pI ps.length ps.length)=T at *
 generalize Shd ps=H at *
 apply aS (ρ:=[some (H,.z)]) (ρ1:=[some (H,.z)]) rfl rfl
 ·unfold jy
  apply df
  ·nomatch [r]
  ·rfl
 ·rfl
theorem BD {ps:List Pt} (g:GoodSh ps) (a:ps.length<=8):dG [(Shd ps,.z)]=some (.ok (.dt (tbl (bg (wv (sgn ps) (way false))) (pI ps.length ps.length)),.u),[(Shd ps,.z)]):=by
 have r:=vt (way:=way false) g a
 generalize tbl (bg (wv (sgn ps) (way false))) (pI ps.length ps.length)=T at *
 generalize Shd ps=H at *
 apply aS (ρ:=[some (H,.z)]) (ρ1:=[some (H,.z)]) rfl rfl
 ·unfold jz
  apply df
  ·nomatch [r]
  ·rfl
 ·rfl
theorem CJ {ps:List Pt} (g:GoodSh ps) (a:ps.length<=8) {l1 l2:List (Nat × Nat)} {f1 f2:Nat->Nat->Int} (t1:Tld (rws ps true) l1 f1) (d:Tld (rws ps false) l2 f2) (a0 a1 a4 b a6:Option (L3.D × Fl)) :
  ∃ e h,iE [a0,a1,some (Shd ps,.z),some (.lst [.dt (tbl f1 l1),.dt (tbl f2 l2)],.u),a4,b,a6]=some (.ok .nx,[a0,a1,some (Shd ps,.z),some (.lst [.dt (tbl f1 l1),.dt (tbl f2 l2)],.u),a4,e,h]):=by
 have c:(pI ps.length ps.length).length < 16777215:=by
  have:=qk ps.length ps.length
  have:ps.length * ps.length<=8 * 8:=Nat.mul_le_mul a a
  lia
 obtain ⟨i,b1⟩:=wV c (wA t1) (a0:=a0) (a1:=a1) (a2:=some (Shd ps,.z)) (a3:=some (.lst [.dt (tbl f1 l1),.dt (tbl f2 l2)],.l)) (a4:=a4)
 obtain ⟨f,b2⟩:=wV c (wA d) (a0:=a0) (a1:=a1) (a2:=some (Shd ps,.z)) (a3:=some (.lst [.dt (tbl f1 l1),.dt (tbl f2 l2)],.l)) (a4:=a4)
 have c1:=BG g a
 have c2:=BD g a
 generalize tbl (bg (wv (sgn ps) (way true))) (pI ps.length ps.length)=T1 at *
 generalize tbl (bg (wv (sgn ps) (way false))) (pI ps.length ps.length)=T2 at *
 generalize tbl f1 l1=D1 at *
 generalize tbl f2 l2=D2 at *
 generalize Shd ps=H at *
 refine ⟨some (.dt f,.u),some (.dt D2,.z),?_⟩
 unfold iE
 refine CS (ρ1:=[a0,a1,some (H,.z),some (.lst [.dt D1,.dt D2],.u),a4,b,a6]) (d1:=.dt T1) (d2:=.dt T2) (f1:=.u) (f2:=.u) ?_ rfl (rg b1) (rg b2)
 nomatch [c1,c2]
theorem wU {ns:List Int} (i:Nat) (v2 c v4 a v6:Option (L3.D × Fl)):∃ x o t l n,iD [some (.fls (ns.map .int),.z),some (.int (i:Int),.z),v2,c,v4,a,v6]=some (.ok .nx,[some (.fls (ns.map .int),.z),some (.int (i:Int),.z),x,o,t,l,n]):=by
 obtain ⟨j,w⟩:=yT ns i
 obtain ⟨v,ps,es,g,y⟩:=tw j 7 (by decide) (by decide)
 have h:ps.length<=8:=by lia
 have es:d6 [(.lst [.int j],.u),(.int 7,.z)]=some (.ok (Shd ps,.z),[(.lst [.int v],.u),(.int 7,.z)]):=es
 obtain ⟨l1,f1,t1,d1⟩:=rB g h true
 obtain ⟨l2,f2,q,d2⟩:=rB g h false
 obtain ⟨ρ1,e1,a4,f,a6,rfl⟩:=bq (bnd:=aj 4) (b:=iE) (fun _ ρ=>∃ a4 f a6,ρ=[some (.fls (ns.map .int),.z),some (.int (i:Int),.z),some (Shd ps,.z),some (.lst [.dt (tbl f1 l1),.dt (tbl f2 l2)],.u),a4,f,a6]) (ds:=bc 0 2) (ρ:=[some (.fls (ns.map .int),.z),some (.int (i:Int),.z),some (Shd ps,.z),some (.lst [.dt (tbl f1 l1),.dt (tbl f2 l2)],.u),v4,a,v6]) (k:=0) ⟨v4,a,v6,rfl⟩ (by
  rintro m d ρ hd ⟨a4,f,a6,rfl⟩
  obtain ⟨l,n,e⟩:=CJ g h t1 q (some (.fls (ns.map .int),.z)) (some (.int (i:Int),.z)) (some (d,.z)) f a6
  exact ⟨_,_,rfl,.inl e,_,_,_,rfl⟩)
 generalize tbl f1 l1=D1 at *
 generalize tbl f2 l2=D2 at *
 generalize Shd ps=H at *
 refine ⟨some (H,.z),some (.lst [.dt D1,.dt D2],.u),a4,f,a6,?_⟩
 unfold iD
 apply ak (ρ1:=[some (.fls (ns.map .int),.z),some (.int (i:Int),.z),some (H,.z),c,v4,a,v6])
 ·nomatch [w,es]
 apply ak (ρ1:=[some (.fls (ns.map .int),.z),some (.int (i:Int),.z),some (H,.z),some (.lst [.dt D1,.dt D2],.u),v4,a,v6])
 ·have p:am eP (ad (af 2) (ad (mC (.bl true)) ai)) [some (.fls (ns.map .int),.z),some (.int (i:Int),.z),some (H,.z),c,v4,a,v6]=some (.ok (.val (.dt D1) .u),[some (.fls (ns.map .int),.z),some (.int (i:Int),.z),some (H,.z),c,v4,a,v6]):=by (nomatch [d1])
  have r:am eP (ad (af 2) (ad (mC (.bl false)) ai)) [some (.fls (ns.map .int),.z),some (.int (i:Int),.z),some (H,.z),c,v4,a,v6]=some (.ok (.val (.dt D2) .u),[some (.fls (ns.map .int),.z),some (.int (i:Int),.z),some (H,.z),c,v4,a,v6]):=by (nomatch [d2])
  (repeat' (first | with_reducible exact p | with_reducible exact r | infer_instance | eq_refl))
 ·have s:cn [.int 2]=some (bc 0 2):=rfl
  apply dX
  ·(repeat' (first | with_reducible apply dD (h3:=s) | infer_instance | eq_refl))
  ·rfl
  ·exact e1
theorem yR (ns:List Int) (n:ns.length<=63):A1 [(.fls (ns.map .int),.z)]=some (.ok (.bl true,.z),[(.fls (ns.map .int),.z)]):=by
 have f:∃ m:Nat,(if (if ((3:Int) < ((ns.map L3.D.int).length:Int)) then (3:Int) else ((ns.map L3.D.int).length:Int)) > 1 then (if ((3:Int) < ((ns.map L3.D.int).length:Int)) then (3:Int) else ((ns.map L3.D.int).length:Int)) else (1:Int))=(m:Int)/\m<=3:=by
  refine ⟨max 1 (min ns.length 3),?_,by lia⟩
  simp only [DB]
  split <;> split <;> lia
 obtain ⟨m,hm,g⟩:=f
 obtain ⟨ρ',e,v1,v2,a,v4,c,v6,rfl⟩:=bq (bnd:=aj 1) (b:=iD) (fun _ ρ=>∃ v1 v2 a v4 c v6,ρ=[some (.fls (ns.map .int),.z),v1,v2,a,v4,c,v6]) (ds:=bc 0 m) (ρ:=[some (.fls (ns.map .int),.z),none,none,none,none,none,none]) (k:=0) ⟨_,_,_,_,_,_,rfl⟩ (by
  rintro i d ρ hd ⟨v1,v2,a,v4,c,v6,rfl⟩
  obtain ⟨hi,rfl⟩:=cv hd
  rw [Int.zero_add]
  obtain ⟨p,j,q,l,o,e⟩:=wU (ns:=ns) i v2 a v4 c v6
  exact ⟨_,_,rfl,.inl e,_,_,_,_,_,_,rfl⟩)
 have h:cn [.int (if (if ((3:Int) < ((ns.map L3.D.int).length:Int)) then (3:Int) else ((ns.map L3.D.int).length:Int)) > 1 then (if ((3:Int) < ((ns.map L3.D.int).length:Int)) then (3:Int) else ((ns.map L3.D.int).length:Int)) else (1:Int))]=some (bc 0 m):=by
  rw [hm]
  exact dq (by lia) (by lia)
 apply aS (ρ:=[some (.fls (ns.map .int),.z),none,none,none,none,none,none]) rfl rfl
 ·apply ak
  ·apply dX
   ·(repeat' (first | with_reducible apply dD (h3:=h) | infer_instance | eq_refl))
   ·rfl
   ·exact e
  ·nofun
 ·rfl
end Bn
end
namespace Bn
open PySem L2 L3
theorem Di {l : PySem.W.OpenLaw} {w : World} {K : FG} {h : Heap} {mg : Str -> Option Value} {fa : Addr} (X : K.In h) (G : h.Ns mainGlobals mg) (ck : mg "law" = some (.ref fa)) (e : yP K = sj) :
  ∃ fd : FuncData, (∀ (s : Shared) (v : Value), BindsTo s fd ⟨[v], []⟩ [("_law_script", v)]) /\ ∀ base : Heap, K.In base -> base.Ns mainGlobals mg -> FnOk l.prog w K mg base CX0 9 fa fd ["_law_script"] (u3 K) := by
 have c : dsL.map (fun p => pe K p.1) = dsL.map (fun p => kI p.1 p.2) := congrArg (fun x => x.1) e
 have e1 : blL.map (PySem.W.nsIn K mainGlobals) = blL.map (fun _ => some none) := congrArg (fun x => x.2.1) e
 have e2 : ciL.map (fun p => mZ K p.1) = ciL.map (fun p => some p.2) := congrArg (fun x => x.2.2.1) e
 have e3 : csL.map (fun p => uZ K p.1) = csL.map (fun p => some p.2) := congrArg (fun x => x.2.2.2) e
 have B : Bl mg := ⟨bI X G e1 0 rfl, bI X G e1 1 rfl, bI X G e1 2 rfl, bI X G e1 3 rfl, bI X G e1 4 rfl, bI X G e1 5 rfl, bI X G e1 6 rfl, bI X G e1 7 rfl, bI X G e1 8 rfl, bI X G e1 9 rfl, bI X G e1 10 rfl, bI X G e1 11 rfl, bI X G e1 12 rfl, bI X G e1 13 rfl, bI X G e1 14 rfl, bI X G e1 15 rfl, bI X G e1 16 rfl, bI X G e1 17 rfl, bI X G e1 18 rfl, bI X G e1 19 rfl⟩
 have D0 : Def K mg "is_whole" eh := aL X G c 0 rfl
 have D1 : Def K mg "is_point" eA := aL X G c 1 rfl
 have D2 : Def K mg "are_points" cO := aL X G c 2 rfl
 have D3 : Def K mg "has_rising_x" bO := aL X G c 3 rfl
 have D4 : Def K mg "bend" mB := aL X G c 4 rfl
 have D5 : Def K mg "threes" ip := aL X G c 5 rfl
 have D6 : Def K mg "first_on_line" bE := aL X G c 6 rfl
 have D7 : Def K mg "is_sheet" en := aL X G c 7 rfl
 have D8 : Def K mg "check_sheet" cq := aL X G c 8 rfl
 have D9 : Def K mg "turn_at" fU := aL X G c 9 rfl
 have b5 : Def K mg "all_turns" dn := aL X G c 10 rfl
 have b3 : Def K mg "row_table" dj := aL X G c 11 rfl
 have ar : Def K mg "cup_table" dl := aL X G c 12 rfl
 have az : Def K mg "cap_table" dm := aL X G c 13 rfl
 have ab : Def K mg "_law_cell" iw := aL X G c 14 rfl
 have bb : Def K mg "_law_mix" jQ := aL X G c 15 rfl
 have cm : Def K mg "_law_box" jS := aL X G c 16 rfl
 have b6 : Def K mg "_law_take" iq := aL X G c 17 rfl
 have b4 : Def K mg "_law_whole" fV := aL X G c 18 rfl
 have ax : Def K mg "_law_bend" iy := aL X G c 19 rfl
 have Z : Def K mg "_law_free" iu := aL X G c 20 rfl
 have Y : Def K mg "_law_sheet" fW := aL X G c 21 rfl
 have be : Def K mg "_law_up" mz := aL X G c 22 rfl
 have b8 : Def K mg "_law_rising" eg := aL X G c 23 rfl
 have b0 : Def K mg "_law_bends" fY := aL X G c 24 rfl
 have a5 : Def K mg "_law_parts" fX := aL X G c 25 rfl
 have b7 : Def K mg "_law_rows" ir := aL X G c 26 rfl
 have a8 : Def K mg "_law_due" jR := aL X G c 27 rfl
 obtain ⟨f, fd, F0, hf⟩ : Def K mg "law" fv := aL X G c 28 rfl
 cases ck.symm.trans hf
 have F := F0
 obtain ⟨oc, od, kV, doc, pm, an, V, ct, c4, ef, lk, c5⟩ := F0.ex
 subst ef
 obtain ⟨c3, Q0⟩ := qF X G e2 0 (n := "MOST_POINTS") (v := 24) rfl
 obtain ⟨dc, Q1⟩ := qF X G e2 1 (n := "UP") (v := 1) rfl
 obtain ⟨c0, Q2⟩ := qF X G e2 2 (n := "DOWN") (v := -1) rfl
 refine ⟨PySem.W.fnOf "law" "law" (aP fv) (aH fv) (ag fv) .none kV doc pm an V ct, fun s v => .of_eq rfl, fun base _ _ => ?_⟩
 have J := nq (P := l.prog) (w := w) (base := base) B D0
 have R := nw (P := l.prog) (w := w) (base := base) B D1 J
 have m := kQ (P := l.prog) (w := w) (base := base) B D2 R Q0
 have i := jj (P := l.prog) (w := w) (base := base) B D3
 have U := xP (P := l.prog) (w := w) (base := base) B D4
 have t := qP (P := l.prog) (w := w) (base := base) B D5
 have g := iL (P := l.prog) (w := w) (base := base) B D6 U t
 have N := nt (P := l.prog) (w := w) (base := base) B D7 m g i
 have j := jP (P := l.prog) (w := w) (base := base) B D8 N
 have S := pE (P := l.prog) (w := w) (base := base) B D9 U
 have u := lj (P := l.prog) (w := w) (base := base) B b5 j t S
 have b := lf (P := l.prog) (w := w) (base := base) B b3 u
 have I := lg (P := l.prog) (w := w) (base := base) B ar b Q1
 have y := lh (P := l.prog) (w := w) (base := base) B az b Q2
 have z := qT (P := l.prog) (w := w) (base := base) B ab
 have O := uC (P := l.prog) (w := w) (base := base) B bb
 have M := uE (P := l.prog) (w := w) (base := base) B cm z O
 have D := qQ (P := l.prog) (w := w) (base := base) B b6
 have a := pF (P := l.prog) (w := w) (base := base) B b4
 have d := qU (P := l.prog) (w := w) (base := base) B ax
 have C := qS (P := l.prog) (w := w) (base := base) B Z d
 have r := pG (P := l.prog) (w := w) (base := base) B Y C D
 have T := xO (P := l.prog) (w := w) (base := base) B be d
 have k := nk (P := l.prog) (w := w) (base := base) B b8 a
 have o := pJ (P := l.prog) (w := w) (base := base) B b0 k T
 have q := pH (P := l.prog) (w := w) (base := base) B a5
 have A := qR (P := l.prog) (w := w) (base := base) B b7 o q
 have L := uD (P := l.prog) (w := w) (base := base) B a8 A
 exact FnOk.imp (Ai (P := l.prog) (w := w) (base := base) B F M L r a y I) fun vs H Q E h => z5 (fun ns hn => ⟨_, yR ns hn⟩) h
theorem walkL : PySem.W.WalkO viL loL (fun _ _ => True) (fun _ h => ∃ K : FG, K.In h /\ yP K = sj) PySem.Challenge.rw_bentrows_k09_tables.row.toRowW ⟨"law", aP fv, aH fv, ag fv, stPos fv⟩ [] (fun f c => PySem.call f c) :=
 L2.walk_ofS (l := PySem.Challenge.rw_bentrows_k09_tables) (n := 63) (k := 9) (x := "_law_script") (S := fun K => yP K = sj) (CX := CX0) (sp := u3) rfl (by decide) rfl ⟨rfl, by decide, by decide, rfl⟩ (fun _ _ z => z) (fun _ _ _ _ _ e X G hm => Di X G hm e) (fun _ _ a ns g d b => ⟨a, ns, rfl, b, d, g, fun _ => rfl⟩) fun _ _ _ _ z => z
end Bn
open PySem PySem.W PyProof.Rows
set_option maxRecDepth 100000 in
set_option maxHeartbeats 0 in
theorem PySem.Challenge.cw_bentrows_k09_tables_holds : PySem.Challenge.rw_bentrows_k09_tables.Holds :=
 holds_law Bn.okL fun said => holds_open (r := PySem.Challenge.rw_bentrows_k09_tables.row) Bn.leftL (fun _ _ e => ⟨_, L2.fragAt_in _, e⟩) (fun _ _ _ ⟨K, X, e⟩ k => ⟨K, X.keeps k, e⟩) (fun _ _ => trivial) (fun _ _ _ _ _ => trivial) (by kernel_rfl) (by kernel_rfl) (by kernel_rfl) (fun s e => recFacts_of e) (by rfl) said (by kernel_rfl) ⟨rfl, rfl, rfl, rfl, rfl, by decide +kernel⟩ ⟨[.list []], by decide +kernel, by decide +kernel⟩ Bn.walkL
