import PyProof.Rows.All
import Wide.All
import OpenK.AllK
import Wide.FinOn
import Lean
import PyProof.EqAt
import PyProof.EqKinds
import PyProof.TupleCall
import PyProof.P3Eq
import PyProof.NeData
import PyProof.ListRange
import PyProof.Rows.CallKwBuiltin
import PyProof.Rows.Range3
import PyProof.DictWalks
import PyProof.MinMaxWalk
import PyProof.WalkInts
import PyProof.Walk
import PyProof.WalkLemmas
import PyProof.RulesTry
import PyProof.ZipIter
import PyProof.AttrMissHeap
import PyProof.FactsAll.zip
import PyProof.DictUpdate
import KE.KDictOf
import PySem.Challenge.RW_bentrows_k58_whole_signs_tell_all
set_option tactic.hygienic false
set_option genSizeOf false
set_option Elab.async false
set_option linter.all false
set_option maxRecDepth 100000
set_option maxHeartbeats 4000000
section
abbrev FG:=PySem.W.Frag
open PySem PySem.Spec PyProof.Rows
abbrev C2:=@wpAny_bind
abbrev C3:=@wpAny_pure
abbrev C4:=@wpAny_holding
abbrev C5:=@List.mem_cons_self
abbrev C6:=@List.mem_cons_of_mem
abbrev C7:=@Heap.get?_push_of_some
abbrev C8:=@Option.map_eq_some_iff
abbrev C9:=@List.mem_append_left
abbrev Da:=@List.mem_append_right
abbrev Db:=@List.mem_cons
abbrev Dc:=@List.getElem?_eq_getElem
abbrev Dd:=@Heap.lt_size
abbrev De:=@List.mem_append
abbrev Df:=@Heap.get?_push_size
abbrev Dg:=@List.length_map
abbrev Dh:=@List.getElem?_eq_some_iff
abbrev Di:=@List.mem_of_getElem?
abbrev Dj:=@List.sublist_append_right
abbrev Dk:=@List.mem_map
abbrev Dl:=@List.getElem?_map
abbrev Dm:=@Nat.le_refl
abbrev Dn:=@Bool.false_ne_true
abbrev Do:=@Nat.ne_of_lt
abbrev Dp:=@List.size_toArray
abbrev Dq:=@List.map_cons
abbrev Dr:=@decide_eq_true
abbrev Ds:=@decide_eq_false
abbrev Dt:=@Nat.lt_of_lt_of_le
abbrev Du:=@Nat.zero_add
abbrev Dv:=@Heap.get?_update_self
abbrev Dw:=@List.length_append
abbrev Dx:=@List.length_cons
abbrev Dy:=@List.length_take
abbrev Dz:=@Option.map_some
abbrev DA:=@Option.bind_eq_some_iff
abbrev DB:=@List.mem_singleton
abbrev DC:=@Bool.false_eq_true
abbrev DD:=@List.mem_filter
abbrev DE:=@List.getElem?_append_left
abbrev DF:=@Heap.get?_update_other
abbrev DG:=@Heap.size_push
abbrev DH:=@wpAny_truthy_bool
abbrev DI:=@Nat.le_trans
abbrev DJ:=@List.take_of_length_le
abbrev DK:=@List.filter_eq_self
abbrev DL:=@List.mem_flatMap
abbrev DM:=@List.map_map
abbrev DN:=@List.map_congr_left
abbrev DO:=@Option.some.inj
end
section
namespace L2
open PySem
noncomputable def bT (s : Stmt) : Arguments := match s with
  | .FunctionDef _ a _ _ _ _ _ _ _ _ => a
  | _ => { posonlyargs := [], args := [], vararg := none, kwonlyargs := [], kw_defaults := [], kwarg := none, defaults := [] }
noncomputable def bq (s : Stmt) : List Stmt := match s with
  | .FunctionDef _ _ b _ _ _ _ _ _ _ => b
  | _ => []
noncomputable def aj (s : Stmt) : Scope := match s with
  | .FunctionDef _ _ _ _ _ _ sc _ _ _ => sc
  | _ => { kind := .function, names := [], isGenerator := false, isCoroutine := false }
noncomputable def ye (h : Heap) : FG := (List.range h.objs.size).filterMap fun a => (h.get? a).map fun o => (a, o)
noncomputable def refIn (K : FG) (n : Str) : Addr := match PySem.W.nsIn K mainGlobals n with
  | some (some (.ref f)) => f
  | _ => 0
noncomputable abbrev pM := Str × Str × Arguments × FuncBody × Scope × Addr × List (Str × Addr) × Value × Addr × Bool
noncomputable def qO (K : FG) (n : Str) : Option pM := match PySem.W.nsIn K mainGlobals n with
  | some (some (.ref f)) => (match K.lookup f with
    | some ⟨_, _, .func fd, _⟩ => some (fd.name, fd.qualname, fd.params, fd.body, fd.scope, fd.globals, fd.closure, fd.defaults, fd.builtins, PySem.W.codeIn K fd.code n)
    | _ => none)
  | _ => none
noncomputable def mO (n : Str) (st : Stmt) : Option pM := some (n, n, bT st, .stmts (bq st), aj st, mainGlobals, [], .none, builtinsNs, true)
noncomputable def pg (K : FG) (n : Str) : Option Int := match PySem.W.nsIn K mainGlobals n with
  | some (some (.int v _)) => some v
  | _ => none
noncomputable def wz (K : FG) (n : Str) : Option Str := match PySem.W.nsIn K mainGlobals n with
  | some (some (.str v _)) => some v
  | _ => none
open PySem.W PyProof.Rows in
theorem vv {p q : Program} {loose : List Str} {Xt : Shared → Bool} {α : Type} {Yf : Shared → α} {Ya : World → α} {N m : Nat} {ann : Option Value}
    (e : opening p = plainProg p.main.scope.names) (hN : Nat.ble 600 N = true) (f : ∀ s, fenceModules? p s = some s)
    (sz : ∀ w : World, ((boot_heap w.params).isNs mainGlobals && (Array.mk [] : Array GenState).size == 0, (boot_heap w.params).objs.size, (boot_heap w.params).nsMap mainGlobals "__annotations__") = (true, m, ann))
    (go : ∀ (w : World) (os : OsState), (PySem.W.Fast.tw14082659384304107361 PySem.W.Fast.tw14364793385576792824 p w m ann N ⟨boot_heap w.params, Array.mk [], boot_drawn, boot_toks, os⟩ (topStub p)).map (fun s => ((staticsOk (importedModules p.main.body) (boot_heap w.params) s.heap && namesBound p s.heap && gensDone s && laidKept (boot_heap w.params) s.heap), PySem.W.Fast.tw4187177175401517315 q loose (importedModules p.main.body) Xt true s, Yf s)) = some (true, openGood q loose, Ya w)) : LeftO p q loose Xt Yf Ya N := fun w => by
  obtain ⟨⟨hp, gn, dr, tk, os⟩, ea, eb⟩ := C8.mp (boot_open e hN f w)
  obtain ⟨rfl, rfl, rfl, rfl⟩ : hp = boot_heap w.params ∧ gn = Array.mk [] ∧ dr = boot_drawn ∧ tk = boot_toks := by simpa using eb
  have sw := sz w
  have rw0 := go w os
  rw [← PySem.W.Fast.te14082659384304107361, ← PySem.W.Fast.te14364793385576792824, ← PySem.W.Fast.te4187177175401517315] at rw0
  simp only [Prod.mk.injEq] at sw
  obtain ⟨s, ec, ed⟩ := C8.mp rw0
  simp only [Prod.mk.injEq] at ed
  have tt : topFrom treeTable p w N ⟨boot_heap w.params, Array.mk [], boot_drawn, boot_toks, os⟩ = some s := by
    unfold topFrom
    dsimp only
    rw [sw.1, sw.2.1, sw.2.2, ec]
    change (match staticsOk (importedModules p.main.body) (boot_heap w.params) s.heap && namesBound p s.heap && gensDone s && laidKept (boot_heap w.params) s.heap with | true => some s | false => none) = some s
    rw [ed.1]
  unfold openEnds
  rw [ea]
  change Option.map _ (topFrom treeTable p w N _) = _
  rw [tt]
  exact congrArg some (Prod.ext ed.2.1 ed.2.2)
theorem uQ {l : PySem.W.OpenLaw} (h : PySem.W.Fast.tw9446332074065402090 l = true) : l.wellSaid = true := by rw [← PySem.W.Fast.te9446332074065402090] at h; exact h
end L2
namespace Bn
open PySem L2
noncomputable def top (i : Nat) : Stmt := PySem.Challenge.pw_bentrows_k58_whole_signs_tell_all.main.body.getD i (.Pass ⟨0, 0, 0, 0⟩)
noncomputable abbrev gO : Stmt := top 6
noncomputable abbrev gQ : Stmt := top 7
noncomputable abbrev gR : Stmt := top 8
noncomputable abbrev b6 : Stmt := top 9
noncomputable abbrev eK : Stmt := top 10
noncomputable abbrev dG : Stmt := top 11
noncomputable abbrev fi : Stmt := top 14
noncomputable abbrev dE : Stmt := top 15
noncomputable abbrev oI : Stmt := top 16
noncomputable abbrev jQ : Stmt := top 17
noncomputable abbrev lC : Stmt := top 18
noncomputable abbrev de : Stmt := top 19
noncomputable abbrev gP : Stmt := top 20
noncomputable abbrev eM : Stmt := top 21
noncomputable abbrev jf : Stmt := top 22
noncomputable abbrev fX : Stmt := top 23
noncomputable abbrev eG : Stmt := top 24
noncomputable abbrev jg : Stmt := top 25
noncomputable abbrev fV : Stmt := top 29
noncomputable abbrev dD : Stmt := top 30
noncomputable abbrev eI : Stmt := top 31
noncomputable abbrev eJ : Stmt := top 32
noncomputable abbrev gN : Stmt := top 35
noncomputable abbrev fh : Stmt := top 36
noncomputable abbrev jj : Stmt := top 37
noncomputable abbrev ji : Stmt := top 39
noncomputable abbrev cN : Stmt := top 40
noncomputable abbrev bS : Stmt := top 41
noncomputable abbrev dH : Stmt := top 42
noncomputable abbrev fW : Stmt := top 43
noncomputable abbrev eL : Stmt := top 44
noncomputable abbrev gM : Stmt := top 45
noncomputable abbrev dF : Stmt := top 46
noncomputable abbrev cj : Stmt := top 47
noncomputable abbrev lB : Stmt := top 49
noncomputable abbrev jR : Stmt := top 50
noncomputable abbrev jT : Stmt := top 51
noncomputable abbrev jS : Stmt := top 52
noncomputable abbrev jh : Stmt := top 53
noncomputable abbrev iI : Stmt := top 54
noncomputable abbrev dsL : List (Str × Stmt) := [(("is_whole" : Str), gO), (("is_point" : Str), gQ), (("is_place" : Str), gR), (("are_rising_places" : Str), b6), (("check_whole" : Str), eK), (("check_number" : Str), dG), (("are_points" : Str), fi), (("has_rising_x" : Str), dE), (("bend" : Str), oI), (("threes" : Str), jQ), (("fours" : Str), lC), (("first_on_line" : Str), de), (("is_sheet" : Str), gP), (("check_sheet" : Str), eM), (("turn_at" : Str), jf), (("all_turns" : Str), fX), (("turned_over" : Str), eG), (("sheared" : Str), jg), (("row_bends" : Str), fV), (("onward_table" : Str), dD), (("longest_row" : Str), eI), (("longest_cup" : Str), eJ), (("side_row" : Str), gN), (("is_ring_by" : Str), fh), (("is_ring" : Str), jj), (("is_sign" : Str), ji), (("turns_by_signs" : Str), cN), (("change_once_at_most" : Str), bS), (("are_signs_of" : Str), dH), (("are_signs" : Str), fW), (("check_signs" : Str), eL), (("signs_of" : Str), gM), (("cup_by_signs" : Str), dF), (("is_ring_by_signs" : Str), cj), (("_law_box" : Str), lB), (("_law_take" : Str), jR), (("_law_bend" : Str), jT), (("_law_free" : Str), jS), (("_law_sheet" : Str), jh), (("law" : Str), iI)]
noncomputable abbrev blL : List Str := [("len" : Str), ("range" : Str), ("abs" : Str), ("divmod" : Str), ("enumerate" : Str), ("tuple" : Str), ("isinstance" : Str), ("int" : Str), ("bool" : Str), ("all" : Str), ("str" : Str), ("max" : Str), ("min" : Str), ("list" : Str), ("dict" : Str), ("repr" : Str), ("sorted" : Str), ("set" : Str), ("zip" : Str), ("reversed" : Str)]
noncomputable abbrev ciL : List (Str × Int) := [(("MOST_POINTS" : Str), (24 : Int)), (("UP" : Str), (1 : Int)), (("DOWN" : Str), (-1 : Int)), (("LEAST_CORNERS" : Str), (3 : Int))]
noncomputable abbrev csL : List (Str × Str) := []
noncomputable def zd (K : FG) : List (Option pM) × List (Option (Option Value)) × List (Option Int) × List (Option Str) := (dsL.map (fun p => qO K p.1), blL.map (PySem.W.nsIn K mainGlobals), ciL.map (fun p => pg K p.1), csL.map (fun p => wz K p.1))
noncomputable def ue : List (Option pM) × List (Option (Option Value)) × List (Option Int) × List (Option Str) := (dsL.map (fun p => mO p.1 p.2), blL.map (fun _ => some none), ciL.map (fun p => some p.2), csL.map (fun p => some p.2))
theorem okL : PySem.Challenge.rw_bentrows_k58_whole_signs_tell_all.wellSaid = true := uQ (by kernel_rfl)
noncomputable abbrev loL : List Str := [("BentError" : Str), ("NoSheet" : Str), ("NoNumber" : Str), ("NoSigns" : Str), ("is_whole" : Str), ("is_point" : Str), ("is_place" : Str), ("are_rising_places" : Str), ("check_whole" : Str), ("check_number" : Str), ("MOST_POINTS" : Str), ("are_points" : Str), ("has_rising_x" : Str), ("bend" : Str), ("threes" : Str), ("fours" : Str), ("first_on_line" : Str), ("is_sheet" : Str), ("check_sheet" : Str), ("turn_at" : Str), ("all_turns" : Str), ("turned_over" : Str), ("sheared" : Str), ("UP" : Str), ("DOWN" : Str), ("row_bends" : Str), ("onward_table" : Str), ("longest_row" : Str), ("longest_cup" : Str), ("LEAST_CORNERS" : Str), ("side_row" : Str), ("is_ring_by" : Str), ("is_ring" : Str), ("is_sign" : Str), ("turns_by_signs" : Str), ("change_once_at_most" : Str), ("are_signs_of" : Str), ("are_signs" : Str), ("check_signs" : Str), ("signs_of" : Str), ("cup_by_signs" : Str), ("is_ring_by_signs" : Str), ("_law_box" : Str), ("_law_take" : Str), ("_law_bend" : Str), ("_law_free" : Str), ("_law_sheet" : Str)]
noncomputable abbrev viL : Program := PySem.W.view PySem.Challenge.rw_bentrows_k58_whole_signs_tell_all.row.prog [54]
theorem leftL : PySem.W.LeftO PySem.Challenge.rw_bentrows_k58_whole_signs_tell_all.row.prog viL loL (fun s => PySem.W.recOk (PySem.W.RowW.records PySem.Challenge.rw_bentrows_k58_whole_signs_tell_all.row.toRowW) s) (fun s => zd (ye s.heap)) (fun _ => ue) 40000 :=
  vv (m := 11) (ann := some (.ref 6)) (by kernel_rfl) rfl (fun _ => rfl) (fun w => by kernel_rfl) (fun w os => by kernel_rfl)
end Bn
end
section
namespace L2
open PySem PySem.Spec PyProof.Rows
noncomputable abbrev Key:=Sum Int Str
noncomputable def n9:Key->Value->Bool
  | .inl k,v=>Value.isInt k v
  | .inr x,v=>Value.isStrOf x v
noncomputable def keyH (w:World):Key->Int
  | .inl k=>hashInt k
  | .inr x=>hashStr w x
theorem bY:∀ {k:Key} {v:Value},n9 k v=true->(∃ i t,k=Sum.inl i/\v=Value.int i t)\/(∃ x t,k=Sum.inr x/\v=Value.str x t)
  | .inl i,v,h=>by
    obtain ⟨t,e⟩:=Value.isInt_shape (k:=i) (v:=v) h
    exact .inl ⟨i,t,rfl,e⟩
  | .inr x,v,h=>by
    obtain ⟨t,e⟩:=Value.isStrOf_shape (x:=x) (v:=v) h
    exact .inr ⟨x,t,rfl,e⟩
theorem vz (i:Int) (t:Tok):n9 (.inl i) (.int i t)=true:=by simp [n9,Value.isInt]
theorem vy (x:Str) (t:Tok):n9 (.inr x) (.str x t)=true:=by simp [n9,Value.isStrOf]
theorem Cv (a b:Int):decide ((Sum.inl a:Key)=Sum.inl b)=(a == b):=by
  by_cases e:a=b
  · subst e;simp
  · have h:¬ (Sum.inl a:Key)=Sum.inl b:=fun q=>e (Sum.inl.inj q)
    rw [Ds h]
    exact (beq_eq_false_iff_ne.mpr e).symm
theorem Cs (a b:Str):decide ((Sum.inr a:Key)=Sum.inr b)=decide (a=b):=by
  by_cases e:a=b
  · subst e;simp
  · have h:¬ (Sum.inr a:Key)=Sum.inr b:=fun q=>e (Sum.inr.inj q)
    rw [Ds h,Ds e]
theorem Cu (a:Int) (b:Str):decide ((Sum.inl a:Key)=Sum.inr b)=false:=Ds (fun q=>nomatch q)
theorem Ct (a:Str) (b:Int):decide ((Sum.inr a:Key)=Sum.inl b)=false:=Ds (fun q=>nomatch q)
noncomputable def bH (prog:Program) (w:World):PySem.KeyKind prog w Key where
  is:=n9
  hash:=keyH w
  inj:=fun v a b ha hb=>by
    rcases bY ha with ⟨i,t,rfl,rfl⟩ | ⟨x,t,rfl,rfl⟩
    · rcases bY hb with ⟨j,u,rfl,e⟩ | ⟨y,u,rfl,e⟩
      · injection e with e1 _;rw [e1]
      · exact nomatch e
    · rcases bY hb with ⟨j,u,rfl,e⟩ | ⟨y,u,rfl,e⟩
      · exact nomatch e
      · injection e with e1 _;rw [e1]
  byValue:=fun k v h=>by
    rcases bY h with ⟨i,t,rfl,rfl⟩ | ⟨x,t,rfl,rfl⟩ <;> rfl
  pyHash:=fun hv h=>by
    rcases bY hv with ⟨i,t,rfl,rfl⟩ | ⟨x,t,rfl,rfl⟩
    · exact wpAny_pyHash_int h
    · exact wpAny_pyHash_str h
  eqBool:=fun hu hv h=>by
    rcases bY hu with ⟨i,t,rfl,rfl⟩ | ⟨x,t,rfl,rfl⟩
    · rcases bY hv with ⟨j,u,rfl,rfl⟩ | ⟨y,u,rfl,rfl⟩
      · rw [Cv] at h;exact wpAny_eqBool_int h
      · rw [Cu] at h;exact SeqAt.EqAt.int_str i t y u _ _ _ _ h
    · rcases bY hv with ⟨j,u,rfl,rfl⟩ | ⟨y,u,rfl,rfl⟩
      · rw [Ct] at h;exact SeqAt.EqAt.str_int x t j u _ _ _ _ h
      · rw [Cs] at h;exact wpAny_eqBool_str h
  «strs»:=fun k x t v h=>by
    rcases bY h with ⟨i,u,rfl,e⟩ | ⟨y,u,rfl,e⟩
    · exact nomatch e
    · injection e with e1 _
      subst e1
      cases v <;> rfl
theorem qA (prog:Program) (w:World) (i:Int) (t:Tok):(bH prog w).is (.inl i) (.int i t)=true:=vz i t
theorem qz (prog:Program) (w:World) (x:Str) (t:Tok):(bH prog w).is (.inr x) (.str x t)=true:=vy x t
end L2
namespace L2
open PySem PySem.Spec PyProof.Rows
inductive V where
  | non | bl (b:Bool) | int (i:Int) | str (x:Str) | byt (b:Array UInt8) | flt (b:UInt64) | ref (a:Addr) | ty (n:String)
  deriving DecidableEq
noncomputable def RelV:V->Value->Prop
  | .non,u=>u=Value.none
  | .bl b,u=>u=Value.bool b
  | .int i,u=>∃ t,u=Value.int i t
  | .str x,u=>∃ t,u=Value.str x t
  | .byt b,u=>∃ t,u=Value.bytes b t
  | .flt b,u=>∃ t,u=Value.float b t
  | .ref a,u=>u=Value.ref a
  | .ty n,u=>u=Value.type n
noncomputable abbrev Vals:List V->List Value->Prop:=Paired RelV
theorem Vals.length {xs:List V} {us:List Value} (r:Vals xs us):xs.length=us.length:=Paired.length r
theorem Vals.get:∀ {xs:List V} {us:List Value} {i:Nat} {x:V},Vals xs us->xs[i]?=some x->∃ u,us[i]?=some u/\RelV x u
  | _,_,_,_,.nil,e=>by simp at e
  | _,_,0,_,.cons r _,e=>by simp at e;subst e;exact ⟨_,rfl,r⟩
  | _,_,i+1,x,.cons _ t,e=>by
    obtain ⟨u,h1,h2⟩:=Vals.get (i:=i) (x:=x) t (by simpa using e)
    exact ⟨u,by simpa using h1,h2⟩
theorem Vals.set {x:V} {u:Value} (r:RelV x u):∀ {xs:List V} {us:List Value} (i:Nat),Vals xs us->Vals (xs.set i x) (us.set i u)
  | _,_,_,.nil=>.nil
  | _,_,0,.cons _ t=>.cons r t
  | _,_,i+1,.cons q t=>.cons q (Vals.set r i t)
theorem Vals.append:∀ {xs ys:List V} {us ws:List Value},Vals xs us->Vals ys ws->Vals (xs ++ ys) (us ++ ws)
  | _,_,_,_,.nil,s=>s
  | _,_,_,_,.cons r t,s=>.cons r (Vals.append t s)
theorem Vals.take:∀ {xs:List V} {us:List Value} (n:Nat),Vals xs us->Vals (xs.take n) (us.take n)
  | _,_,0,_=>.nil
  | _,_,_+1,.nil=>.nil
  | _,_,n+1,.cons r t=>.cons r (Vals.take n t)
theorem Vals.drop:∀ {xs:List V} {us:List Value} (n:Nat),Vals xs us->Vals (xs.drop n) (us.drop n)
  | _,_,0,r=>r
  | _,_,_+1,.nil=>.nil
  | _,_,n+1,.cons _ t=>Vals.drop n t
noncomputable def RelO:Option V->Option Value->Prop
  | some v,some u=>RelV v u
  | none,none=>True
  | _,_=>False
noncomputable def KV {κ:Type}:List (κ × V)->List (κ × Value)->Prop:=Paired fun (p:κ × V) (q:κ × Value)=>p.1=q.1/\RelV p.2 q.2
noncomputable def kV:Key->V
  | .inl i=>.int i
  | .inr x=>.str x
inductive HO where
  | lst (xs:List V)
  | tup (xs:List V)
  | dK (kvs:List (Key × V)) | dT (kvs:List (List Key × V))
  | set (S:Int->Bool) (n:Nat)
  | ins (C dx:Addr) (fs:List (Str × V))
  | own (x:Addr)
  | xd (fs:List (Str × V))
  | met (f x:Addr)
  | rng (lo hi:Int)
  | frz (o:Obj) (u:HO)
  | tbl (ps:Array Value)
  | ext (φ:Heap->Prop)
noncomputable abbrev Hp:=Addr->Option HO
noncomputable def upd (H:Hp) (a:Addr) (o:HO):Hp:=fun b=>if b=a then some o else H b
theorem bC {H:Hp} {a:Addr} {o:HO}:upd H a o a=some o:=by unfold upd;rw [if_pos rfl]
theorem aR {H:Hp} {a b:Addr} {o:HO} (h:b ≠ a):upd H a o b=H b:=by unfold upd;rw [if_neg h]
theorem ne_of {H:Hp} {a b:Addr} {o u:HO} (h:H a=some o) (h':H b=some u) (d:o ≠ u):a ≠ b:=by
  intro e;subst e;rw [h] at h';exact d (DO h')
theorem bP {H:Hp} {a b:Addr} {o:HO} (h:H a=some o) (h':H b=none):a ≠ b:=by
  intro e;subst e;rw [h] at h';cases h'
noncomputable def DictOfE {prog:Program} {w:World} {κ:Type} [DecidableEq κ] (knd:KeyKind prog w κ) (h:Heap) (a:Addr) (kvs:List (κ × Value)):Prop :=
  ∃ o es ep,h.get? a=some o/\o.ExactDict/\o.data=.dict es ep/\KeysOf knd es/\Pairs knd es.toList kvs/\(kvs.map (·.1)).Nodup/\ep=es.size
theorem DictOfE.of {prog:Program} {w:World} {κ:Type} [DecidableEq κ] {knd:KeyKind prog w κ} {h:Heap} {a:Addr} {kvs:List (κ × Value)} (x:DictOfE knd h a kvs):h.DictOf knd a kvs:=let ⟨o,es,ep,h1,h2,h3,h4,h5,h6,_⟩:=x;⟨o,es,ep,h1,h2,h3,h4,h5,h6⟩
noncomputable def IsTupD (h:Heap) (a:Addr) (items:Array Value):Prop:=∃ o,h.get? a=some o/\o.cls=.type "tuple"/\∃ n,(o.data,o.dict)=(Data.seq items n,none)
theorem IsTupD.tup {h:Heap} {a:Addr} {items:Array Value} (x:IsTupD h a items):IsTup h a items:=let ⟨o,e,c,n,d⟩:=x;⟨o,e,c,n,congrArg Prod.fst d⟩
theorem IsTupD.lt {h:Heap} {a:Addr} {items:Array Value} (x:IsTupD h a items):a < h.objs.size:=x.tup.lt
theorem IsTupD.new (h:Heap) (items:Array Value):IsTupD (h.push { cls:=.type "tuple",data:=.seq items }) h.objs.size items:=⟨_,Df h rfl,rfl,_,rfl⟩
section
variable (P:Program) (w:World)
noncomputable def ObjOk (H:Hp) (h:Heap) (a:Addr):HO->Prop
  | .lst xs=>xs.length<=sizeLine/\∃ (its:List Value) (n:Nat),Vals xs its/\h.get? a=some { cls:=.type "list",data:=.seq its.toArray n }
  | .tup xs=>xs.length<=sizeLine/\∃ its:List Value,Vals xs its/\IsTupD h a its.toArray
  | .dK kvs=>kvs.length<=sizeLine/\(a == sysModules)=false/\∃ vs,KV kvs vs/\DictOfE (bH P w) h a vs
  | .dT kvs=>kvs.length<=sizeLine/\(a == sysModules)=false/\∃ xs:List (List Key × Addr × Value),
      Paired (fun (p:List Key × V) (q:List Key × Addr × Value)=>p.1=q.1/\H q.2.1=some (.tup (p.1.map kV))/\RelV p.2 q.2.2) kvs xs /\
      ∃ o es ep,h.get? a=some o/\o.ExactDict/\o.data=.dict es ep/\es.toList=xs.map (entryOfKey (tupleKind (bH P w)))/\(xs.map (·.1)).Nodup/\ep=es.size
  | .set S n=>h.SetOf (intKind P w) a S n
  | .ins C dx fs=>H dx=some (.own a)/\fs.length<=1000/\dx ≠ a/\h.get? a=some (PySem.W.instObj C dx) /\
      ∃ mA,h.Ns1 dx mA/\(∀ f,RelO (fs.lookup f) (mA f))/\PySem.Within mA (fs.map (·.1))
  | .own _=>∃ o,h.get? a=some o
  | .xd fs=>∃ mA,h.Ns1 a mA/\∀ f,RelO (fs.lookup f) (mA f)
  | .rng lo hi=>∃ t u v,h.get? a=some { cls:=.type "range",data:=.fields #[.int lo t,.int hi u,.int 1 v] }
  | .frz o u=>h.get? a=some o/\ObjOk H h a u
  | .tbl ps=>h.get? a=some { cls:=.none,data:=.fields ps }
  | .met f x=>h.get? a=some (PySem.W.methodObj (.ref f) (.ref x))
  | .ext φ=>φ h/\(∃ o,h.get? a=some o)/\∀ h1 h2:Heap,φ h1->(∀ o,h1.get? a=some o->h2.get? a=some o)->φ h2
noncomputable def HOk (H:Hp) (h:Heap):Prop:=∀ a o,H a=some o->ObjOk P w H h a o
end
section
variable {P:Program} {w:World} {H H':Hp} {h h':Heap} {a:Addr} {o:HO}
theorem ObjOk.lt (x:ObjOk P w H h a o):a < h.objs.size:=by
  cases o with
  | lst xs=>obtain ⟨_,_,_,_,e⟩:=x;exact Dd e
  | tup xs=>obtain ⟨_,_,_,p⟩:=x;exact p.lt
  | dK kvs=>obtain ⟨_,_,_,_,o,_,_,e,_⟩:=x;exact Dd e
  | dT kvs=>obtain ⟨_,_,_,_,o,_,_,e,_⟩:=x;exact Dd e
  | set S n=>obtain ⟨o,_,_,_,e,_⟩:=x;exact Dd e
  | ins C dx fs=>obtain ⟨_,_,_,e,_⟩:=x;exact Dd e
  | own y=>obtain ⟨_,e⟩:=x;exact Dd e
  | xd fs=>obtain ⟨_,⟨_,_,_,e,_⟩,_⟩:=x;exact Dd e
  | rng lo hi=>obtain ⟨_,_,_,e⟩:=x;exact Dd e
  | frz ob u=>obtain ⟨e,_⟩:=x;exact Dd e
  | tbl ps=>exact Dd (show h.get? a=some _ from x)
  | met f y=>exact Dd (show h.get? a=some _ from x)
  | ext φ=>obtain ⟨_,⟨_,e⟩,_⟩:=x;exact Dd e
theorem Paired.mapP {α β:Type} {F G:α->β->Prop}:∀ {l₁:List α} {l₂:List β},Paired F l₁ l₂->(∀ a b,F a b->G a b)->Paired G l₁ l₂
  | _,_,.nil,_=>.nil
  | _,_,.cons r t,f=>.cons (f _ _ r) (Paired.mapP t f)
theorem ObjOk.stay (x:ObjOk P w H h a o) (k:∀ b u,(b=a\/H b=some (.own a))->h.get? b=some u->h'.get? b=some u)
    (ho:∀ b,H b=some (.own a)->H' b=some (.own a)) (ht:∀ b xs,H b=some (.tup xs)->H' b=some (.tup xs)):ObjOk P w H' h' a o:=by
  induction o with
  | lst xs=>obtain ⟨z,its,n,r,e⟩:=x;exact ⟨z,its,n,r,k _ _ (.inl rfl) e⟩
  | tup xs=>obtain ⟨z,its,r,ob,e,c⟩:=x;exact ⟨z,its,r,ob,k _ _ (.inl rfl) e,c⟩
  | dK kvs=>obtain ⟨z,y,vs,r,ob,es,ep,e,c⟩:=x;exact ⟨z,y,vs,r,ob,es,ep,k _ _ (.inl rfl) e,c⟩
  | dT kvs =>
    obtain ⟨z,y,xs,r,ob,es,ep,e,c⟩:=x
    exact ⟨z,y,xs,Paired.mapP r fun p q z=>⟨z.1,ht _ _ z.2.1,z.2.2⟩,ob,es,ep,k _ _ (.inl rfl) e,c⟩
  | set S n=>obtain ⟨ob,es,ep,t,e,c⟩:=x;exact ⟨ob,es,ep,t,k _ _ (.inl rfl) e,c⟩
  | ins C dx fs =>
    obtain ⟨d,z,ne,e,mA,⟨od,es,ep,e2,c⟩,r⟩:=x
    exact ⟨ho _ d,z,ne,k _ _ (.inl rfl) e,mA,⟨od,es,ep,k _ _ (.inr d) e2,c⟩,r⟩
  | own y=>obtain ⟨ob,e⟩:=x;exact ⟨ob,k _ _ (.inl rfl) e⟩
  | xd fs=>obtain ⟨mA,⟨od,es,ep,e,c⟩,r⟩:=x;exact ⟨mA,⟨od,es,ep,k _ _ (.inl rfl) e,c⟩,r⟩
  | rng lo hi=>obtain ⟨t,u,v,e⟩:=x;exact ⟨t,u,v,k _ _ (.inl rfl) e⟩
  | frz ob u ih=>obtain ⟨e,q⟩:=x;exact ⟨k _ _ (.inl rfl) e,ih q⟩
  | tbl ps =>
    have e:h.get? a=some { cls:=.none,data:=.fields ps }:=x
    show h'.get? a=some { cls:=.none,data:=.fields ps }
    exact k a _ (.inl rfl) e
  | met f y =>
    have e:h.get? a=some (PySem.W.methodObj (.ref f) (.ref y)):=x
    show h'.get? a=some (PySem.W.methodObj (.ref f) (.ref y))
    exact k a _ (.inl rfl) e
  | ext φ=>obtain ⟨p,⟨o,e⟩,st⟩:=x;exact ⟨st _ _ p fun o q=>k _ _ (.inl rfl) q,⟨o,k _ _ (.inl rfl) e⟩,st⟩
theorem HOk.lt (x:HOk P w H h) (e:H a=some o):a < h.objs.size:=(x a o e).lt
theorem HOk.fresh (x:HOk P w H h) (e:h.objs.size<=a):H a=none:=by
  cases q:H a with
  | none=>rfl
  | some u=>exact absurd (Dt (x.lt q) e) (Nat.lt_irrefl _)
theorem HOk.kept (x:HOk P w H h) (k:∀ b u,h.get? b=some u->h'.get? b=some u):HOk P w H h':=fun a o e =>
  (x a o e).stay (fun b u _ q=>k b u q) (fun _ q=>q) fun _ _ q=>q
theorem HOk.laid (x:HOk P w H h) (k:∀ b u,h.get? b=some u->h'.get? b=some u) (hp:h.objs.size<=a) (new:ObjOk P w (upd H a o) h' a o):HOk P w (upd H a o) h':=fun b u e=>by
  have hn:=x.fresh hp
  by_cases hb:b=a
  · subst hb;rw [bC] at e;cases e;exact new
  · rw [aR hb] at e
    exact (x b u e).stay (fun c v _ q=>k c v q) (fun c q=>by rw [aR (bP q hn)];exact q) fun c xs q=>by rw [aR (bP q hn)];exact q
end
noncomputable def Rd (H:Hp) (a:Addr) (u:HO):Prop:=H a=some u\/∃ o,H a=some (.frz o u)
theorem Rd.ok {P:Program} {w:World} {H:Hp} {h:Heap} {a:Addr} {u:HO} (r:Rd H a u) (x:HOk P w H h):ObjOk P w H h a u:=by
  rcases r with r | ⟨o,r⟩
  · exact x a u r
  · obtain ⟨_,q⟩:=x a _ r
    exact q
noncomputable def Mut:Option HO->Prop
  | some (.lst _)=>True
  | some (.dK _)=>True
  | some (.dT _)=>True
  | some (.set _ _)=>True
  | some (.ins _ _ _)=>True
  | some (.ext _)=>True
  | _=>False
section
variable {P:Program} {w:World} {H:Hp} {h h':Heap} {x e:Addr} {o':HO}
theorem HOk.write (ok:HOk P w H h) (mu:Mut (H x)) (he:e=x\/H e=some (.own x)) (k:∀ b u,b ≠ e->h.get? b=some u->h'.get? b=some u) (heo:∃ u,h'.get? e=some u)
    (new:ObjOk P w (upd H x o') h' x o'):HOk P w (upd H x o') h':=fun b u q=>by
  have nown:∀ c y,H c=some (.own y)->c ≠ x:=fun c y r z=>by subst z;rw [r] at mu;exact mu
  have ntup:∀ c xs,H c=some (.tup xs)->c ≠ x:=fun c xs r z=>by subst z;rw [r] at mu;exact mu
  by_cases hb:b=x
  · subst hb;rw [bC] at q;cases q;exact new
  · rw [aR hb] at q
    by_cases hbe:b=e
    · have q':H b=some (.own x):=by
        rcases he with z | z
        · exact absurd (hbe.trans z) hb
        · rw [hbe];exact z
      rw [q] at q';cases q'
      obtain ⟨v,hv⟩:=heo
      exact ⟨v,by rw [hbe];exact hv⟩
    · refine (ok b u q).stay (fun c v hc r=>k c v ?_ r) (fun c r=>by rw [aR (nown c b r)];exact r) fun c xs r=>by rw [aR (ntup c xs r)];exact r
      rcases hc with rfl | hc
      · exact hbe
      · rintro rfl
        rcases he with z | z
        · exact nown c b hc z
        · rw [hc] at z;cases z;exact hb rfl
end
structure Un (fs ex:List Addr) (H H':Hp) (h h':Heap):Prop where
  keep:∀ b o,h.get? b=some o->H b=none->b ∉ fs->b ∉ ex->h'.get? b=some o
  slot:∀ b o,h.get? b=some o->H b=none->b ∈ fs->b ∉ ex->∃ sl,h'.get? b=some { o with slots:=sl }
  free:∀ b o,h.get? b=some o->H b=none->b ∉ ex->H' b=none
  there:∀ b o,h.get? b=some o->b ∉ ex->∃ o',h'.get? b=some o'
  tups:∀ b xs,H b=some (.tup xs)->H' b=some (.tup xs)
  frzs:∀ b o u,H b=some (.frz o u)->H' b=some (.frz o u)
  tbls:∀ b ps,H b=some (.tbl ps)->∃ more,H' b=some (.tbl (ps ++ more))
section
variable {fs fs' ex ex':List Addr} {H H1 H2:Hp} {h h1 h2 h':Heap} {a x e:Addr} {o:HO}
theorem Un.any (u:Un fs ex H H1 h h1) {b:Addr} {ob:Obj} (q:h.get? b=some ob) (n:H b=none) (hx:b ∉ ex):∃ sl,h1.get? b=some { ob with slots:=sl }:=by
  by_cases hb:b ∈ fs
  · exact u.slot b ob q n hb hx
  · exact ⟨ob.slots,u.keep b ob q n hb hx⟩
theorem Un.trans (a:Un fs ex H H1 h h1) (b:Un fs ex H1 H2 h1 h2):Un fs ex H H2 h h2 where
  keep:=fun c ob q n hc hx=>b.keep c ob (a.keep c ob q n hc hx) (a.free c ob q n hx) hc hx
  slot:=fun c ob q n hc hx=>by
    obtain ⟨sl,e1⟩:=a.slot c ob q n hc hx
    obtain ⟨sl',e2⟩:=b.slot c _ e1 (a.free c ob q n hx) hc hx
    exact ⟨sl',e2⟩
  free:=fun c ob q n hx=>by
    obtain ⟨o',e1⟩:=a.there c ob q hx
    exact b.free c o' e1 (a.free c ob q n hx) hx
  there:=fun c ob q hx=>by
    obtain ⟨o',e1⟩:=a.there c ob q hx
    exact b.there c o' e1 hx
  tups:=fun c xs q=>b.tups c xs (a.tups c xs q)
  frzs:=fun c ob xs q=>b.frzs c ob xs (a.frzs c ob xs q)
  tbls:=fun c ps q=>by
    obtain ⟨m1,e1⟩:=a.tbls c ps q
    obtain ⟨m2,e2⟩:=b.tbls c _ e1
    exact ⟨m1 ++ m2,by rw [e2,Array.append_assoc]⟩
theorem Un.kept (k:∀ b u,h.get? b=some u->h'.get? b=some u):Un fs ex H H h h' :=
  ⟨fun b ob q _ _ _=>k b ob q,fun b ob q _ _ _=>⟨ob.slots,k b ob q⟩,fun _ _ _ n _=>n,fun b ob q _=>⟨ob,k b ob q⟩,fun _ _ q=>q,fun _ _ _ q=>q,fun _ ps q=>⟨#[],by rw [q];simp⟩⟩
theorem Un.refl:Un fs ex H H h h:=Un.kept fun _ _ q=>q
theorem Un.laid (k:∀ b u,h.get? b=some u->h'.get? b=some u) (hp:h.objs.size<=a) (hn:H a=none):Un fs ex H (upd H a o) h h' where
  keep:=fun b u q _ _ _=>k b u q
  slot:=fun b u q _ _ _=>⟨u.slots,k b u q⟩
  free:=fun b u q n _=>by rw [aR (Do (Dt (Dd q) hp))];exact n
  there:=fun b u q _=>⟨u,k b u q⟩
  tups:=fun b xs q=>by rw [aR (bP q hn)];exact q
  frzs:=fun b u xs q=>by rw [aR (bP q hn)];exact q
  tbls:=fun b ps q=>⟨#[],by rw [aR (bP q hn),q];simp⟩
theorem Un.write (mu:Mut (H x)) (he:e=x\/H e=some (.own x)) (k:∀ b u,b ≠ e->h.get? b=some u->h'.get? b=some u) (heo:∃ u,h'.get? e=some u):Un fs ex H (upd H x o) h h':=by
  have hx:∀ b,H b=none->b ≠ x:=fun b n z=>by subst z;rw [n] at mu;exact mu
  have hb:∀ b,H b=none->b ≠ e:=fun b n z=>by
    subst z
    rcases he with r | r
    · exact hx b n r
    · rw [n] at r;cases r
  have hm:∀ b u,H b=some u->¬ Mut (some u)->b ≠ x:=fun b u q nm z=>by subst z;rw [q] at mu;exact nm mu
  refine ⟨fun b u q n _ _=>k b u (hb b n) q,fun b u q n _ _=>⟨u.slots,k b u (hb b n) q⟩,fun b u q n _=>by rw [aR (hx b n)];exact n,fun b u q _=>?_,
    fun b xs q=>by rw [aR (hm b _ q fun z=>z)];exact q,fun b u xs q=>by rw [aR (hm b _ q fun z=>z)];exact q,fun b ps q=>⟨#[],by rw [aR (hm b _ q fun z=>z),q];simp⟩⟩
  by_cases hbe:b=e
  · subst hbe;exact heo
  · exact ⟨u,k b u hbe q⟩
end
noncomputable def trk (h:Heap) (H:Hp):List Addr:=(List.range h.objs.size).filter fun a=>(H a).isSome
noncomputable def po (h:Heap) (H:Hp):Heap:=PySem.W.hideAll h (trk h H)
theorem vC (h:Heap) (H:Hp):(po h H).objs.size=h.objs.size:=PySem.W.hideAll_size _ _
theorem x5 {h:Heap} {H:Hp} {b:Addr} {o:Obj} (e:h.get? b=some o) (n:H b=none):(po h H).get? b=some o :=
  PySem.W.hideAll_get _ e fun hm=>by
    have q:(H b).isSome=true:=(DD.mp hm).2
    rw [n] at q;simp at q
theorem zT {h:Heap} {H:Hp} {b:Addr} {o:Obj} (e:(po h H).get? b=some o):h.get? b=some o/\H b=none:=by
  have e':h.get? b=some o:=PySem.W.of_hideAll (trk h H) e
  refine ⟨e',?_⟩
  cases q:H b with
  | none=>rfl
  | some x =>
    have hm:b ∈ trk h H:=DD.mpr ⟨List.mem_range.mpr (Dd e'),by simp [q]⟩
    have z:(po h H).get? b=none:=PySem.W.hideAll_none (trk h H) hm
    rw [z] at e;cases e
noncomputable def AH (g h:Heap) (L:Addr):List (Addr × Obj):=(List.range h.objs.size).filterMap fun a=>if a=L\/(g.get? a).isSome=true then none else (h.get? a).map fun o=>(a,o)
noncomputable def gk (g h:Heap) (L d:Addr):List (Addr × Obj):=(AH g h L).filter fun p=>decide (p.1 ≠ d)
end L2
namespace L2
open PySem PySem.Spec PyProof.Rows
structure Mod (K:FG) (mg:Str->Option Value) (base:Heap):Prop where
  kin:K.In base
  glob:base.Ns mainGlobals mg
  blt:∃ mb,base.Ns builtinsNs mb/\∀ x:Str,x ≠ "__name__"->mb x=bootBuiltins x
  nolimit:base.NoLimit
structure Cx where
  prog:Program
  w:World
  K:FG
  mg:Str->Option Value
  base:Heap
  A:Around
  N:List Str
  s₀:Shared
  H₀:Hp
  env:Env
  outer:List Env
  stack:List Env
  ex:List Addr
  fn:Str->Bool
  calm:Bool
  pn:List (Addr × Obj)
  xe:Value->Shared->Prop
noncomputable def frs (l:List Env):List Addr:=l.filterMap (·.frame)
noncomputable abbrev Cx.fs (X:Cx):List Addr:=frs X.outer
noncomputable def Vis (sc:Scope) (x:Str):Prop:=sc.names.lookup x=some .local\/sc.names.lookup x=some .cell\/sc.names.lookup x=some .free
noncomputable def Loc (sc:Scope) (x:Str):Prop:=sc.names.lookup x=some .local\/sc.names.lookup x=some .cell
noncomputable def Look (env:Env) (h:Heap) (m:Str->Option Value) (x:Str) (u:Value):Prop :=
  (env.kindOf x=some .local/\m x=some u)\/((env.kindOf x=some .cell\/env.kindOf x=some .free)/\∃ c,env.cells.lookup x=some c/\h.IsCell c (some u))
structure Cx.Ok (X:Cx):Prop where
  mod:Mod X.K X.mg X.base
  kind:X.env.scope.kind=.function
  glob:X.env.globals=mainGlobals
  blt:X.env.builtins=builtinsNs
  above:X.s₀.heap.objs.size<=X.env.locals
  inj:∀ x y c,X.env.cells.lookup x=some c->X.env.cells.lookup y=some c->x=y
  has:∀ x,(X.env.kindOf x=some .cell\/X.env.kindOf x=some .free)->∃ c,X.env.cells.lookup x=some c
  cab:∀ x c,X.fn x=true->X.env.cells.lookup x=some c->X.s₀.heap.objs.size<=c
  hd:X.calm=true->X.A.handled=none
  frames:X.A.frames=some X.stack
  stk:X.stack=X.outer\/(X.stack=X.env :: X.outer/\X.env.frame=some X.env.locals)
  exf:∀ b ∈ X.ex,b ≠ X.env.locals/\∀ x c,X.env.cells.lookup x=some c->c ≠ b
  bs:∀ b o,X.base.get? b=some o->X.s₀.heap.get? b=some o/\X.H₀ b=none
  bsz:X.base.objs.size<=X.s₀.heap.objs.size
  noex:∀ b o,X.base.get? b=some o->b ∉ X.ex
  exfs:∀ b ∈ X.ex,b ∉ X.fs
  funs:X.s₀.heap.FunFrames X.base X.outer
  frf:∀ b ∈ X.fs,X.H₀ b=none
structure Inv (X:Cx) (pins:List (Addr × Obj)) (σ:List (Option V)) (H:Hp) (s:Shared):Prop where
  ok:X.Ok
  os:s.os=X.s₀.os
  bare:AllBare s.gens
  base:Un X.fs X.ex X.H₀ H X.s₀.heap s.heap
  loc:∃ m,s.heap.Ns X.env.locals m/\∀ (i:Nat) (x:Str) (v:V),X.N[i]?=some x->σ[i]?=some (some v)->Vis X.env.scope x->∃ u,RelV v u/\Look X.env s.heap m x u
  cell:∀ x c,X.env.cells.lookup x=some c->∃ v,s.heap.IsCell c v
  free:H X.env.locals=none
  freeC:∀ x c,X.env.cells.lookup x=some c->H c=none
  pin:∀ p ∈ X.pn ++ pins,s.heap.get? p.1=some p.2/\H p.1=none/\p.1 ≠ X.env.locals/\p.1 ∉ X.fs/\∀ v,p.2.data ≠ .cell v
  hok:HOk X.prog X.w H s.heap
  len:σ.length=X.N.length
section
variable {X:Cx} {pins:List (Addr × Obj)} {σ:List (Option V)} {H H':Hp} {s:Shared} {h':Heap}
theorem Cx.Ok.nofr (ok:X.Ok) {b:Addr} {o:Obj} (e:X.base.get? b=some o):b ∉ X.fs:=fun hb=>by
  have:=(ok.funs.mem hb).1
  rw [e] at this;cases this
theorem Inv.bs (I:Inv X pins σ H s):∀ b o,X.base.get? b=some o->s.heap.get? b=some o/\H b=none:=fun b o e =>
  ⟨I.base.keep b o (I.ok.bs b o e).1 (I.ok.bs b o e).2 (I.ok.nofr e) (I.ok.noex b o e),I.base.free b o (I.ok.bs b o e).1 (I.ok.bs b o e).2 (I.ok.noex b o e)⟩
theorem Inv.bk (I:Inv X pins σ H s):∀ b o,X.base.get? b=some o->s.heap.get? b=some o:=fun b o e=>(I.bs b o e).1
theorem Inv.mod (I:Inv X pins σ H s):Mod X.K X.mg X.base:=I.ok.mod
theorem Inv.kIn (I:Inv X pins σ H s):X.K.In s.heap:=I.ok.mod.kin.keeps I.bk
theorem Inv.lt (I:Inv X pins σ H s):X.env.locals < s.heap.objs.size:=let ⟨_,hn,_⟩:=I.loc;hn.lt
theorem Inv.sz (I:Inv X pins σ H s):X.s₀.heap.objs.size<=s.heap.objs.size:=DI I.ok.above (Nat.le_of_lt I.lt)
theorem Inv.nofs (I:Inv X pins σ H s) {a:Addr} (h:s.heap.objs.size<=a):a ∉ X.fs:=fun hb=>by
  obtain ⟨_,o,ho,_⟩:=I.ok.funs.mem hb
  exact absurd (Dt (Dd ho) (DI I.sz h)) (Nat.lt_irrefl _)
theorem Inv.cne (I:Inv X pins σ H s):∀ x c,X.env.cells.lookup x=some c->c ≠ X.env.locals:=fun x c e z=>by
  obtain ⟨v,o,ho,hd⟩:=I.cell x c e
  obtain ⟨m,⟨o',es,ep,ho',hd',_⟩,_⟩:=I.loc
  rw [z,ho'] at ho;cases ho;rw [hd'] at hd;cases hd
theorem Inv.funs (I:Inv X pins σ H s):s.heap.FunFrames X.base X.outer:=by
  have all:∀ (l:List Env),(∀ b ∈ frs l,b ∈ X.fs)->X.s₀.heap.FunFrames X.base l->s.heap.FunFrames X.base l:=by
    intro l
    induction l with
    | nil=>intro _ _;trivial
    | cons env r ih =>
      intro hs hl
      obtain ⟨hk,⟨L,o,hf,hn,ho,hd⟩,hr⟩:=hl
      have hL:L ∈ X.fs:=hs L (by unfold frs;rw [List.filterMap_cons,hf];exact C5)
      obtain ⟨sl,e⟩:=I.base.slot L o ho (I.ok.frf L hL) hL fun z=>I.ok.exfs L z hL
      exact ⟨hk,⟨L,_,hf,hn,e,hd⟩,ih (fun b hb=>hs b (by unfold frs;rw [List.filterMap_cons,hf];exact C6 _ hb)) hr⟩
  exact all X.outer (fun _ hb=>hb) I.ok.funs
theorem Inv.stack (I:Inv X pins σ H s):s.heap.FunFrames X.base X.stack:=by
  rcases I.ok.stk with e | ⟨e,hf⟩
  · rw [e];exact I.funs
  · rw [e]
    obtain ⟨m,hn,_⟩:=I.loc
    refine .cons (by rw [I.ok.kind];decide) hf hn ?_ I.funs
    exact Heap.get?_none_of_le (DI I.ok.bsz I.ok.above)
theorem Inv.stkSub (I:Inv X pins σ H s):∀ b ∈ frs X.stack,b ∈ X.env.locals :: X.fs:=fun b hb=>by
  rcases I.ok.stk with e | ⟨e,hf⟩
  · rw [e] at hb;exact C6 _ hb
  · rw [e] at hb
    unfold frs at hb
    rw [List.filterMap_cons,hf] at hb
    exact hb
theorem Inv.stkFree (I:Inv X pins σ H s):∀ b ∈ frs X.stack,H b=none:=fun b hb=>by
  rcases Db.mp (I.stkSub b hb) with e | hb
  · rw [e];exact I.free
  · obtain ⟨_,o,ho,_⟩:=I.ok.funs.mem hb
    exact I.base.free b o ho (I.ok.frf b hb) fun z=>I.ok.exfs b z hb
theorem Inv.step {g':Array GenState} {t':Nat} {d':Drawn} {ch:List Addr} (I:Inv X pins σ H s)
    (hch:∀ b ∈ ch,(b ∈ X.ex\/X.s₀.heap.objs.size<=b)/\b ≠ X.env.locals/\(∀ x c,X.env.cells.lookup x=some c->c ≠ b)/\∀ p ∈ X.pn ++ pins,p.1 ≠ b)
    (keep:∀ b o,b ≠ X.env.locals->b ∉ X.fs->b ∉ ch->s.heap.get? b=some o->H b=none->h'.get? b=some o)
    (slot:∀ b o,b ≠ X.env.locals->b ∈ X.fs->b ∉ ch->s.heap.get? b=some o->H b=none->∃ sl,h'.get? b=some { o with slots:=sl }) (free:∀ b o,b ∉ ch->s.heap.get? b=some o->H b=none->H' b=none)
    (there:∀ b o,b ∉ ch->s.heap.get? b=some o->∃ o',h'.get? b=some o')
    (tups:∀ b xs,H b=some (.tup xs)->H' b=some (.tup xs)) (frzs:∀ b o u,H b=some (.frz o u)->H' b=some (.frz o u)) (tbls:∀ b ps,H b=some (.tbl ps)->∃ more,H' b=some (.tbl (ps ++ more)))
    (ns:∀ m,s.heap.Ns X.env.locals m->h'.Ns X.env.locals m) (hok:HOk X.prog X.w H' h') (hg:AllBare g') :
    Inv X pins σ H' { s with heap:=h',gens:=g',drawn:=d',toks:=t' }:=by
  have neL:∀ b o,X.s₀.heap.get? b=some o->b ≠ X.env.locals:=fun b o e=>Do (Dt (Dd e) I.ok.above)
  have neC:∀ b o,X.s₀.heap.get? b=some o->b ∉ X.ex->b ∉ ch:=fun b o e hx hb=>by
    rcases (hch b hb).1 with z | z
    · exact hx z
    · exact absurd (Dt (Dd e) z) (Nat.lt_irrefl _)
  have cellK:∀ x c,X.env.cells.lookup x=some c->∀ v,s.heap.IsCell c v->h'.IsCell c v:=fun x c e v ⟨o,ho,hd⟩=>by
    have nch:c ∉ ch:=fun z=>(hch c z).2.2.1 x c e rfl
    by_cases hc:c ∈ X.fs
    · obtain ⟨sl,q⟩:=slot c o (I.cne x c e) hc nch ho (I.freeC x c e)
      exact ⟨_,q,hd⟩
    · exact ⟨o,keep c o (I.cne x c e) hc nch ho (I.freeC x c e),hd⟩
  refine ⟨I.ok,I.os,hg,⟨fun b o e n hb hx=>?_,fun b o e n hb hx=>?_,fun b o e n hx=>?_,fun b o e hx=>?_,fun b xs e=>tups b xs (I.base.tups b xs e),fun b o xs e=>frzs b o xs (I.base.frzs b o xs e),fun b ps e=>?_⟩,?_,fun x c e=>?_,?_,fun x c e=>?_,fun p hp=>?_,hok,I.len⟩
  · exact keep b o (neL b o e) hb (neC b o e hx) (I.base.keep b o e n hb hx) (I.base.free b o e n hx)
  · obtain ⟨sl,e1⟩:=I.base.slot b o e n hb hx
    obtain ⟨sl',e2⟩:=slot b _ (neL b o e) hb (neC b o e hx) e1 (I.base.free b o e n hx)
    exact ⟨sl',e2⟩
  · obtain ⟨o',e1⟩:=I.base.there b o e hx
    exact free b o' (neC b o e hx) e1 (I.base.free b o e n hx)
  · obtain ⟨o',e1⟩:=I.base.there b o e hx
    exact there b o' (neC b o e hx) e1
  · obtain ⟨m1,e1⟩:=I.base.tbls b ps e
    obtain ⟨m2,e2⟩:=tbls b _ e1
    exact ⟨m1 ++ m2,by rw [e2,Array.append_assoc]⟩
  · obtain ⟨m,hn,hl⟩:=I.loc
    refine ⟨m,ns m hn,fun i x v e1 e2 e3=>?_⟩
    obtain ⟨u,r,l⟩:=hl i x v e1 e2 e3
    refine ⟨u,r,?_⟩
    rcases l with l | ⟨k,c,e,z⟩
    · exact .inl l
    · exact .inr ⟨k,c,e,cellK x c e _ z⟩
  · obtain ⟨v,z⟩:=I.cell x c e
    exact ⟨v,cellK x c e v z⟩
  · obtain ⟨m,⟨o,_,_,ho,_⟩,_⟩:=I.loc
    exact free _ o (fun z=>(hch _ z).2.1 rfl) ho I.free
  · obtain ⟨v,o,ho,hd⟩:=I.cell x c e
    exact free c o (fun z=>(hch c z).2.2.1 x c e rfl) ho (I.freeC x c e)
  · obtain ⟨e,n,ne,nf,d⟩:=I.pin p hp
    have nch:p.1 ∉ ch:=fun z=>(hch p.1 z).2.2.2 p hp rfl
    exact ⟨keep p.1 p.2 ne nf nch e n,free p.1 p.2 nch e n,ne,nf,d⟩
theorem Inv.un {t':Nat} (I:Inv X pins σ H s) (u:Un X.fs [] H H' s.heap h') (hok:HOk X.prog X.w H' h'):Inv X pins σ H' { s with heap:=h',toks:=t' }:=by
  obtain ⟨m,⟨o,es,ep,ho,r⟩,_⟩:=id I.loc
  obtain ⟨sl,hL⟩:=u.any ho I.free (by simp)
  exact I.step (g':=s.gens) (d':=s.drawn) (ch:=[]) (fun _ z=>nomatch z) (fun b o _ hb _ e n=>u.keep b o e n hb (by simp)) (fun b o _ hb _ e n=>u.slot b o e n hb (by simp)) (fun b o _ e n=>u.free b o e n (by simp)) (fun b o _ e=>u.there b o e (by simp)) u.tups u.frzs u.tbls (fun m' hm=>by
    obtain ⟨o',es',ep',ho',r'⟩:=hm
    rw [ho] at ho';cases ho'
    exact ⟨_,es',ep',hL,r'⟩) hok I.bare
theorem Inv.call {g':Array GenState} {t':Nat} {d':Drawn} {ch:List Addr} (I:Inv X pins σ H s) (u:Un (frs X.stack) ch H H' s.heap h') (hok:HOk X.prog X.w H' h') (hg:AllBare g')
    (hch:∀ b ∈ ch,(b ∈ X.ex\/X.s₀.heap.objs.size<=b)/\b ≠ X.env.locals/\(∀ x c,X.env.cells.lookup x=some c->c ≠ b)/\∀ p ∈ X.pn ++ pins,p.1 ≠ b) :
    Inv X pins σ H' { s with heap:=h',gens:=g',drawn:=d',toks:=t' }:=by
  obtain ⟨m,⟨o,es,ep,ho,r⟩,_⟩:=id I.loc
  obtain ⟨sl,hL⟩:=u.any ho I.free fun z=>(hch _ z).2.1 rfl
  exact I.step (ch:=ch) hch (fun b o hL hb hc e n=>u.keep b o e n (fun z=>(Db.mp (I.stkSub b z)).elim hL hb) hc) (fun b o _ _ hc e n=>u.any e n hc) (fun b o hc e n=>u.free b o e n hc) (fun b o hc e=>u.there b o e hc) u.tups u.frzs u.tbls (fun m' hm=>by
    obtain ⟨o',es',ep',ho',r'⟩:=hm
    rw [ho] at ho';cases ho'
    exact ⟨_,es',ep',hL,r'⟩) hok hg
theorem Inv.turned {t':Nat} {it:Addr} (I:Inv X pins σ H s) (k:∀ b o,b ≠ it->s.heap.get? b=some o->h'.get? b=some o) (hn:H it=none) (hL:it ≠ X.env.locals)
    (h1:it ∈ X.ex\/X.s₀.heap.objs.size<=it) (h2:∀ x c,X.env.cells.lookup x=some c->c ≠ it) (h3:∀ p ∈ X.pn ++ pins,p.1 ≠ it):Inv X pins σ H { s with heap:=h',toks:=t' }:=by
  have nit:∀ b u,H b=some u->b ≠ it:=fun b u e z=>by rw [z,hn] at e;cases e
  refine I.step (g':=s.gens) (d':=s.drawn) (ch:=[it]) (fun b hb=>?_) (fun b o _ _ hc e _=>k b o (fun z=>hc (by simp [z])) e) (fun b o _ _ hc e _=>⟨o.slots,k b o (fun z=>hc (by simp [z])) e⟩) (fun _ _ _ _ n=>n)
    (fun b o hc e=>⟨o,k b o (fun z=>hc (by simp [z])) e⟩) (fun _ _ e=>e) (fun _ _ _ e=>e) (fun b ps e=>⟨#[],by rw [e];simp⟩) (fun m hm=>?_) (fun b u e=>?_) I.bare
  · have e:b=it:=by simpa using hb
    subst e
    exact ⟨h1,hL,h2,h3⟩
  · obtain ⟨o,es,ep,ho,r⟩:=hm
    exact ⟨o,es,ep,k _ o (Ne.symm hL) ho,r⟩
  · refine (I.hok b u e).stay (fun c v hc q=>k c v ?_ q) (fun _ q=>q) fun _ _ q=>q
    rcases hc with z | z
    · rw [z];exact nit b u e
    · exact nit c _ z
theorem Inv.tok (I:Inv X pins σ H s) (t:Nat):Inv X pins σ H { s with toks:=t }:=I.un (h':=s.heap) (t':=t) Un.refl I.hok
theorem Inv.kept {t':Nat} (I:Inv X pins σ H s) (k:∀ b u,s.heap.get? b=some u->h'.get? b=some u):Inv X pins σ H { s with heap:=h',toks:=t' }:=I.un (Un.kept k) (I.hok.kept k)
theorem Inv.laid {a:Addr} {o:HO} {t':Nat} (I:Inv X pins σ H s) (k:∀ b u,s.heap.get? b=some u->h'.get? b=some u) (hp:s.heap.objs.size<=a) (new:ObjOk X.prog X.w (upd H a o) h' a o) :
    Inv X pins σ (upd H a o) { s with heap:=h',toks:=t' }:=I.un (Un.laid k hp (I.hok.fresh hp)) (I.hok.laid k hp new)
theorem Inv.write {x e:Addr} {o:HO} {t':Nat} (I:Inv X pins σ H s) (mu:Mut (H x)) (he:e=x\/H e=some (.own x)) (k:∀ b u,b ≠ e->s.heap.get? b=some u->h'.get? b=some u) (heo:∃ u,h'.get? e=some u)
    (new:ObjOk X.prog X.w (upd H x o) h' x o):Inv X pins σ (upd H x o) { s with heap:=h',toks:=t' }:=I.un (Un.write mu he k heo) (I.hok.write mu he k heo new)
theorem Inv.pins_of {pins':List (Addr × Obj)} (I:Inv X pins σ H s) (h:∀ p ∈ pins',s.heap.get? p.1=some p.2/\H p.1=none/\p.1 ≠ X.env.locals/\p.1 ∉ X.fs/\∀ v,p.2.data ≠ .cell v):Inv X pins' σ H s :=
  ⟨I.ok,I.os,I.bare,I.base,I.loc,I.cell,I.free,I.freeC,fun p hp=>(De.mp hp).elim (fun z=>I.pin p (C9 _ z)) (h p),I.hok,I.len⟩
theorem qu {N:List Str} (hN:N.Nodup) {i j:Nat} {x:Str} (a:N[i]?=some x) (b:N[j]?=some x):i=j:=by
  obtain ⟨h1,e1⟩:=Dh.mp a
  obtain ⟨h2,e2⟩:=Dh.mp b
  exact (List.getElem_inj hN).mp (e1.trans e2.symm)
theorem nJ {M:Model} {A:Around} {E:Value->Shared->Prop} {i:Nat} {x:Str} {v:V} {u:Value} {Q:Unit->Shared->Prop} (I:Inv X pins σ H s) (hN:X.N.Nodup) (hi:X.N[i]?=some x) (hx:Loc X.env.scope x) (r:RelV v u)
    (h:∀ s',Inv X pins (σ.set i (some v)) H s'->(∃ a,Heap.SameBut a s.heap s'.heap/\(a=X.env.locals\/X.env.cells.lookup x=some a))->Q () s') (hf:X.fn x=true\/X.env.scope.names.lookup x=some .local:=by first | exact .inl rfl | exact .inr rfl | assumption):wpAny M A (storeName X.env x u) Q E s:=by
  obtain ⟨m,hn,hl⟩:=id I.loc
  have hcls:(X.env.scope.kind == .class || (X.env.scope.kind == .module && X.env.locals != X.env.globals))=false:=by rw [I.ok.kind];rfl
  have hiσ:i < σ.length:=by rw [I.len];exact (Dh.mp hi).1
  have cne:=I.cne
  have tracked:∀ {a:Addr} {h':Heap},(∃ o,s.heap.get? a=some o/\H a=none)->Heap.SameBut a s.heap h'->HOk X.prog X.w H h':=fun {a h'} ha hs b ob e=>by
    obtain ⟨_,_,hfree⟩:=ha
    refine (I.hok b ob e).stay (fun c w' hc q=>(hs.2 c ?_).trans q) (fun _ q=>q) fun _ _ q=>q
    rintro rfl
    rcases hc with rfl | hc
    · rw [hfree] at e;cases e
    · rw [hfree] at hc;cases hc
  rcases hx with hk | hk
  · refine wpAny_storeName_local hk hn (fun h' hn' hs=>?_) hcls
    obtain ⟨oL,_,_,hoL,_⟩:=id hn
    refine h _ ⟨I.ok,I.os,I.bare,⟨fun b o e n hb hx=>?_,fun b o e n hb hx=>?_,I.base.free,fun b o e hx=>?_,I.base.tups,I.base.frzs,I.base.tbls⟩,⟨_,hn',fun j y v' e1 e2 e3=>?_⟩,fun y c e=>?_,I.free,I.freeC,fun p hp=>?_,tracked ⟨oL,hoL,I.free⟩ hs,by simpa using I.len⟩ ⟨_,hs,.inl rfl⟩
    · exact (hs.2 b (Do (Dt (Dd e) I.ok.above))).trans (I.base.keep b o e n hb hx)
    · obtain ⟨sl,e1⟩:=I.base.slot b o e n hb hx
      exact ⟨sl,(hs.2 b (Do (Dt (Dd e) I.ok.above))).trans e1⟩
    · obtain ⟨o',e1⟩:=I.base.there b o e hx
      exact ⟨o',(hs.2 b (Do (Dt (Dd e) I.ok.above))).trans e1⟩
    · by_cases hj:j=i
      · subst hj
        rw [hi] at e1;cases e1
        rw [List.getElem?_set_self hiσ] at e2
        cases e2
        exact ⟨u,r,.inl ⟨hk,by simp⟩⟩
      · rw [List.getElem?_set_ne (Ne.symm hj)] at e2
        obtain ⟨u',r',q⟩:=hl j y v' e1 e2 e3
        refine ⟨u',r',?_⟩
        rcases q with ⟨k,e⟩ | ⟨k,c,e,z⟩
        · refine .inl ⟨k,?_⟩
          have:y ≠ x:=fun e=>hj (qu hN e1 (e ▸ hi))
          simp [this,e]
        · exact .inr ⟨k,c,e,z.sameBut hs (cne y c e)⟩
    · obtain ⟨w',z⟩:=I.cell y c e
      exact ⟨w',z.sameBut hs (cne y c e)⟩
    · obtain ⟨e,n,ne,nf,d⟩:=I.pin p hp
      exact ⟨(hs.2 p.1 ne).trans e,n,ne,nf,d⟩
  · have hfn:X.fn x=true:=by
      rcases hf with z | z
      · exact z
      · rw [z] at hk;cases hk
    obtain ⟨c,hc⟩:=I.ok.has x (.inl hk)
    obtain ⟨w',z⟩:=I.cell x c hc
    refine wpAny_storeName_cell I.ok.kind hk hc z (fun h' hc' hs=>?_)
    obtain ⟨oc,hoc,hocd⟩:=id z
    refine h { s with heap:=h' } ⟨I.ok,I.os,I.bare,⟨fun b o e n hb hx=>?_,fun b o e n hb hx=>?_,I.base.free,fun b o e hx=>?_,I.base.tups,I.base.frzs,I.base.tbls⟩,⟨m,hn.sameBut hs (Ne.symm (cne x c hc)),fun j y v' e1 e2 e3=>?_⟩,fun y c' e=>?_,I.free,I.freeC,fun p hp=>?_,tracked ⟨oc,hoc,I.freeC x c hc⟩ hs,by simpa using I.len⟩ ⟨c,hs,.inr hc⟩
    · exact (hs.2 b (Do (Dt (Dd e) (I.ok.cab x c hfn hc)))).trans (I.base.keep b o e n hb hx)
    · obtain ⟨sl,e1⟩:=I.base.slot b o e n hb hx
      exact ⟨sl,(hs.2 b (Do (Dt (Dd e) (I.ok.cab x c hfn hc)))).trans e1⟩
    · obtain ⟨o',e1⟩:=I.base.there b o e hx
      exact ⟨o',(hs.2 b (Do (Dt (Dd e) (I.ok.cab x c hfn hc)))).trans e1⟩
    · by_cases hj:j=i
      · subst hj
        rw [hi] at e1;cases e1
        rw [List.getElem?_set_self hiσ] at e2
        cases e2
        exact ⟨u,r,.inr ⟨.inl hk,c,hc,hc'⟩⟩
      · rw [List.getElem?_set_ne (Ne.symm hj)] at e2
        obtain ⟨u',r',q⟩:=hl j y v' e1 e2 e3
        refine ⟨u',r',?_⟩
        rcases q with q | ⟨k,c',e,z'⟩
        · exact .inl q
        · refine .inr ⟨k,c',e,z'.sameBut hs ?_⟩
          rintro rfl
          exact hj (qu hN e1 (I.ok.inj _ _ _ e hc ▸ hi))
    · by_cases hcc:c'=c
      · subst hcc;exact ⟨_,hc'⟩
      · obtain ⟨w2,z2⟩:=I.cell y c' e
        exact ⟨w2,z2.sameBut hs hcc⟩
    · obtain ⟨e,n,ne,nf,d⟩:=I.pin p hp
      refine ⟨(hs.2 p.1 ?_).trans e,n,ne,nf,d⟩
      intro q
      rw [q,hoc] at e
      have q':oc=p.2:=DO e
      exact d w' (by rw [<- q'];exact hocd)
theorem pY {M:Model} {A:Around} {E:Value->Shared->Prop} {i:Nat} {x:Str} {v:V} {u:Value} {Q:Unit->Shared->Prop} (I:Inv X pins σ H s) (hN:X.N.Nodup) (hi:X.N[i]?=some x) (hx:Loc X.env.scope x) (r:RelV v u)
    (h:∀ s',Inv X pins (σ.set i (some v)) H s'->Q () s') (hf:X.fn x=true\/X.env.scope.names.lookup x=some .local:=by first | exact .inl rfl | exact .inr rfl | assumption):wpAny M A (storeName X.env x u) Q E s :=
  nJ I hN hi hx r (fun s' I' _=>h s' I') hf
theorem Inv.call' {s':Shared} {ch:List Addr} (I:Inv X pins σ H s) (ho:s'.os=s.os) (u:Un (frs X.stack) ch H H' s.heap s'.heap) (hok:HOk X.prog X.w H' s'.heap) (hg:AllBare s'.gens)
    (hch:∀ b ∈ ch,(b ∈ X.ex\/X.s₀.heap.objs.size<=b)/\b ≠ X.env.locals/\(∀ x c,X.env.cells.lookup x=some c->c ≠ b)/\∀ p ∈ X.pn ++ pins,p.1 ≠ b):Inv X pins σ H' s':=by
  obtain ⟨h',g',d',t',o'⟩:=s'
  have e:o'=s.os:=ho
  subst e
  exact I.call (g':=g') (t':=t') (d':=d') u hok hg hch
end
noncomputable abbrev XK:=Value->Option Addr->Hp->Prop
noncomputable abbrev St:=List (Option V)
noncomputable abbrev VK:=V->Hp->Prop
noncomputable abbrev TE:=St->Hp->VK->Prop
noncomputable abbrev TT:=St->Hp->(Bool->Hp->Prop)->Prop
noncomputable abbrev TA:=St->Hp->(List V->Hp->Prop)->Prop
structure Ends where
  nx:St->Hp->Prop
  rt:VK
  bk:St->Hp->Prop:=fun _ _=>False
  ct:St->Hp->Prop:=fun _ _=>False
noncomputable abbrev TS:=Ends->St->Hp->Prop
noncomputable def EP (X:Cx) (pins:List (Addr × Obj)) (σ:St) (Q:VK) (u:Value) (s':Shared):Prop:=∃ v H',Inv X pins σ H' s'/\RelV v u/\Q v H'
noncomputable def TP (X:Cx) (pins:List (Addr × Obj)) (σ:St) (Q:Bool->Hp->Prop) (b:Bool) (s':Shared):Prop:=∃ H',Inv X pins σ H' s'/\Q b H'
noncomputable def AP (X:Cx) (pins:List (Addr × Obj)) (σ:St) (Q:List V->Hp->Prop) (us:List Value) (s':Shared):Prop:=∃ vs H',Inv X pins σ H' s'/\Vals vs us/\Q vs H'
set_option tactic.hygienic true in
noncomputable def SP (X:Cx) (pins:List (Addr × Obj)) (D:Ends) (f:Flow) (s':Shared):Prop :=
  match f with
  | .next=>∃ σ' H',Inv X pins σ' H' s'/\D.nx σ' H'
  | .brk=>∃ σ' H',Inv X pins σ' H' s'/\D.bk σ' H'
  | .cont=>∃ σ' H',Inv X pins σ' H' s'/\D.ct σ' H'
  | .ret u=>∃ v σ' H',Inv X pins σ' H' s'/\RelV v u/\D.rt v H'
noncomputable def PE (X:Cx) (e:Expr) (t:TE):Prop :=
  ∀ (pins:List (Addr × Obj)) (s:Shared) (σ:St) (H:Hp) (Q:VK),Inv X pins σ H s->t σ H Q->wpAny (model X.prog X.w) X.A (eval e X.env) (EP X pins σ Q) X.xe s
noncomputable def PT (X:Cx) (e:Expr) (t:TT):Prop :=
  ∀ (pins:List (Addr × Obj)) (s:Shared) (σ:St) (H:Hp) (Q:Bool->Hp->Prop),Inv X pins σ H s->t σ H Q->wpAny (model X.prog X.w) X.A (isTrue e X.env (eval e X.env)) (TP X pins σ Q) X.xe s
noncomputable def PW (X:Cx) (e:Expr) (t:TT):Prop :=
  ∀ (whole:Sem Value) (pins:List (Addr × Obj)) (s:Shared) (σ:St) (H:Hp) (Q:Bool->Hp->Prop),Inv X pins σ H s->t σ H Q->wpAny (model X.prog X.w) X.A (isTrue e X.env whole) (TP X pins σ Q) X.xe s
theorem PW.pt {X:Cx} {e:Expr} {t:TT} (h:PW X e t):PT X e t:=h _
noncomputable def PA (X:Cx) (es:List Expr) (t:TA):Prop :=
  ∀ (pos:Pos) (pins:List (Addr × Obj)) (s:Shared) (σ:St) (H:Hp) (Q:List V->Hp->Prop),Inv X pins σ H s->t σ H Q->wpAny (model X.prog X.w) X.A (spliced (backTo pos (starEach es X.env))) (AP X pins σ Q) X.xe s
noncomputable def PS (X:Cx) (st:Stmt) (t:TS):Prop :=
  ∀ (pins:List (Addr × Obj)) (s:Shared) (σ:St) (H:Hp) (D:Ends),Inv X pins σ H s->t D σ H->wpAny (model X.prog X.w) X.A (exec st X.env) (SP X pins D) X.xe s
noncomputable def PSs (X:Cx) (st:List Stmt) (t:TS):Prop :=
  ∀ (pins:List (Addr × Obj)) (s:Shared) (σ:St) (H:Hp) (D:Ends),Inv X pins σ H s->t D σ H->wpAny (model X.prog X.w) X.A (execs st X.env) (SP X pins D) X.xe s
theorem thn {α:Type} {t:Sem α} {Q Q':α->Shared->Prop} {M:Model} {A:Around} {E:Value->Shared->Prop} {s:Shared} (h:wpAny M A t Q E s) (hQ:∀ a s,Q a s->Q' a s):wpAny M A t Q' E s:=wpAny_mono h hQ fun _ _ x=>x
end L2
namespace L2
open PySem PySem.Spec PyProof.Rows
section
variable {X:Cx}
theorem bin {a b:Expr} {ta tb:TE} (ha:PE X a ta) (hb:PE X b tb) {pins:List (Addr × Obj)} {s:Shared} {σ:St} {H:Hp} {R:V->V->Hp->Prop} (I:Inv X pins σ H s) (h:ta σ H fun x H1=>tb σ H1 fun y H2=>R x y H2)
    {α:Type} {Q:α->Shared->Prop} {f:Value->Value->Sem α}
    (hf:∀ v u s2 x y H2,Inv X pins σ H2 s2->RelV x v->RelV y u->R x y H2->wpAny (model X.prog X.w) X.A (f v u) Q X.xe s2) :
    wpAny (model X.prog X.w) X.A (eval a X.env) (fun v s₁=>wpAny (model X.prog X.w) X.A (eval b X.env) (fun u s₂=>wpAny (model X.prog X.w) X.A (f v u) Q X.xe s₂) X.xe s₁) X.xe s:=by
  refine thn (ha pins s σ H _ I h) fun v s1 ⟨x,H1,I1,r1,q1⟩=>?_
  refine thn (hb pins s1 σ H1 _ I1 q1) fun u s2 ⟨y,H2,I2,r2,q2⟩=>?_
  exact hf v u s2 x y H2 I2 r1 r2 q2
noncomputable def uM (i:Nat):TE:=fun σ H Q=>∃ v,σ[i]?=some (some v)/\Q v H
noncomputable def tC (v:V):TE:=fun _ H Q=>Q v H
theorem jH {i:Nat} {x:Str} {pos:Pos} (hN:X.N[i]?=some x) (hv:Vis X.env.scope x) (hd:(x == ("__debug__":Str))=false:=by decide) (hcd:(x == ("__classdict__":Str))=false:=by decide):PE X (.Name x pos) (uM i):=by
  intro pins s σ H Q I h
  obtain ⟨v,e,h⟩:=h
  obtain ⟨m,hn,hl⟩:=I.loc
  obtain ⟨u,r,l⟩:=hl i x v hN e hv
  have fin:EP X pins σ Q u s:=⟨v,H,I,r,h⟩
  rcases l with ⟨hk,hm⟩ | ⟨hk,c,hc,hcell⟩
  · exact wpAny_Name (wpAny_loadName_local I.ok.kind hk hn hm fin) hd
  · rcases hk with hk | hk
    · exact wpAny_Name (wpAny_loadName_cell I.ok.kind hk hc hcell fin) hd
    · exact wpAny_Name (wpAny_loadName_free I.ok.kind hk hc hcell fin hcd) hd
theorem B9 {i j pos}:PE X (.Constant (.int i) j pos) (tC (.int i)):=fun _ _ _ H _ I h=>wpAny_Constant_int ⟨.int i,H,I.tok _,⟨_,rfl⟩,h⟩
theorem pe_bl {b j pos}:PE X (.Constant (.bool b) j pos) (tC (.bl b)):=fun _ _ _ H _ I h=>Constant_bool ⟨.bl b,H,I,rfl,h⟩
theorem B6 {j pos}:PE X (.Constant .none j pos) (tC .non):=fun _ _ _ H _ I h=>Constant_none ⟨.non,H,I,rfl,h⟩
noncomputable def Gl (X:Cx) (x:Str):Prop:=X.env.kindOf x=some .globalImplicit
theorem t9 {E:Value->Shared->Prop} {pins:List (Addr × Obj)} {s:Shared} {σ:St} {H:Hp} {x:Str} {u:Value} {pos:Pos} {Q:Value->Shared->Prop} (I:Inv X pins σ H s) (hg:Gl X x) (hm:X.mg x=some u) (h:Q u s)
    (hd:(x == ("__debug__":Str))=false:=by decide):wpAny (model X.prog X.w) X.A (eval (.Name x pos) X.env) Q E s :=
  Calls.Name_function_global I.ok.kind hg (Calls.loadGlobal_global (by rw [I.ok.glob];exact I.mod.glob.keeps I.bk) hm h) hd
theorem hU {E:Value->Shared->Prop} {pins:List (Addr × Obj)} {s:Shared} {σ:St} {H:Hp} {x:Str} {u:Value} {pos:Pos} {Q:Value->Shared->Prop} (I:Inv X pins σ H s) (hg:Gl X x) (hm:X.mg x=none) (hv:bootBuiltins x=some u) (h:Q u s)
    (hn:x ≠ "__name__":=by decide) (hd:(x == ("__debug__":Str))=false:=by decide):wpAny (model X.prog X.w) X.A (eval (.Name x pos) X.env) Q E s:=by
  obtain ⟨mb,h1,h2⟩:=I.mod.blt
  exact Calls.Name_function_global I.ok.kind hg (Calls.loadGlobal_builtin (by rw [I.ok.glob];exact I.mod.glob.keeps I.bk) hm (by rw [I.ok.blt];exact h1.keeps I.bk) ((h2 x hn).trans hv) h) hd
theorem zJ {x:Str} {v:V} {u:Value} {pos:Pos} (hg:Gl X x) (hm:X.mg x=some u) (r:RelV v u) (hd:(x == ("__debug__":Str))=false:=by decide):PE X (.Name x pos) (tC v) :=
  fun _ _ _ H _ I h=>t9 I hg hm ⟨v,H,I,r,h⟩ hd
theorem jn {x:Str} {v:V} {u:Value} {pos:Pos} (hg:Gl X x) (hm:X.mg x=none) (hv:bootBuiltins x=some u) (r:RelV v u) (hn:x ≠ "__name__":=by decide) (hd:(x == ("__debug__":Str))=false:=by decide):PE X (.Name x pos) (tC v) :=
  fun _ _ _ H _ I h=>hU I hg hm hv ⟨v,H,I,r,h⟩ hn hd
variable {a b:Expr} {ta tb:TE} {pos:Pos}
noncomputable def PC (X:Cx) (op:CmpOp) (a b:Expr) (t:TE):Prop :=
  ∀ (pins:List (Addr × Obj)) (s:Shared) (σ:St) (H:Hp) (Q:VK),Inv X pins σ H s->t σ H Q ->
    wpAny (model X.prog X.w) X.A (eval a X.env) (fun v s₁=>wpAny (model X.prog X.w) X.A (eval b X.env) (fun u s₂=>wpAny (model X.prog X.w) X.A (compareOp op v u) (EP X pins σ Q) X.xe s₂) X.xe s₁) X.xe s
noncomputable def tB (t:TE):TT:=fun σ H Q=>t σ H fun x H1=>∃ c,x=.bl c/\Q c H1
theorem BU {e:Expr} {t:TE} (h:PE X e t) (he:∀ whole,isTrue e X.env whole=(do let v <- whole;standAt e.pos;holding [v] (truthy v)):=by intro _;rfl):PT X e (tB t):=by
  intro pins s σ H Q I hw
  refine isTrue_plain (thn (h pins s σ H _ I hw) fun v s1 ⟨x,H1,I1,r1,q1⟩=>?_) (he _)
  obtain ⟨d,rfl,q⟩:=q1
  cases r1
  exact DH ⟨H1,I1,q⟩
variable {tA tB':TT} {gk:List Expr}
noncomputable def tAnd (t u:TT):TT:=fun σ H Q=>t σ H fun c H1=>if c=true then u σ H1 Q else Q false H1
noncomputable def tOr (t u:TT):TT:=fun σ H Q=>t σ H fun c H1=>if c=true then Q true H1 else u σ H1 Q
noncomputable def tNot (t:TT):TT:=fun σ H Q=>t σ H fun c H1=>Q (!c) H1
theorem zv (ha:PT X a tA):PW X (.BoolOp .And [a] pos) tA:=by
  intro wh pins s σ H Q I h
  refine isTrue_and (thn (ha pins s σ H Q I h) fun c s1 e=>?_)
  cases c with
  | true=>exact isTrue_and_nil e
  | false=>exact e
theorem BS (ha:PT X a tA):PW X (.BoolOp .Or [a] pos) tA:=by
  intro wh pins s σ H Q I h
  refine isTrue_or (thn (ha pins s σ H Q I h) fun c s1 e=>?_)
  cases c with
  | false=>exact isTrue_or_nil e
  | true=>exact e
theorem BT (ha:PT X a tA) (hb:PW X (.BoolOp .And (b :: gk) pos) tB'):PW X (.BoolOp .And (a :: b :: gk) pos) (tAnd tA tB'):=by
  intro wh pins s σ H Q I h
  refine isTrue_and (thn (ha pins s σ H _ I h) fun c s1 ⟨H1,I1,q1⟩=>?_)
  cases c with
  | true=>exact hb wh pins s1 σ H1 Q I1 q1
  | false=>exact ⟨H1,I1,q1⟩
theorem pw_or (ha:PT X a tA) (hb:PW X (.BoolOp .Or (b :: gk) pos) tB'):PW X (.BoolOp .Or (a :: b :: gk) pos) (tOr tA tB'):=by
  intro wh pins s σ H Q I h
  refine isTrue_or (thn (ha pins s σ H _ I h) fun c s1 ⟨H1,I1,q1⟩=>?_)
  cases c with
  | true=>exact ⟨H1,I1,q1⟩
  | false=>exact hb wh pins s1 σ H1 Q I1 q1
theorem BV (ha:PT X a tA):PT X (.UnaryOp .Not a pos) (tNot tA):=by
  intro pins s σ H Q I h
  exact isTrue_not (ha pins s σ H (fun c H1=>Q (!c) H1) I h)
noncomputable def AS (ta tb:TE):TE:=fun σ H Q=>ta σ H fun x H1=>∃ c,x=.bl c/\if c=true then tb σ H1 Q else Q (.bl false) H1
noncomputable def tOrV (ta tb:TE):TE:=fun σ H Q=>ta σ H fun x H1=>∃ c,x=.bl c/\if c=true then Q (.bl true) H1 else tb σ H1 Q
noncomputable def AL (ta:TE):TE:=fun σ H Q=>ta σ H fun x H1=>∃ c,x=.bl c/\Q (.bl (!c)) H1
theorem B4 {op} {t:TE} (h:PE X a t):PE X (.BoolOp op [a] pos) t:=fun pins s σ H Q I hw=>BoolOp_one (h pins s σ H Q I hw)
theorem Cc (ha:PE X a ta) (hb:PE X (.BoolOp .And (b :: gk) pos) tb):PE X (.BoolOp .And (a :: b :: gk) pos) (AS ta tb):=by
  intro pins s σ H Q I h
  refine BoolOp_and (thn (ha pins s σ H _ I h) fun v s1 ⟨x,H1,I1,r1,q1⟩=>?_)
  obtain ⟨c,rfl,q1⟩:=q1
  cases r1
  refine DH ?_
  cases c with
  | true=>exact hb pins s1 σ H1 Q I1 q1
  | false=>exact ⟨.bl false,H1,I1,rfl,q1⟩
theorem pe_or (ha:PE X a ta) (hb:PE X (.BoolOp .Or (b :: gk) pos) tb):PE X (.BoolOp .Or (a :: b :: gk) pos) (tOrV ta tb):=by
  intro pins s σ H Q I h
  refine BoolOp_or (thn (ha pins s σ H _ I h) fun v s1 ⟨x,H1,I1,r1,q1⟩=>?_)
  obtain ⟨c,rfl,q1⟩:=q1
  cases r1
  refine DH ?_
  cases c with
  | false=>exact hb pins s1 σ H1 Q I1 q1
  | true=>exact ⟨.bl true,H1,I1,rfl,q1⟩
theorem B5 (ha:PE X a ta):PE X (.UnaryOp .Not a pos) (AL ta):=by
  intro pins s σ H Q I h
  refine UnaryOp_ (thn (ha pins s σ H _ I h) fun v s1 ⟨x,H1,I1,r1,q1⟩=>?_)
  obtain ⟨c,rfl,q1⟩:=q1
  cases r1
  exact not_of (DH ⟨.bl (!c),H1,I1,rfl,q1⟩)
noncomputable def tIf (t:TT) (ta tb:TE):TE:=fun σ H Q=>t σ H fun c H1=>if c=true then ta σ H1 Q else tb σ H1 Q
theorem xn {c:Expr} (hc:PT X c tA) (ha:PE X a ta) (hb:PE X b tb):PE X (.IfExp c a b pos) (tIf tA ta tb):=by
  intro pins s σ H Q I h
  refine wpAny_IfExp (thn (hc pins s σ H _ I h) fun d s1 ⟨H1,I1,q1⟩=>?_)
  cases d with
  | true=>exact ha pins s1 σ H1 Q I1 q1
  | false=>exact hb pins s1 σ H1 Q I1 q1
end
end L2
namespace L2
open PySem PySem.Spec PyProof.Rows
noncomputable def SqL (K:FG) (H:Hp) (a:Addr) (xs:List V):Prop :=
  Rd H a (.lst xs) \/
    ∃ (o:Obj) (its:Array Value) (n:Nat),K.lookup a=some o/\o.cls=.type "list"/\o.dict=none/\o.data=.seq its n/\its.size<=sizeLine/\Vals xs its.toList
noncomputable def SqT (K:FG) (H:Hp) (a:Addr) (xs:List V):Prop :=
  Rd H a (.tup xs) \/
    ∃ (o:Obj) (its:Array Value) (n:Nat),K.lookup a=some o/\o.cls=.type "tuple"/\o.data=.seq its n/\its.size<=sizeLine/\Vals xs its.toList
noncomputable def absV:Value->Option V
  | .none=>some .non
  | .bool b=>some (.bl b)
  | .int i _=>some (.int i)
  | .str x _=>some (.str x)
  | .bytes b _=>some (.byt b)
  | .float b _=>some (.flt b)
  | .ref a=>some (.ref a)
  | .type n=>some (.ty n)
  | _=>none
theorem RelV.abs {x:V} {u:Value} (r:RelV x u):absV u=some x:=by
  cases x with
  | non=>cases r;rfl
  | bl _=>cases r;rfl
  | int _=>obtain ⟨t,rfl⟩:=r;rfl
  | str _=>obtain ⟨t,rfl⟩:=r;rfl
  | byt _=>obtain ⟨t,rfl⟩:=r;rfl
  | flt _=>obtain ⟨t,rfl⟩:=r;rfl
  | ref _=>cases r;rfl
  | ty _=>cases r;rfl
theorem RelV.inj {x y:V} {u:Value} (r:RelV x u) (q:RelV y u):x=y:=DO (r.abs.symm.trans q.abs)
theorem Vals.inj:∀ {xs ys:List V} {us:List Value},Vals xs us->Vals ys us->xs=ys
  | _,_,_,.nil,.nil=>rfl
  | _,_,_,.cons r t,.cons r' t'=>by rw [r.inj r',Vals.inj t t']
section
variable {X:Cx} {pins:List (Addr × Obj)} {σ:St} {H:Hp} {s:Shared} {a:Addr} {xs ys:List V}
theorem SqL.of {K:FG} (h:H a=some (.lst xs)):SqL K H a xs:=.inl (.inl h)
theorem SqT.of {K:FG} (h:H a=some (.tup xs)):SqT K H a xs:=.inl (.inl h)
theorem Inv.list (I:Inv X pins σ H s) (h:SqL X.K H a xs):∃ its:List Value,Vals xs its/\PlainL s.heap a its.toArray/\xs.length<=sizeLine:=by
  rcases h with h | ⟨o,its,n,hk,hc,hd,hs,hz,r⟩
  · obtain ⟨z,its,n,r,e⟩:=h.ok I.hok
    exact ⟨its,r,⟨_,n,e,rfl,rfl,rfl⟩,z⟩
  · refine ⟨its.toList,r,⟨o,n,I.kIn a o hk,hc,hd,by simpa using hs⟩,?_⟩
    have e:=r.length
    simp only [Array.length_toList] at e
    omega
theorem Inv.tuple (I:Inv X pins σ H s) (h:SqT X.K H a xs):∃ its:List Value,Vals xs its/\IsTup s.heap a its.toArray/\xs.length<=sizeLine:=by
  rcases h with h | ⟨o,its,n,hk,hc,hs,hz,r⟩
  · obtain ⟨z,its,r,p⟩:=h.ok I.hok
    exact ⟨its,r,p.tup,z⟩
  · refine ⟨its.toList,r,⟨o,I.kIn a o hk,hc,n,by simpa using hs⟩,?_⟩
    have e:=r.length
    simp only [Array.length_toList] at e
    omega
theorem Inv.list_inj (I:Inv X pins σ H s) (h:SqL X.K H a xs) (h':SqL X.K H a ys):xs=ys:=by
  obtain ⟨its,r,⟨o,n,e,_,_,d⟩,_⟩:=I.list h
  obtain ⟨its',r',⟨o',n',e',_,_,d'⟩,_⟩:=I.list h'
  rw [e] at e';cases e'
  rw [d] at d'
  injection d' with d1 _
  have:its=its':=by simpa using congrArg Array.toList d1
  subst this
  exact r.inj r'
theorem Inv.tuple_inj (I:Inv X pins σ H s) (h:SqT X.K H a xs) (h':SqT X.K H a ys):xs=ys:=by
  obtain ⟨its,r,⟨o,e,_,n,d⟩,_⟩:=I.tuple h
  obtain ⟨its',r',⟨o',e',_,n',d'⟩,_⟩:=I.tuple h'
  rw [e] at e';cases e'
  rw [d] at d'
  injection d' with d1 _
  have:its=its':=by simpa using congrArg Array.toList d1
  subst this
  exact r.inj r'
end
noncomputable abbrev Cx.wish (X:Cx) (E:Value->Shared->Prop):Cx:={ X with xe:=E }
noncomputable abbrev Cx.nox (X:Cx):Cx:=X.wish fun _ _=>False
theorem Cx.Ok.wish {X:Cx} (ok:X.Ok) (E:Value->Shared->Prop):(X.wish E).Ok :=
  ⟨ok.mod,ok.kind,ok.glob,ok.blt,ok.above,ok.inj,ok.has,ok.cab,ok.hd,ok.frames,ok.stk,ok.exf,ok.bs,ok.bsz,ok.noex,ok.exfs,ok.funs,ok.frf⟩
theorem Cx.Ok.unwish {X:Cx} {E:Value->Shared->Prop} (ok:(X.wish E).Ok):X.Ok :=
  ⟨ok.mod,ok.kind,ok.glob,ok.blt,ok.above,ok.inj,ok.has,ok.cab,ok.hd,ok.frames,ok.stk,ok.exf,ok.bs,ok.bsz,ok.noex,ok.exfs,ok.funs,ok.frf⟩
section
variable {X:Cx} {pins:List (Addr × Obj)} {σ:St} {H:Hp} {s:Shared} {E:Value->Shared->Prop}
theorem Inv.wish (I:Inv X pins σ H s) (E:Value->Shared->Prop):Inv (X.wish E) pins σ H s:=⟨I.ok.wish E,I.os,I.bare,I.base,I.loc,I.cell,I.free,I.freeC,I.pin,I.hok,I.len⟩
theorem Inv.unwish (I:Inv (X.wish E) pins σ H s):Inv X pins σ H s:=⟨I.ok.unwish,I.os,I.bare,I.base,I.loc,I.cell,I.free,I.freeC,I.pin,I.hok,I.len⟩
set_option tactic.hygienic true in
theorem SP.unwish {D:Ends} {f:Flow} {s':Shared} (h:SP (X.wish E) pins D f s'):SP X pins D f s':=by
  cases f with
  | next=>obtain ⟨σ',H',I,q⟩:=h;exact ⟨σ',H',I.unwish,q⟩
  | brk=>obtain ⟨σ',H',I,q⟩:=h;exact ⟨σ',H',I.unwish,q⟩
  | cont=>obtain ⟨σ',H',I,q⟩:=h;exact ⟨σ',H',I.unwish,q⟩
  | ret u=>obtain ⟨v,σ',H',I,r,q⟩:=h;exact ⟨v,σ',H',I.unwish,r,q⟩
theorem PSs.nox {st:List Stmt} {t:TS} (h:PSs X.nox st t):PSs X st t:=fun pins s σ H D I hw =>
  wpAny_mono (h pins s σ H D (I.wish _) hw) (fun _ _ q=>q.unwish) fun _ _ z=>False.elim z
end
section
variable {X:Cx} {st:Stmt} {gk:List Stmt} {t u:TS} {e:Expr} {te:TE} {pos:Pos}
noncomputable def AM:TS:=fun D σ H=>D.nx σ H
noncomputable def tSeq (t u:TS):TS:=fun D σ H=>t { D with nx:=u D } σ H
theorem zD:PSs X [] AM:=fun _ _ σ H _ I h=>wpAny_execs_nil ⟨σ,H,I,h⟩
set_option tactic.hygienic true in
theorem xg (h1:PS X st t) (h2:PSs X gk u):PSs X (st :: gk) (tSeq t u):=by
  intro pins s σ H D I h
  refine wpAny_execs_cons (thn (h1 pins s σ H { D with nx:=u D } I h) fun f s1 q=>?_)
  cases f with
  | next =>
    obtain ⟨σ',H',I',q⟩:=q
    exact h2 pins s1 σ' H' D I' q
  | ret v=>exact q
  | brk=>exact q
  | cont=>exact q
set_option tactic.hygienic true in
theorem zC (h1:PS X st t):PSs X [st] t:=by
  intro pins s σ H D I h
  refine wpAny_execs_cons (thn (h1 pins s σ H D I h) fun f s1 q=>?_)
  cases f with
  | next=>exact wpAny_execs_nil q
  | ret v=>exact q
  | brk=>exact q
  | cont=>exact q
theorem Inv.quiet {pins:List (Addr × Obj)} {σ:St} {H:Hp} {s:Shared} (I:Inv X pins σ H s):interactive X.env=false:=by simp [interactive,I.ok.kind]
noncomputable def AO (te:TE):TS:=fun D σ H=>te σ H fun _ H1=>D.nx σ H1
theorem zE (he:PE X e te) (hs:swapsWith e none pos.line X.env=pure false:=by rfl):PS X (.Expr e pos) (AO te):=by
  intro pins s σ H D I h
  exact wpAny_Expr_any (thn (he pins s σ H _ I h) fun v s1 ⟨x,H1,I1,r1,q1⟩=>⟨σ,H1,I1,q1⟩) I.quiet hs
noncomputable def tRet (te:TE):TS:=fun D σ H=>te σ H D.rt
theorem BY (he:PE X e te):PS X (.Return (some e) pos) (tRet te):=by
  intro pins s σ H D I h
  exact wpAny_Return_some (thn (he pins s σ H _ I h) fun v s1 ⟨x,H1,I1,r1,q1⟩=>⟨x,σ,H1,I1,r1,q1⟩)
noncomputable def tIfS (c:TT) (t u:TS):TS:=fun D σ H=>c σ H fun b H1=>if b=true then t D σ H1 else u D σ H1
theorem ps_if {c:Expr} {a b:List Stmt} {tc:TT} (hc:PT X c tc) (ha:PSs X a t) (hb:PSs X b u):PS X (.If c a b pos) (tIfS tc t u):=by
  intro pins s σ H D I h
  refine wpAny_If (thn (hc pins s σ H _ I h) fun d s1 ⟨H1,I1,q1⟩=>?_)
  cases d with
  | true=>exact ha pins s1 σ H1 D I1 q1
  | false=>exact hb pins s1 σ H1 D I1 q1
noncomputable def Bt:TS:=fun _ _ _=>False
theorem xi:PS X st Bt:=fun _ _ _ _ _ _ h=>h.elim
end
noncomputable abbrev TG:=V->St->Hp->(St->Hp->Prop)->Prop
noncomputable abbrev TGs:=List V->St->Hp->(St->Hp->Prop)->Prop
noncomputable def PG (X:Cx) (target:Expr) (t:TG):Prop :=
  ∀ (pins:List (Addr × Obj)) (s:Shared) (σ:St) (H:Hp) (v:V) (u:Value) (Q:St->Hp->Prop),Inv X pins σ H s->RelV v u->t v σ H Q ->
    wpAny (model X.prog X.w) X.A (assign target X.env u) (fun _ s'=>∃ σ' H',Inv X pins σ' H' s'/\Q σ' H') X.xe s
noncomputable def PGs (X:Cx) (ts:List Expr) (t:TGs):Prop :=
  ∀ (pins:List (Addr × Obj)) (s:Shared) (σ:St) (H:Hp) (vs:List V) (us:List Value) (Q:St->Hp->Prop),Inv X pins σ H s->Vals vs us->t vs σ H Q ->
    wpAny (model X.prog X.w) X.A (assignInOrder ((assignEach ts X.env).map (·.2)) us) (fun _ s'=>∃ σ' H',Inv X pins σ' H' s'/\Q σ' H') X.xe s
noncomputable abbrev wd:=V->V->V->Hp->(Hp->Prop)->Prop
noncomputable def yJ (X:Cx) (t:wd):Prop :=
  ∀ (pins:List (Addr × Obj)) (s:Shared) (σ:St) (H:Hp) (o i v:V) (ov iv u:Value) (Q:Hp->Prop),Inv X pins σ H s->RelV o ov->RelV i iv->RelV v u->t o i v H Q ->
    wpAny (model X.prog X.w) X.A (setItem ov iv u) (fun _ s'=>∃ H',Inv X pins σ H' s'/\Q H') X.xe s
section
variable {X:Cx} {pos:Pos}
noncomputable def ui (i:Nat):TG:=fun v σ H Q=>Q (σ.set i (some v)) H
theorem aW {i:Nat} {x:Str} (hN:X.N.Nodup) (hi:X.N[i]?=some x) (hx:Loc X.env.scope x) (hf:X.fn x=true\/X.env.scope.names.lookup x=some .local:=by first | exact .inl rfl | exact .inr rfl | assumption):PG X (.Name x pos) (ui i):=by
  intro pins s σ H v u Q I r h
  exact wpAny_assign_Name (pY I hN hi hx r (fun s' I'=>⟨_,H,I',h⟩) hf)
noncomputable def gNil:TGs:=fun vs σ H Q=>vs=[]/\Q σ H
noncomputable def A9 (t:TG) (u:TGs):TGs:=fun vs σ H Q=>∃ v r,vs=v :: r/\t v σ H fun σ' H'=>u r σ' H' Q
theorem oR:PGs X [] gNil:=by
  intro pins s σ H vs us Q I r h
  obtain ⟨e,h⟩:=h
  subst e
  cases r
  exact assignInOrder_nil ⟨σ,H,I,h⟩
theorem iN {e:Expr} {es:List Expr} {t:TG} {u:TGs} (h1:PG X e t) (h2:PGs X es u)
    (hs:(assignEach (e :: es) X.env).map (·.2)=assign e X.env :: (assignEach es X.env).map (·.2):=by rfl):PGs X (e :: es) (A9 t u):=by
  intro pins s σ H vs us Q I r h
  obtain ⟨v,vr,e1,h⟩:=h
  subst e1
  cases r with
  | cons r rr =>
    rw [hs]
    refine assignInOrder_cons (thn (h1 pins s σ H _ _ _ I r h) fun _ s1 ⟨σ1,H1,I1,q1⟩=>?_)
    exact h2 pins s1 σ1 H1 _ _ Q I1 rr q1
noncomputable def gTup (K:FG) (n:Nat) (t:TGs):TG:=fun v σ H Q=>∃ a xs,v=.ref a/\SqT K H a xs/\xs.length=n/\t xs σ H Q
theorem sf {es:List Expr} {k:Nat} {t:TGs} {n:Nat} (hc:X.calm=true) (h:PGs X es t)
    (hn:(assignEach es X.env).length=n:=by rfl) (hst:(assignEach es X.env).findIdx? (·.1)=none:=by rfl):PG X (.Tuple es k pos) (gTup X.K n t):=by
  intro pins s σ H v u Q I r hw
  obtain ⟨a,xs,e1,hq,hl,hw⟩:=hw
  subst e1
  cases r
  obtain ⟨its,rv,ht,hz⟩:=I.tuple hq
  refine assign_Tuple_tuple (I.ok.hd hc) ht (by simp [hn,<- hl,rv.length]) hst fun h' hx=>?_
  have I1:Inv X pins σ H { s with heap:=h' }:=I.kept (t':=s.toks) fun b o e=>hx b o (Do (Dd e)) e
  exact h pins _ σ H xs _ Q I1 (by simpa using rv) hw
noncomputable def gSub (to ti:TE) (t:wd):TG:=fun v σ H Q=>to σ H fun o H1=>ti σ H1 fun i H2=>t o i v H2 fun H3=>Q σ H3
theorem B2 {o i:Expr} {to ti:TE} {t:wd} (ho:PE X o to) (hi:PE X i ti) (hs:yJ X t)
    (ha:∀ v,assign (.Subscript o i pos) X.env v=(do
      let ov <- holding [v] (eval o X.env)
      let iv <- holding [v,ov] (eval i X.env)
      standAt pos
      holding [v,ov,iv] (setItem ov iv v)
      release [v,ov,iv] []):=by intro _;rfl):PG X (.Subscript o i pos) (gSub to ti t):=by
  intro pins s σ H v u Q I r h
  rw [ha]
  refine C2 (C4 (thn (ho pins s σ H _ I h) fun ov s1 ⟨x,H1,I1,r1,q1⟩=>?_))
  refine C2 (C4 (thn (hi pins s1 σ H1 _ I1 q1) fun iv s2 ⟨y,H2,I2,r2,q2⟩=>?_))
  refine C2 (wpAny_standAt (C2 (C4 (thn (hs pins s2 σ H2 x y v ov iv u _ I2 r1 r2 r q2) fun _ s3 ⟨H3,I3,q3⟩=>?_))))
  exact wpAny_release ⟨σ,H3,I3,q3⟩
noncomputable def wx (te:TE) (g:TG):TS:=fun D σ H=>te σ H fun x H1=>g x σ H1 D.nx
theorem xj {tg e:Expr} {te:TE} {g:TG} (he:PE X e te) (hg:PG X tg g) (hs:swapsWithSole [tg] e pos.line X.env=pure false:=by rfl) (hw:swappedStores [tg] e X.env=pure none:=by rfl)
    (h1:(assignEach [tg] X.env).map (·.2)=[assign tg X.env]:=by rfl):PS X (.Assign [tg] e pos) (wx te g):=by
  intro pins s σ H D I h
  refine wpAny_Assign_stores (thn (he pins s σ H _ I h) fun v s1 ⟨x,H1,I1,r1,q1⟩=>?_) hs hw
  rw [h1]
  exact thn (hg pins s1 σ H1 x v _ I1 r1 q1) fun _ s2 q=>q
theorem BW {i:Nat} {x:Str} {e:Expr} {te:TE} {pos':Pos} (hN:X.N.Nodup) (hi:X.N[i]?=some x) (hx:Loc X.env.scope x) (he:PE X e te) (hs:swapsWith e (some (.Name x pos')) pos.line X.env=pure false:=by rfl) (hf:X.fn x=true\/X.env.scope.names.lookup x=some .local:=by first | exact .inl rfl | exact .inr rfl | assumption) :
    PS X (.Assign [.Name x pos'] e pos) (wx te (ui i)):=by
  intro pins s σ H D I h
  refine wpAny_Assign_Name (thn (he pins s σ H _ I h) fun v s1 ⟨y,H1,I1,r1,q1⟩=>?_) hs
  exact pY I1 hN hi hx r1 (fun s2 I2=>⟨_,H1,I2,q1⟩) hf
end
section
variable {X:Cx} {pos:Pos}
noncomputable def wr (c:TT) (tb:TS):TS:=fun D σ H=>∃ W:Nat->St->Hp->Prop,(∃ m,W m σ H)/\∀ m σ H,W m σ H ->
  c σ H fun b H1=>if b=true then ∃ N:St->Hp->Prop,(∀ σ' H',N σ' H'->∃ m',m' < m/\W m' σ' H')/\tb { D with nx:=N,ct:=N,bk:=D.nx } σ H1 else D.nx σ H1
set_option tactic.hygienic true in
theorem xh {c:Expr} {body:List Stmt} {tc:TT} {tb:TS} (hp:PassesOwn (model X.prog X.w) X.A X.env X.xe) (hc:PT X c tc) (hb:PSs X body tb):PS X (.While c body [] pos) (wr tc tb):=by
  intro pins s σ H D I h
  obtain ⟨W,⟨m0,w0⟩,turn⟩:=h
  refine wpAny_While (codeAny_whileLoop (fun n s'=>∃ σ' H',Inv X pins σ' H' s'/\W n σ' H') ?_ m0 ⟨σ,H,I,w0⟩)
  rintro n s1 ⟨σ1,H1,I1,w1⟩
  refine wpAny_passesOwn hp (thn (hc pins s1 σ1 H1 _ I1 (turn n σ1 H1 w1)) fun b s2 ⟨H2,I2,q2⟩=>?_)
  cases b with
  | true =>
    obtain ⟨N,hN,q2⟩:=q2
    rw [if_pos rfl]
    refine wpAny_passesOwn hp (thn (hb pins s2 σ1 H2 _ I2 q2) fun f s3 q3=>?_)
    cases f with
    | next =>
      obtain ⟨σ3,H3,I3,n3⟩:=q3
      obtain ⟨m',hm,w3⟩:=hN σ3 H3 n3
      exact ⟨m',hm,σ3,H3,I3,w3⟩
    | cont =>
      obtain ⟨σ3,H3,I3,n3⟩:=q3
      obtain ⟨m',hm,w3⟩:=hN σ3 H3 n3
      exact ⟨m',hm,σ3,H3,I3,w3⟩
    | brk=>exact q3
    | ret v=>exact q3
  | false =>
    rw [if_neg Dn]
    exact wpAny_execs_nil ⟨σ1,H2,I2,q2⟩
end
structure It where
  go:Nat->Hp->Prop
  yld:Nat->Hp->V->Hp->Prop
  stop:Nat->Hp->Prop
noncomputable def FpOk (X:Cx) (pins:List (Addr × Obj)) (H:Hp) (b:Addr):Prop :=
  H b=none/\b ≠ X.env.locals/\b ∉ X.fs/\(b ∈ X.ex\/X.s₀.heap.objs.size<=b)/\(∀ x c,X.env.cells.lookup x=some c->c ≠ b)/\∀ p ∈ X.pn ++ pins,p.1 ≠ b
theorem Inv.fpOk {X:Cx} {pins:List (Addr × Obj)} {σ:St} {H H':Hp} {s:Shared} {b:Addr} (I:Inv X pins σ H s) (hb:s.heap.objs.size<=b) (hn:H' b=none):FpOk X pins H' b:=by
  refine ⟨hn,Nat.ne_of_gt (Dt I.lt hb),I.nofs hb,.inr (DI I.sz hb),fun x c e z=>?_,fun p hp z=>?_⟩
  · obtain ⟨v,q⟩:=I.cell x c e
    exact absurd (Dt q.lt (by rw [z];exact hb)) (Nat.lt_irrefl _)
  · exact absurd (Dt (Dd (I.pin p hp).1) (by rw [z];exact hb)) (Nat.lt_irrefl _)
structure Turn (P:Program) (w:World) (K:FG) (tg:Expr) (J:It) (fp:List Addr) (it:Addr) (tn:Nat->Heap->Prop):Prop where
  mem:it ∈ fp
  obj:∀ i h,tn i h->∀ b ∈ fp,∃ o,h.get? b=some o/\∀ v,o.data ≠ .cell v
  keep:∀ i h h',tn i h->(∀ b ∈ fp,∀ o,h.get? b=some o->h'.get? b=some o)->tn i h'
  item:∀ (X:Cx),X.prog=P->X.w=w->X.K=K->X.calm=true->∀ (i:Nat) (pins:List (Addr × Obj)) (s:Shared) (σ:St) (H:Hp) (E:Value->Shared->Prop),Inv X pins σ H s->(∀ b ∈ fp,FpOk X pins H b)->tn i s.heap->J.go i H ->
    wpAny (model P w) X.A (pyNext (.ref it)) (fun r s1=>∃ u,r=some u /\
      wpAny (model P w) X.A (letOwnedTupleGo tg (.ref it) u) (fun _ s2=>∃ x H',Inv X pins σ H' s2/\RelV x u/\J.yld i H x H'/\tn (i+1) s2.heap/\∀ b ∈ fp,H' b=none) E s1) E s
  done:∀ (X:Cx),X.prog=P->X.w=w->X.K=K->X.calm=true->∀ (i:Nat) (pins:List (Addr × Obj)) (s:Shared) (σ:St) (H:Hp) (E:Value->Shared->Prop),Inv X pins σ H s->(∀ b ∈ fp,FpOk X pins H b)->tn i s.heap->J.stop i H ->
    wpAny (model P w) X.A (pyNext (.ref it)) (fun r s1=>r=none/\Inv X pins σ H s1) E s
  self:∀ (A:Around) (i:Nat) (s:Shared) (Q:Value->Shared->Prop) (E:Value->Shared->Prop),tn i s.heap->Q (.ref it) s->wpAny (model P w) A (pyIter (.ref it)) Q E s
noncomputable abbrev TI:=St->Hp->(It->Hp->Prop)->Prop
noncomputable def PIE (X:Cx) (pins:List (Addr × Obj)) (σ:St) (tg:Expr) (R:It->Hp->Prop) (itv:Value) (s2:Shared):Prop :=
  ∃ (it:Addr) (fp:List Addr) (tn:Nat->Heap->Prop) (J:It) (H':Hp),itv=.ref it/\Inv X pins σ H' s2/\Turn X.prog X.w X.K tg J fp it tn/\tn 0 s2.heap/\(∀ b ∈ fp,FpOk X pins H' b)/\R J H'
noncomputable def PI (X:Cx) (tg iter:Expr) (wi:TI):Prop :=
  ∀ (pins:List (Addr × Obj)) (s:Shared) (σ:St) (H:Hp) (R:It->Hp->Prop),Inv X pins σ H s->wi σ H R ->
    wpAny (model X.prog X.w) X.A (eval iter X.env) (fun v s1=>wpAny (model X.prog X.w) X.A (pyIter v) (PIE X pins σ tg R) X.xe s1) X.xe s
theorem qK {M : Model} {A : Around} {E : Value -> Shared -> Prop} {s : Shared} {tg : Expr} {it : Addr} {u : Value} {o : Obj} {n : String} {vs : Array Value} {Q : Unit -> Shared -> Prop} (ho : s.heap.get? it = some o) (hc : o.cls = .type n) (hd : o.data = .fields vs)
    (hn : ["enumerate", "zip", "dict_itemiterator", "dict_reverseitemiterator", "odict_iterator", "itertools.zip_longest", "itertools.pairwise"].contains n = false) (hQ : Q () s) : wpAny M A (letOwnedTupleGo tg (.ref it) u) Q E s := by
  unfold letOwnedTupleGo
  cases tg <;> first
    | exact C3 hQ
    | (cases u <;> first
        | exact C3 hQ
        | (refine C2 (wpAny_load ho ?_)
           rw [hc, hd]
           show wpAny M A (if (["enumerate", "zip", "dict_itemiterator", "dict_reverseitemiterator", "odict_iterator", "itertools.zip_longest", "itertools.pairwise"].contains n && vs[0]? == some (rawInt _)) = true then _ else _) Q E s
           rw [if_neg (by intro h; rw [hn, Bool.false_and] at h; cases h)]
           exact C3 hQ))
noncomputable def Itl (K:FG) (a:Addr):It :=
  ⟨fun i H=>∃ xs x,SqL K H a xs/\xs[i]?=some x,fun i H x H'=>H'=H/\∀ xs,SqL K H a xs->xs[i]?=some x,fun i H=>∃ xs,SqL K H a xs/\xs.length<=i⟩
noncomputable def Itt (K:FG) (a:Addr):It :=
  ⟨fun i H=>∃ xs x,SqT K H a xs/\xs[i]?=some x,fun i H x H'=>H'=H/\∀ xs,SqT K H a xs->xs[i]?=some x,fun i H=>∃ xs,SqT K H a xs/\xs.length<=i⟩
noncomputable def Itr (lo:Int) (n:Nat):It:=⟨fun i _=>i < n,fun i H x H'=>H'=H/\x=.int (lo+i),fun i _=>n<=i⟩
theorem uJ {P:Program} {w:World} {K:FG} {tg:Expr} (a it:Addr):Turn P w K tg (Itl K a) [it] it (fun i h=>h.IsListIter it a i) where
  mem:=by simp
  obj:=fun i h st b hb=>by
    have e:b=it:=by simpa using hb
    subst e
    obtain ⟨o,e,c,d⟩:=st
    exact ⟨o,e,fun v z=>by rw [d] at z;cases z⟩
  keep:=fun i h h' st k=>st.at fun o e=>k it (by simp) o e
  item:=by
    intro X hP hw hK hc i pins s σ H E I hf st hg
    subst hP hw hK
    obtain ⟨xs,x,hq,hx⟩:=hg
    obtain ⟨its,rv,p,hz⟩:=I.list hq
    obtain ⟨u,hu,ru⟩:=rv.get hx
    obtain ⟨f0,f1,f2,f3,f4,f5⟩:=hf it (by simp)
    refine wpAny_pyNext_list_item st p.isList (x:=u) (by simpa using hu) fun h' st' sb=>?_
    have I1:Inv X pins σ H { s with heap:=h' }:=I.turned (t':=s.toks) (fun b o hb e=>(sb.2 b hb).trans e) f0 f1 f3 f4 f5
    obtain ⟨o,e,c,d⟩:=id st'
    exact ⟨u,rfl,qK (s:={ s with heap:=h' }) e c d (by decide) ⟨x,H,I1,ru,⟨rfl,fun ys hy=>by rw [I.list_inj hy hq];exact hx⟩,st',fun b hb=>(hf b hb).1⟩⟩
  done:=by
    intro X hP hw hK hc i pins s σ H E I hf st hg
    subst hP hw hK
    obtain ⟨xs,hq,hx⟩:=hg
    obtain ⟨its,rv,p,hz⟩:=I.list hq
    obtain ⟨f0,f1,f2,f3,f4,f5⟩:=hf it (by simp)
    have hl:=rv.length
    exact wpAny_pyNext_list_end (I.ok.hd hc) st p.isList (by simp;omega) fun h' eb=>⟨rfl,I.turned (t':=s.toks) (fun b o hb e=>eb b o hb e) f0 f1 f3 f4 f5⟩
  self:=fun _ _ _ _ _ st h=>wpAny_pyIter_listiter st h
theorem rC {P:Program} {w:World} {K:FG} {tg:Expr} (a it:Addr):Turn P w K tg (Itt K a) [it] it (fun i h=>h.IsTupleIter it a i) where
  mem:=by simp
  obj:=fun i h st b hb=>by
    have e:b=it:=by simpa using hb
    subst e
    obtain ⟨o,e,c,d⟩:=st
    exact ⟨o,e,fun v z=>by rw [d] at z;cases z⟩
  keep:=fun i h h' st k=>st.at fun o e=>k it (by simp) o e
  item:=by
    intro X hP hw hK hc i pins s σ H E I hf st hg
    subst hP hw hK
    obtain ⟨xs,x,hq,hx⟩:=hg
    obtain ⟨its,rv,p,hz⟩:=I.tuple hq
    obtain ⟨u,hu,ru⟩:=rv.get hx
    obtain ⟨f0,f1,f2,f3,f4,f5⟩:=hf it (by simp)
    refine wpAny_pyNext_tuple_item st (show s.heap.IsTuple a its.toArray from p) (x:=u) (by simpa using hu) fun h' st' sb=>?_
    have I1:Inv X pins σ H { s with heap:=h' }:=I.turned (t':=s.toks) (fun b o hb e=>(sb.2 b hb).trans e) f0 f1 f3 f4 f5
    obtain ⟨o,e,c,d⟩:=id st'
    exact ⟨u,rfl,qK (s:={ s with heap:=h' }) e c d (by decide) ⟨x,H,I1,ru,⟨rfl,fun ys hy=>by rw [I.tuple_inj hy hq];exact hx⟩,st',fun b hb=>(hf b hb).1⟩⟩
  done:=by
    intro X hP hw hK hc i pins s σ H E I hf st hg
    subst hP hw hK
    obtain ⟨xs,hq,hx⟩:=hg
    obtain ⟨its,rv,p,hz⟩:=I.tuple hq
    obtain ⟨f0,f1,f2,f3,f4,f5⟩:=hf it (by simp)
    have hl:=rv.length
    exact wpAny_pyNext_tuple_end (I.ok.hd hc) st (show s.heap.IsTuple a its.toArray from p) (by simp;omega) fun h' eb=>⟨rfl,I.turned (t':=s.toks) (fun b o hb e=>eb b o hb e) f0 f1 f3 f4 f5⟩
  self:=fun _ _ _ _ _ st h=>wpAny_pyIter_tupleiter st h
theorem rD {P:Program} {w:World} {K:FG} {tg:Expr} (it:Addr) (lo:Int) (n:Nat):Turn P w K tg (Itr lo n) [it] it (fun i h=>IsRangeIter h it (lo+(i:Nat) * 1) ((n:Int) - (i:Nat)) 1) where
  mem:=by simp
  obj:=fun i h st b hb=>by
    have e:b=it:=by simpa using hb
    subst e
    exact ⟨_,st,fun v z=>by
      have z':Data.fields _=Data.cell v:=z
      cases z'⟩
  keep:=fun i h h' st k=>k it (by simp) _ st
  item:=by
    intro X hP hw hK hc i pins s σ H E I hf st hg
    subst hP hw hK
    obtain ⟨f0,f1,f2,f3,f4,f5⟩:=hf it (by simp)
    have W:=Walks.range (prog:=X.prog) (w:=X.w) (I.ok.hd hc) it lo 1 n
    refine W.item i s _ _ hg st fun v h' tk hv st' kk=>?_
    obtain ⟨t,rfl⟩:=hv
    have I1:Inv X pins σ H { s with heap:=h',toks:=tk }:=I.turned (fun b o hb e=>kk b o (by simpa using hb) e) f0 f1 f3 f4 f5
    refine ⟨_,rfl,qK (s:={ s with heap:=h',toks:=tk }) (n:="range_iterator") st' rfl rfl (by decide) ⟨.int (lo+i),H,I1,⟨t,?_⟩,⟨rfl,rfl⟩,st',fun b hb=>(hf b hb).1⟩⟩
    rw [Int.mul_one]
  done:=by
    intro X hP hw hK hc i pins s σ H E I hf st hg
    subst hP hw hK
    obtain ⟨f0,f1,f2,f3,f4,f5⟩:=hf it (by simp)
    exact wpAny_pyNext_range_end (I.ok.hd hc) st (by have:n<=i:=hg;omega) fun h' eb=>⟨rfl,I.turned (t':=s.toks) (fun b o hb e=>eb b o hb e) f0 f1 f3 f4 f5⟩
  self:=fun _ _ _ _ _ st h=>wpAny_pyIter_rangeiter st h
end L2
namespace L2
open PySem PySem.Spec PyProof.Rows
section
variable {X:Cx} {tg:Expr}
theorem qo {pins:List (Addr × Obj)} {σ:St} {H:Hp} {s:Shared} {R:It->Hp->Prop} {E:Value->Shared->Prop} {lo hi:Int} {t u v:Tok} {tk:Nat} (I:Inv X pins σ H s) (h1:-(2 ^ 62)<=lo) (h2:lo < 2 ^ 62) (h3:-(2 ^ 62)<=hi) (h4:hi < 2 ^ 62)
    (q:R (Itr lo (hi - lo).toNat) H):wpAny (model X.prog X.w) X.A (pyIter (.ref s.heap.objs.size)) (PIE X pins σ tg R) E { s with heap:=s.heap.push { cls:=.type "range",data:=.fields #[.int lo t,.int hi u,.int 1 v] },toks:=tk }:=by
  refine wpAny_pyIter_range (IsRange.new ..) (small_one h1 h2 h3 h4) ?_
  have I1:Inv X pins σ H { s with heap:=s.heap.push { cls:=.type "range",data:=.fields #[.int lo t,.int hi u,.int 1 v] },toks:=tk }:=I.kept fun b o e=>C7 _ e
  refine ⟨(s.heap.push { cls:=.type "range",data:=.fields #[.int lo t,.int hi u,.int 1 v] }).objs.size,[(s.heap.push { cls:=.type "range",data:=.fields #[.int lo t,.int hi u,.int 1 v] }).objs.size],_,_,H,rfl,
    I1.kept (t':=tk) fun b o e=>C7 _ e,rD _ lo (hi - lo).toNat,?_,fun b hb=>?_,q⟩
  · have e1:lo+((0:Nat):Int) * 1=lo:=by simp
    have e2:(((hi - lo).toNat:Nat):Int) - ((0:Nat):Int)=Builtin.Range.rangeSize lo hi 1:=by rw [rangeSize_one];split <;> omega
    show IsRangeIter _ _ (lo+((0:Nat):Int) * 1) ((((hi - lo).toNat:Nat):Int) - ((0:Nat):Int)) 1
    rw [e1,e2]
    exact Df _ rfl
  · have e:b=(s.heap.push { cls:=.type "range",data:=.fields #[.int lo t,.int hi u,.int 1 v] }).objs.size:=by simpa using hb
    subst e
    exact I1.fpOk (Dm _) (I1.hok.fresh (Dm _))
noncomputable def A7 (ta:TA):TI:=fun σ H R=>ta σ H fun vs H1=>∃ j:Int,vs=[.int j]/\-(2 ^ 62)<=j/\j < 2 ^ 62/\R (Itr 0 j.toNat) H1
noncomputable def A6 (ta:TA):TI:=fun σ H R=>ta σ H fun vs H1=>∃ i j:Int,vs=[.int i,.int j]/\(-(2 ^ 62)<=i/\i < 2 ^ 62/\-(2 ^ 62)<=j/\j < 2 ^ 62)/\R (Itr i (j - i).toNat) H1
theorem u6 {a:Expr} {ta:TA} {p pos:Pos} (hg:Gl X "range") (hm:X.mg "range"=none) (ha:PA X [a] ta) (hs:starEach [a] X.env=[(false,eval a X.env)]:=by rfl):PI X tg (.Call (.Name "range" p) [a] [] pos) (A7 ta):=by
  intro pins s σ H R I h
  refine Call_ (hU I hg hm boot_range (PyProof.Rows.callWith_type1 (thn (ha pos pins s σ H _ I h) fun us s1 ⟨vs,H1,I1,r1,q1⟩=>?_) hs rfl))
  obtain ⟨j,e,q1,q2,q⟩:=q1
  subst e
  cases r1 with
  | cons r rr =>
    cases rr
    obtain ⟨t,rfl⟩:=r
    exact call_range_1 (qo I1 (by omega) (by omega) q1 q2 (by simpa using q))
theorem u5 {a b:Expr} {ta:TA} {p pos:Pos} (hg:Gl X "range") (hm:X.mg "range"=none) (ha:PA X [a,b] ta) (hs:starEach [a,b] X.env=[(false,eval a X.env),(false,eval b X.env)]:=by rfl) (hs2:starEach [b] X.env=[(false,eval b X.env)]:=by rfl) :
    PI X tg (.Call (.Name "range" p) [a,b] [] pos) (A6 ta):=by
  intro pins s σ H R I h
  refine Call_ (hU I hg hm boot_range (PyProof.Rows.callWith_type1 (thn (ha pos pins s σ H _ I h) fun us s1 ⟨vs,H1,I1,r1,q1⟩=>?_) (by rw [hs,hs2]) (by rw [hs2];rfl)))
  obtain ⟨i,j,e,⟨q1,q2,q3,q4⟩,q⟩:=q1
  subst e
  cases r1 with
  | cons r rr =>
    cases rr with
    | cons r' rr =>
      cases rr
      obtain ⟨t,rfl⟩:=r
      obtain ⟨t',rfl⟩:=r'
      exact call_range_2 (qo I1 q1 q2 q3 q4 q)
noncomputable def tFor (wi:TI) (g:TG) (tb:TS):TS:=fun D σ H=>wi σ H fun J H1=>∃ W:Nat->Nat->St->Hp->Prop,(∃ m,W 0 m σ H1)/\∀ i m σ H,W i m σ H ->
  (J.stop i H/\D.nx σ H)\/(J.go i H/\∃ N:St->Hp->Prop,(∀ σ' H',N σ' H'->∃ m',m' < m/\W (i+1) m' σ' H')/\∀ x H',J.yld i H x H'->g x σ H' fun σ2 H2=>tb { D with nx:=N,ct:=N,bk:=D.nx } σ2 H2)
noncomputable def mj (fp:List Addr) (h:Heap):List (Addr × Obj):=fp.filterMap fun b=>(h.get? b).map fun o=>(b,o)
theorem gU {fp:List Addr} {h:Heap} {b:Addr} {o:Obj} (hb:b ∈ fp) (e:h.get? b=some o):(b,o) ∈ mj fp h:=List.mem_filterMap.mpr ⟨b,hb,by rw [e];rfl⟩
theorem u9 {fp:List Addr} {h:Heap} {p:Addr × Obj} (hp:p ∈ mj fp h):p.1 ∈ fp/\h.get? p.1=some p.2:=by
  obtain ⟨b,hb,e⟩:=List.mem_filterMap.mp hp
  cases q:h.get? b with
  | none=>rw [q] at e;cases e
  | some o =>
    rw [q] at e
    have e':(b,o)=p:=DO e
    subst e'
    exact ⟨hb,q⟩
theorem Inv.pinned {pins:List (Addr × Obj)} {σ:St} {H:Hp} {s:Shared} {fp:List Addr} (I:Inv X pins σ H s) (hf:∀ b ∈ fp,FpOk X pins H b) (ho:∀ b ∈ fp,∃ o,s.heap.get? b=some o/\∀ v,o.data ≠ .cell v):Inv X (pins ++ mj fp s.heap) σ H s :=
  I.pins_of fun p hp=>(De.mp hp).elim (fun z=>I.pin p (Da _ z)) fun z=>by
    obtain ⟨hb,e⟩:=u9 z
    obtain ⟨f0,f1,f2,_⟩:=hf p.1 hb
    obtain ⟨o,e',d⟩:=ho p.1 hb
    rw [e] at e';cases e'
    exact ⟨e,f0,f1,f2,d⟩
theorem Inv.unpinned {pins pl:List (Addr × Obj)} {σ:St} {H:Hp} {s:Shared} (I:Inv X (pins ++ pl) σ H s):Inv X pins σ H s:=I.pins_of fun p hp=>I.pin p (Da _ (C9 _ hp))
set_option tactic.hygienic true in
theorem BZ {iter:Expr} {body:List Stmt} {wi:TI} {g:TG} {tb:TS} {pos:Pos} (hp:PassesOwn (model X.prog X.w) X.A X.env X.xe) (hc:X.calm=true) (hi:PI X tg iter wi) (hg:PG X tg g) (hb:PSs X body tb)
    (hs:∀ x,foldedSetIterable iter X.env x=pure x:=by intro _;rfl):PS X (.For tg iter body [] pos) (tFor wi g tb):=by
  intro pins s σ H D I h
  refine wpAny_For (thn (hi pins s σ H _ I h) fun v s1 h1=>thn h1 fun itv s2 h2=>?_) hs
  obtain ⟨it,fp,tn,J,H2,e,I2,T,st2,f2,W,⟨m0,w0⟩,turn⟩:=h2
  subst e
  have stat:∀ {H':Hp},(∀ b ∈ fp,H' b=none)->∀ b ∈ fp,FpOk X pins H' b:=fun hn b hb=>⟨hn b hb,(f2 b hb).2⟩
  refine codeAny_forLoop_any (fun n s'=>∃ i σ' H',Inv X pins σ' H' s'/\tn i s'.heap/\(∀ b ∈ fp,H' b=none)/\W i n σ' H') ?_ m0 ⟨0,σ,H2,I2,st2,fun b hb=>(f2 b hb).1,w0⟩
  rintro n s3 ⟨i,σ3,H3,I3,st3,fr3,w3⟩
  rcases turn i n σ3 H3 w3 with ⟨stop,qn⟩ | ⟨go,N,hN,step⟩
  · refine wpAny_passesOwn hp (thn (T.done X rfl rfl rfl hc i pins s3 σ3 H3 X.xe I3 (stat fr3) st3 stop) fun r s4 ⟨hr,I4⟩=>?_)
    subst hr
    exact wpAny_execs_nil ⟨σ3,H3,I4,qn⟩
  · refine wpAny_passesOwn hp (thn (T.item X rfl rfl rfl hc i pins s3 σ3 H3 X.xe I3 (stat fr3) st3 go) fun r s4 ⟨u,hr,h4⟩=>?_)
    subst hr
    refine wpAny_passesOwn hp (thn h4 fun _ s5 ⟨x,H5,I5,r5,y5,st5,fr5⟩=>?_)
    have I5':=I5.pinned (stat fr5) (T.obj _ _ st5)
    refine wpAny_passesOwn hp (thn (hg _ s5 σ3 H5 x u _ I5' r5 (step x H5 y5)) fun _ s6 ⟨σ6,H6,I6,q6⟩=>?_)
    refine wpAny_passesOwn hp (thn (hb _ s6 σ6 H6 _ I6 q6) fun f s7 q7=>?_)
    have again:∀ {σ7:St} {H7:Hp},Inv X (pins ++ mj fp s5.heap) σ7 H7 s7->N σ7 H7->∃ m,m < n/\∃ i σ' H',Inv X pins σ' H' s7/\tn i s7.heap/\(∀ b ∈ fp,H' b=none)/\W i m σ' H':=fun {σ7 H7} I7 n7=>by
      obtain ⟨m',hm,w7⟩:=hN σ7 H7 n7
      refine ⟨m',hm,i+1,σ7,H7,I7.unpinned,T.keep _ _ _ st5 fun b hb o e=>(I7.pin (b,o) (Da _ (Da _ (gU hb e)))).1,fun b hb=>?_,w7⟩
      obtain ⟨o,e,d⟩:=T.obj _ _ st5 b hb
      exact (I7.pin (b,o) (Da _ (Da _ (gU hb e)))).2.1
    cases f with
    | next=>obtain ⟨σ7,H7,I7,n7⟩:=q7;exact again I7 n7
    | cont=>obtain ⟨σ7,H7,I7,n7⟩:=q7;exact again I7 n7
    | brk=>obtain ⟨σ7,H7,I7,q7⟩:=q7;exact ⟨σ7,H7,I7.unpinned,q7⟩
    | ret v=>obtain ⟨x7,σ7,H7,I7,r7,q7⟩:=q7;exact ⟨x7,σ7,H7,I7.unpinned,r7,q7⟩
end
end L2
namespace L2
open PySem PySem.Spec PyProof.Rows
noncomputable abbrev R2:=V->V->Hp->VK->Prop
noncomputable def OpR (X:Cx) (f:Value->Value->Sem Value) (r:R2):Prop :=
  ∀ (pins:List (Addr × Obj)) (s:Shared) (σ:St) (H:Hp) (x y:V) (v u:Value) (Q:VK),Inv X pins σ H s->RelV x v->RelV y u->r x y H Q ->
    wpAny (model X.prog X.w) X.A (f v u) (EP X pins σ Q) X.xe s
noncomputable def UnR (X:Cx) (f:Value->Sem Value) (r:V->Hp->VK->Prop):Prop :=
  ∀ (pins:List (Addr × Obj)) (s:Shared) (σ:St) (H:Hp) (x:V) (v:Value) (Q:VK),Inv X pins σ H s->RelV x v->r x H Q ->
    wpAny (model X.prog X.w) X.A (f v) (EP X pins σ Q) X.xe s
noncomputable def CallR (X:Cx) (f:Value) (r:List V->Hp->VK->Prop):Prop :=
  ∀ (pins:List (Addr × Obj)) (s:Shared) (σ:St) (H:Hp) (xs:List V) (us:List Value) (Q:VK),Inv X pins σ H s->Vals xs us->r xs H Q ->
    wpAny (model X.prog X.w) X.A (call f us) (EP X pins σ Q) X.xe s
noncomputable def tOp (r:R2) (ta tb:TE):TE:=fun σ H Q=>ta σ H fun x H1=>tb σ H1 fun y H2=>r x y H2 Q
noncomputable def tUn (r:V->Hp->VK->Prop) (ta:TE):TE:=fun σ H Q=>ta σ H fun x H1=>r x H1 Q
noncomputable def rI (C:Int->Int->Prop) (g:Int->Int->V):R2:=fun x y H Q=>∃ i j,x=.int i/\y=.int j/\C i j/\Q (g i j) H
noncomputable def rI0 (g:Int->Int->V):R2:=fun x y H Q=>∃ i j,x=.int i/\y=.int j/\Q (g i j) H
noncomputable def rU (g:Int->V):V->Hp->VK->Prop:=fun x H Q=>∃ i,x=.int i/\Q (g i) H
section
variable {X:Cx} {a b c:Expr} {ta tb tc:TE} {pos:Pos}
theorem CW (ha:PE X a ta) (hb:PE X b tb) {pins:List (Addr × Obj)} {s:Shared} {σ:St} {H:Hp} {R:V->V->Hp->Prop} (I:Inv X pins σ H s)
    (h:ta σ H fun x H1=>tb σ H1 fun y H2=>R x y H2) {Q:Value->Shared->Prop} {f:Value->Value->Sem Value}
    (hf:∀ v u s2 x y H2,Inv X pins σ H2 s2->RelV x v->RelV y u->R x y H2->wpAny (model X.prog X.w) X.A (f v u) Q X.xe s2) :
    wpAny (model X.prog X.w) X.A (eval a X.env) (fun v s₁=>wpAny (model X.prog X.w) X.A (eval b X.env) (fun u s₂=>wpAny (model X.prog X.w) X.A (f v u) Q X.xe s₂) X.xe s₁) X.xe s:=by
  refine thn (ha pins s σ H _ I h) fun v s1 ⟨x,H1,I1,r1,q1⟩=>?_
  refine thn (hb pins s1 σ H1 _ I1 q1) fun u s2 ⟨y,H2,I2,r2,q2⟩=>?_
  exact hf v u s2 x y H2 I2 r1 r2 q2
theorem pe_op {op:Operator} {r:R2} (ho:OpR X (binaryOp op) r) (ha:PE X a ta) (hb:PE X b tb):PE X (.BinOp a op b pos) (tOp r ta tb):=by
  intro pins s σ H Q I h
  exact wpAny_BinOp (CW ha hb I h fun v u s2 x y H2 I2 rx ry q=>ho pins s2 σ H2 x y v u Q I2 rx ry q)
theorem pe_un {op:UnaryOp} {r:V->Hp->VK->Prop} (ho:UnR X (unaryOp op) r) (ha:PE X a ta):PE X (.UnaryOp op a pos) (tUn r ta):=by
  intro pins s σ H Q I h
  exact UnaryOp_ (thn (ha pins s σ H _ I h) fun v s1 ⟨x,H1,I1,r1,q1⟩=>ho pins s1 σ H1 x v Q I1 r1 q1)
theorem opI {f:Value->Value->Sem Value} {C:Int->Int->Prop} {g:Int->Int->Int}
    (rule:∀ (i j:Int) (t u:Tok) (s:Shared) (Q:Value->Shared->Prop) (E:Value->Shared->Prop),C i j->Q (.int (g i j) s.toks) { s with toks:=s.toks+1 }->wpAny (model X.prog X.w) X.A (f (.int i t) (.int j u)) Q E s) :
    OpR X f (rI C fun i j=>.int (g i j)):=by
  intro pins s σ H x y v u Q I rx ry h
  obtain ⟨i,j,rfl,rfl,hc,q⟩:=h
  obtain ⟨t,rfl⟩:=rx
  obtain ⟨t',rfl⟩:=ry
  exact rule i j t t' s _ _ hc ⟨.int (g i j),H,I.tok _,⟨_,rfl⟩,q⟩
theorem opI0 {f:Value->Value->Sem Value} {g:Int->Int->Int}
    (rule:∀ (i j:Int) (t u:Tok) (s:Shared) (Q:Value->Shared->Prop) (E:Value->Shared->Prop),Q (.int (g i j) s.toks) { s with toks:=s.toks+1 }->wpAny (model X.prog X.w) X.A (f (.int i t) (.int j u)) Q E s) :
    OpR X f (rI0 fun i j=>.int (g i j)):=by
  intro pins s σ H x y v u Q I rx ry h
  obtain ⟨i,j,rfl,rfl,q⟩:=h
  obtain ⟨t,rfl⟩:=rx
  obtain ⟨t',rfl⟩:=ry
  exact rule i j t t' s _ _ ⟨.int (g i j),H,I.tok _,⟨_,rfl⟩,q⟩
theorem Cg {f:Value->Value->Sem Value} {g:Int->Int->Bool}
    (rule:∀ (i j:Int) (t u:Tok) (s:Shared) (Q:Value->Shared->Prop) (E:Value->Shared->Prop),Q (.bool (g i j)) s->wpAny (model X.prog X.w) X.A (f (.int i t) (.int j u)) Q E s) :
    OpR X f (rI0 fun i j=>.bl (g i j)):=by
  intro pins s σ H x y v u Q I rx ry h
  obtain ⟨i,j,rfl,rfl,q⟩:=h
  obtain ⟨t,rfl⟩:=rx
  obtain ⟨t',rfl⟩:=ry
  exact rule i j t t' s _ _ ⟨.bl (g i j),H,I,rfl,q⟩
noncomputable def wg (i j:Int):Prop:=0 < j/\j < 1073741824
noncomputable def yK (i j:Int):Prop:=0<=j/\j<=1000000/\i.natAbs < 2 ^ 64
noncomputable def CMul (i j:Int):Prop:=(-(2 ^ 64) < i/\i < 2 ^ 64)\/(-(2 ^ 64) < j/\j < 2 ^ 64)
theorem CMul.ok {i j:Int} (h:CMul i j):IntMulOk i j:=by
  rcases h with ⟨h1,h2⟩ | ⟨h1,h2⟩
  · exact .of_left (intBits_le_64 h1 h2)
  · exact .of_right (intBits_le_64 h1 h2)
theorem op_add:OpR X (binaryOp .Add) (rI0 fun i j=>.int (i+j)):=opI0 fun _ _ _ _ _ _ _ q=>add_int q
theorem b8:OpR X (binaryOp .Sub) (rI0 fun i j=>.int (i - j)):=opI0 fun _ _ _ _ _ _ _ q=>sub_int q
theorem cp:OpR X (binaryOp .Mult) (rI CMul fun i j=>.int (i * j)):=opI fun _ _ _ _ _ _ _ hc q=>mul_int q hc.ok
theorem kz:OpR X (binaryOp .Mod) (rI (fun _ j=>0 < j) fun i j=>.int (i % j)):=opI fun i j _ _ _ _ _ hc q=>by
  have h1:(0:Int) < j:=hc
  exact mod_int' (by omega) (by rw [Int.fmod_eq_emod_of_nonneg i (by omega)];exact q)
theorem xq:OpR X (binaryOp .Pow) (rI yK fun i j=>.int (i ^ j.toNat)):=opI fun _ _ _ _ _ _ _ hc q=>pow_int_small hc.1 hc.2.1 hc.2.2 q
theorem unI {f:Value->Sem Value} {g:Int->Int}
    (rule:∀ (i:Int) (t:Tok) (s:Shared) (Q:Value->Shared->Prop) (E:Value->Shared->Prop),Q (.int (g i) s.toks) { s with toks:=s.toks+1 }->wpAny (model X.prog X.w) X.A (f (.int i t)) Q E s) :
    UnR X f (rU fun i=>.int (g i)):=by
  intro pins s σ H x v Q I rx h
  obtain ⟨i,rfl,q⟩:=h
  obtain ⟨t,rfl⟩:=rx
  exact rule i t s _ _ ⟨.int (g i),H,I.tok _,⟨_,rfl⟩,q⟩
theorem iE:UnR X (unaryOp .USub) (rU fun i=>.int (-i)):=unI fun _ _ _ _ _ q=>neg_int q
end
noncomputable def BE:V->V->Bool
  | .non,.non=>true | .non,.int _=>true | .int _,.non=>true | .non,.bl _=>true | .bl _,.non=>true | .non,.str _=>true | .str _,.non=>true
  | .int _,.int _=>true | .bl _,.bl _=>true | .str _,.str _=>true | .byt _,.byt _=>true
  | .int _,.str _=>true | .str _,.int _=>true | .bl _,.str _=>true | .str _,.bl _=>true
  | _,_=>false
noncomputable def rEq:R2:=fun x y H Q=>BE x y=true/\Q (.bl (decide (x=y))) H
noncomputable def rNe:R2:=fun x y H Q=>BE x y=true/\Q (.bl (!decide (x=y))) H
theorem uo {i j:Int}:decide (V.int i=V.int j)=(i == j):=by
  rw [Bool.eq_iff_iff]
  simp
theorem yn {i j:Bool}:decide (V.bl i=V.bl j)=(i == j):=by
  rw [Bool.eq_iff_iff]
  simp
theorem um {i j:Str}:decide (V.str i=V.str j)=(i == j):=by
  rw [Bool.eq_iff_iff]
  simp
theorem uq {i j:Array UInt8}:decide (V.byt i=V.byt j)=(i.toList == j.toList):=by
  rw [Bool.eq_iff_iff]
  cases i
  cases j
  simp
section
variable {X:Cx} {a b c:Expr} {ta tb tc:TE} {pos:Pos}
theorem aX {pins:List (Addr × Obj)} {σ:St} {H:Hp} {s:Shared} {Q:VK} {k k':Bool} (I:Inv X pins σ H s) (q:Q (.bl k) H) (e:k=k'):EP X pins σ Q (.bool k') s:=by
  subst e
  exact ⟨.bl k,H,I,rfl,q⟩
theorem op_eq:OpR X (compareOp .Eq) rEq:=by
  intro pins s σ H x y v u Q I rx ry h
  obtain ⟨hs,q⟩:=h
  cases x with
  | non =>
    cases rx
    cases y with
    | non=>cases ry;exact PySem.EqNone.eq_none_none (aX I q (by simp))
    | bl j=>cases ry;exact PySem.EqNone.eq_none_bool (aX I q (by simp))
    | int j=>obtain ⟨t',rfl⟩:=ry;exact PySem.EqNone.eq_none_int (aX I q (by simp))
    | str j=>obtain ⟨t',rfl⟩:=ry;exact PySem.EqNone.eq_none_str (aX I q (by simp))
    | _=>exact absurd (show false=true from hs) Dn
  | bl i =>
    cases rx
    cases y with
    | non=>cases ry;exact PySem.EqNone.eq_bool_none (aX I q (by simp))
    | bl j=>cases ry;exact eq_bool (aX I q yn)
    | str j=>obtain ⟨t',rfl⟩:=ry;exact PySem.EqMixed.eq_bool_str (aX I q (by simp))
    | _=>exact absurd (show false=true from hs) Dn
  | int i =>
    obtain ⟨t,rfl⟩:=rx
    cases y with
    | non=>cases ry;exact PySem.EqNone.eq_int_none (aX I q (by simp))
    | int j=>obtain ⟨t',rfl⟩:=ry;exact eq_int (aX I q uo)
    | str j=>obtain ⟨t',rfl⟩:=ry;exact PySem.EqMixed.eq_int_str (aX I q (by simp))
    | _=>exact absurd (show false=true from hs) Dn
  | str i =>
    obtain ⟨t,rfl⟩:=rx
    cases y with
    | non=>cases ry;exact PySem.EqNone.eq_str_none (aX I q (by simp))
    | bl j=>cases ry;exact PySem.EqMixed.eq_str_bool (aX I q (by simp))
    | int j=>obtain ⟨t',rfl⟩:=ry;exact PySem.EqMixed.eq_str_int (aX I q (by simp))
    | str j=>obtain ⟨t',rfl⟩:=ry;exact eq_str (aX I q um)
    | _=>exact absurd (show false=true from hs) Dn
  | byt i =>
    obtain ⟨t,rfl⟩:=rx
    cases y with
    | byt j=>obtain ⟨t',rfl⟩:=ry;exact PySem.W.eq_bytes (aX I q uq)
    | _=>exact absurd (show false=true from hs) Dn
  | _=>cases y <;> exact absurd (show false=true from hs) Dn
theorem op_ne:OpR X (compareOp .NotEq) rNe:=by
  intro pins s σ H x y v u Q I rx ry h
  obtain ⟨hs,q⟩:=h
  cases x with
  | non =>
    cases rx
    cases y with
    | non=>cases ry;exact PySem.EqNone.ne_none_none (aX I q (by simp))
    | bl j=>cases ry;exact PySem.EqNone.ne_none_bool (aX I q (by simp))
    | int j=>obtain ⟨t',rfl⟩:=ry;exact PySem.EqNone.ne_none_int (aX I q (by simp))
    | str j=>obtain ⟨t',rfl⟩:=ry;exact PySem.EqNone.ne_none_str (aX I q (by simp))
    | _=>exact absurd (show false=true from hs) Dn
  | bl i =>
    cases rx
    cases y with
    | non=>cases ry;exact PySem.EqNone.ne_bool_none (aX I q (by simp))
    | bl j=>cases ry;exact ne_bool (aX I q (congrArg not yn))
    | str j=>obtain ⟨t',rfl⟩:=ry;exact PySem.EqMixed.ne_bool_str (aX I q (by simp))
    | _=>exact absurd (show false=true from hs) Dn
  | int i =>
    obtain ⟨t,rfl⟩:=rx
    cases y with
    | non=>cases ry;exact PySem.EqNone.ne_int_none (aX I q (by simp))
    | int j=>obtain ⟨t',rfl⟩:=ry;exact ne_int (aX I q (congrArg not uo))
    | str j=>obtain ⟨t',rfl⟩:=ry;exact PySem.EqMixed.ne_int_str (aX I q (by simp))
    | _=>exact absurd (show false=true from hs) Dn
  | str i =>
    obtain ⟨t,rfl⟩:=rx
    cases y with
    | non=>cases ry;exact PySem.EqNone.ne_str_none (aX I q (by simp))
    | bl j=>cases ry;exact PySem.EqMixed.ne_str_bool (aX I q (by simp))
    | int j=>obtain ⟨t',rfl⟩:=ry;exact PySem.EqMixed.ne_str_int (aX I q (by simp))
    | str j=>obtain ⟨t',rfl⟩:=ry;exact ne_str (aX I q (congrArg not um))
    | _=>exact absurd (show false=true from hs) Dn
  | byt i =>
    obtain ⟨t,rfl⟩:=rx
    cases y with
    | byt j=>obtain ⟨t',rfl⟩:=ry;exact PySem.W.ne_bytes (aX I q (congrArg not uq))
    | _=>exact absurd (show false=true from hs) Dn
  | _=>cases y <;> exact absurd (show false=true from hs) Dn
theorem mo:OpR X (compareOp .Lt) (rI0 fun i j=>.bl (decide (i < j))):=Cg fun _ _ _ _ _ _ _ q=>lt_int q
theorem j6:OpR X (compareOp .LtE) (rI0 fun i j=>.bl (decide (i<=j))):=Cg fun _ _ _ _ _ _ _ q=>le_int q
theorem AZ:OpR X (compareOp .Gt) (rI0 fun i j=>.bl (decide (j < i))):=Cg fun _ _ _ _ _ _ _ q=>gt_int q
theorem Ce : OpR X (compareOp .Is) (fun x y H Q => y = .non /\ Q (.bl (decide (x = .non))) H) := by
  intro pins s σ H x y v u Q I rx ry h
  obtain ⟨rfl, q⟩ := h
  cases ry
  refine is_none_gen (aX I q ?_)
  cases x <;> first
    | (cases rx; rfl)
    | (obtain ⟨t, rfl⟩ := rx; rfl)
theorem OpR.or {f:Value->Value->Sem Value} {r r':R2} (h:OpR X f r) (h':OpR X f r'):OpR X f (fun x y H Q=>r x y H Q\/r' x y H Q):=by
  intro pins s σ H x y v u Q I rx ry q
  rcases q with q | q
  · exact h pins s σ H x y v u Q I rx ry q
  · exact h' pins s σ H x y v u Q I rx ry q
theorem aS (b : Expr) {op : CmpOp} (h : op ≠ .In := by decide) (h2 : op ≠ .NotIn := by decide) : behindInMarks op b = false := by
  have e1 : (op == CmpOp.In) = false := by cases op <;> first | rfl | exact absurd rfl h
  have e2 : (op == CmpOp.NotIn) = false := by cases op <;> first | rfl | exact absurd rfl h2
  cases b <;> simp [behindInMarks, e1, e2]
theorem zM {op:CmpOp} {r:R2} (ho:OpR X (compareOp op) r) (ha:PE X a ta) (hb:PE X b tb) (hm:behindInMarks op b=false):PE X (.Compare a [op] [b] pos) (tOp r ta tb):=by
  intro pins s σ H Q I h
  exact wpAny_Compare1 (CW ha hb I h fun v u s2 x y H2 I2 rx ry q=>ho pins s2 σ H2 x y v u Q I2 rx ry q) hm
noncomputable def AK (t:TE):TT:=fun σ H Q=>t σ H fun x H'=>∃ k,x=.bl k/\Q k H'
theorem zB {op:CmpOp} {r:R2} (ho:OpR X (compareOp op) r) (ha:PE X a ta) (hb:PE X b tb) (hm:behindInMarks op b=false):PT X (.Compare a [op] [b] pos) (AK (tOp r ta tb)):=by
  intro pins s σ H Q I h
  refine wpAny_isTrue_Compare1 (thn (ha pins s σ H _ I h) fun v s1 ⟨x,H1,I1,r1,q1⟩=>thn (hb pins s1 σ H1 _ I1 q1) fun u s2 ⟨y,H2,I2,r2,q2⟩ =>
    thn (ho pins s2 σ H2 x y v u _ I2 r1 r2 q2) fun c s3 ⟨z,H3,I3,r3,k,e,q3⟩=>?_) hm
  subst e
  cases r3
  exact DH ⟨H3,I3,q3⟩
noncomputable def oA (r r':R2) (ta tb tc:TE):TE:=fun σ H Q=>ta σ H fun x H1=>tb σ H1 fun y H2=>r x y H2 fun z H3=>∃ k,z=.bl k /\
  (if k=true then tc σ H3 fun w' H4=>r' y w' H4 Q else Q (.bl false) H3)
theorem qr {op op':CmpOp} {r r':R2} (ho:OpR X (compareOp op) r) (ho':OpR X (compareOp op') r') (ha:PE X a ta) (hb:PE X b tb) (hc:PE X c tc)
    (hm:lastMarks [op,op'] [b,c]=false:=by with_unfolding_all rfl):PE X (.Compare a [op,op'] [b,c] pos) (oA r r' ta tb tc):=by
  intro pins s σ H Q I h
  refine Compare_chain (thn (ha pins s σ H _ I h) fun v s1 ⟨x,H1,I1,r1,q1⟩=>chain_link (thn (hb pins s1 σ H1 _ I1 q1) fun u s2 ⟨y,H2,I2,r2,q2⟩ =>
    thn (ho pins s2 σ H2 x y v u _ I2 r1 r2 q2) fun d s3 ⟨z,H3,I3,r3,k,e,q3⟩=>?_)) hm
  subst e
  cases r3
  refine DH ?_
  cases k with
  | false=>exact ite_ff ⟨.bl false,H3,I3,rfl,q3⟩
  | true=>exact ite_tt (chain_last (thn (hc pins s3 σ H3 _ I3 q3) fun w' s4 ⟨z',H4,I4,r4,q4⟩=>ho' pins s4 σ H4 y z' u w' Q I4 r2 r4 q4))
theorem xc {op op':CmpOp} {r r':R2} (ho:OpR X (compareOp op) r) (ho':OpR X (compareOp op') r') (ha:PE X a ta) (hb:PE X b tb) (hc:PE X c tc)
    (hm:lastMarks [op,op'] [b,c]=false:=by with_unfolding_all rfl):PT X (.Compare a [op,op'] [b,c] pos) (AK (oA r r' ta tb tc)):=by
  intro pins s σ H Q I h
  refine isTrue_chain (thn (ha pins s σ H _ I h) fun v s1 ⟨x,H1,I1,r1,q1⟩=>test_link (thn (hb pins s1 σ H1 _ I1 q1) fun u s2 ⟨y,H2,I2,r2,q2⟩ =>
    thn (ho pins s2 σ H2 x y v u _ I2 r1 r2 q2) fun d s3 ⟨z,H3,I3,r3,k,e,q3⟩=>?_)) hm
  subst e
  cases r3
  refine DH ?_
  cases k with
  | false =>
    obtain ⟨k',e',q'⟩:=q3
    cases e'
    exact ite_ff ⟨H3,I3,q'⟩
  | true =>
    refine ite_tt (test_last (thn (hc pins s3 σ H3 _ I3 q3) fun w' s4 ⟨z',H4,I4,r4,q4⟩=>thn (ho' pins s4 σ H4 y z' u w' _ I4 r2 r4 q4) fun d' s5 ⟨z2,H5,I5,r5,k2,e2,q5⟩=>?_))
    subst e2
    cases r5
    exact DH ⟨H5,I5,q5⟩
theorem o8:(sizeLine:Nat) < 2 ^ 63:=by rw [sizeLine_eq];decide
theorem op_add_str:OpR X (binaryOp .Add) (fun x y H Q=>∃ i j,x=.str i/\y=.str j/\i.length+j.length<=sizeLine/\Q (.str (i ++ j)) H):=by
  intro pins s σ H x y v u Q I rx ry h
  obtain ⟨i,j,rfl,rfl,hz,q⟩:=h
  obtain ⟨t,rfl⟩:=rx
  obtain ⟨t',rfl⟩:=ry
  exact add_str (fun t' tk=>⟨.str (i ++ j),H,I.tok _,⟨_,rfl⟩,q⟩) hz
theorem lP {x:V} {us:List Value} (r:Vals [x] us):∃ u,us=[u]/\RelV x u:=by
  cases r with
  | cons r1 r2=>cases r2;exact ⟨_,rfl,r1⟩
theorem nE {x y:V} {us:List Value} (r:Vals [x,y] us):∃ u w',us=[u,w']/\RelV x u/\RelV y w':=by
  cases r with
  | cons r1 r2 =>
    cases r2 with
    | cons r3 r4=>cases r4;exact ⟨_,_,rfl,r1,r3⟩
theorem vW (hc:X.calm=true):CallR X (.builtin "max") (fun xs H Q=>∃ i j,xs=[.int i,.int j]/\Q (.int (if j > i then j else i)) H):=by
  intro pins s σ H xs us Q I r h
  obtain ⟨i,j,rfl,q⟩:=h
  obtain ⟨u,w',rfl,⟨t,rfl⟩,⟨t',rfl⟩⟩:=nE r
  refine max_two_ints (I.ok.hd hc) fun h' tk k=>⟨_,H,I.kept k,?_,q⟩
  by_cases hj:j > i
  · rw [if_pos hj,if_pos hj];exact ⟨_,rfl⟩
  · rw [if_neg hj,if_neg hj];exact ⟨_,rfl⟩
theorem vS (hc:X.calm=true):CallR X (.builtin "min") (fun xs H Q=>∃ i j,xs=[.int i,.int j]/\Q (.int (if j < i then j else i)) H):=by
  intro pins s σ H xs us Q I r h
  obtain ⟨i,j,rfl,q⟩:=h
  obtain ⟨u,w',rfl,⟨t,rfl⟩,⟨t',rfl⟩⟩:=nE r
  refine min_two_ints (I.ok.hd hc) fun h' tk k=>⟨_,H,I.kept k,?_,q⟩
  by_cases hj:j < i
  · rw [if_pos hj,if_pos hj];exact ⟨_,rfl⟩
  · rw [if_neg hj,if_neg hj];exact ⟨_,rfl⟩
theorem qX:CallR X (.builtin "divmod") (fun xs H Q=>∃ i j,xs=[.int i,.int j]/\wg i j/\∀ p,H p=none->Q (.ref p) (upd H p (.tup [.int (i / j),.int (i % j)]))):=by
  intro pins s σ H xs us Q I r h
  obtain ⟨i,j,rfl,⟨h1,h2⟩,q⟩:=h
  obtain ⟨u,w',rfl,⟨t,rfl⟩,⟨t',rfl⟩⟩:=nE r
  refine divmod_int (by omega) ?_ (.inl (PyProof.noPylong_small (by omega)))
  rw [Int.fdiv_eq_ediv_of_nonneg i (by omega),Int.fmod_eq_emod_of_nonneg i (by omega)]
  have hn:H s.heap.objs.size=none:=I.hok.fresh (Dm _)
  refine ⟨.ref s.heap.objs.size,_,?_,rfl,q _ hn⟩
  refine I.laid (fun b o e=>C7 _ e) (Dm _) ⟨by simp only [Dx,List.length_nil];rw [sizeLine_eq];decide,[.int (i / j) s.toks,.int (i % j) (s.toks+1)],.cons ⟨_,rfl⟩ (.cons ⟨_,rfl⟩ .nil),?_⟩
  exact ⟨_,Df s.heap rfl,rfl,0,rfl⟩
end
end L2
namespace L2
open PySem PySem.Spec PyProof.Rows
theorem RelO.some_of {v:V} {o:Option Value} (r:RelO (some v) o):∃ u,o=some u/\RelV v u:=by
  cases o with
  | none=>exact (show False from r).elim
  | some u=>exact ⟨u,rfl,r⟩
end L2
namespace L2
open PySem PySem.Spec PyProof.Rows
structure Room (k:Nat) (A:Around):Prop where
  hd:A.handled=none
  dp:A.depth+3 * k+5 < recursionLimit
  un:A.units+16 * k+200 < cLine
  gd:A.guards=some []
theorem Room.mono {j k:Nat} {A:Around} (r:Room k A) (h:j<=k):Room j A:=⟨r.hd,by have:=r.dp;omega,by have:=r.un;omega,r.gd⟩
theorem Room.deeper {k:Nat} {A:Around} (r:Room (k+1) A) (env:Env):Room k (A.deeper env) :=
  ⟨r.hd,by have:=r.dp;show A.depth+1+3 * k+5 < _;omega,by have:=r.un;show A.units+3+16 * k+200 < _;omega,r.gd⟩
theorem Room.depth {k:Nat} {A:Around} (r:Room k A):A.depth < recursionLimit:=by have:=r.dp;omega
theorem Room.units {k:Nat} {A:Around} (r:Room k A):A.units+64 < cLine:=by have:=r.un;omega
noncomputable def yV:TA:=fun _ H Q=>Q [] H
noncomputable def pX (ta:TE) (tr:TA):TA:=fun σ H Q=>ta σ H fun x H1=>tr σ H1 fun xs H2=>Q (x :: xs) H2
section
variable {X:Cx} {e:Expr} {es:List Expr} {te:TE} {t:TA} {pos:Pos}
theorem sh:PA X [] yV:=fun _ _ _ _ H Q I h=>Calls.spliced_nil ⟨[],H,I,.nil,h⟩
theorem lE (ha:PE X e te) (hr:PA X es t) (hs:starEach (e :: es) X.env=(false,eval e X.env) :: starEach es X.env:=by rfl):PA X (e :: es) (pX te t):=by
  intro pos pins s σ H Q I h
  rw [hs]
  show wpAny _ _ (spliced ((false,eval e X.env) :: backTo pos (starEach es X.env))) _ _ s
  refine Calls.spliced_cons (thn (ha pins s σ H _ I h) fun u s1 ⟨x,H1,I1,r1,q1⟩=>?_)
  exact thn (hr pos pins s1 σ H1 _ I1 q1) fun us s2 ⟨xs,H2,I2,r2,q2⟩=>⟨x :: xs,H2,I2,.cons r1 r2,q2⟩
noncomputable def tTup (t:TA):TE:=fun σ H Q=>t σ H fun xs H1=>xs.length<=sizeLine/\∀ p,H1 p=none->Q (.ref p) (upd H1 p (.tup xs))
noncomputable def tLst (t:TA):TE:=fun σ H Q=>t σ H fun xs H1=>xs.length<=sizeLine/\∀ p,H1 p=none->Q (.ref p) (upd H1 p (.lst xs))
theorem B3 {x1} (h:PA X es t):PE X (.Tuple es x1 pos) (tTup t):=by
  intro pins s σ H Q I hq
  refine wpAny_Tuple_spliced (thn (h pos pins s σ H _ I hq) fun us s1 ⟨xs,H1,I1,r,z,q⟩=>⟨by rw [<- r.length];exact z,?_⟩)
  have hf:H1 s1.heap.objs.size=none:=I1.hok.fresh (Dm _)
  refine ⟨.ref s1.heap.objs.size,upd H1 s1.heap.objs.size (.tup xs),I1.laid (t':=s1.toks) (fun b u e=>C7 _ e) (Dm _) ?_,rfl,q _ hf⟩
  exact ⟨z,us,r,⟨_,Df _ rfl,rfl,_,rfl⟩⟩
theorem B7 (h:PA X es t):PE X (.List es pos) (tLst t):=by
  intro pins s σ H Q I hq
  refine wpAny_List_spliced (thn (h pos pins s σ H _ I hq) fun us s1 ⟨xs,H1,I1,r,z,q⟩=>⟨by rw [<- r.length];exact z,?_⟩)
  have hf:H1 s1.heap.objs.size=none:=I1.hok.fresh (Dm _)
  refine ⟨.ref s1.heap.objs.size,upd H1 s1.heap.objs.size (.lst xs),I1.laid (t':=s1.toks) (fun b u e=>C7 _ e) (Dm _) ?_,rfl,q _ hf⟩
  exact ⟨z,us,0,r,Df _ rfl⟩
end
noncomputable abbrev Sp:=List V->Hp->VK->XK->Prop
noncomputable abbrev CXT:=List Env->Hp->Shared->XK->Value->Shared->Prop
structure Env0 (P:Program) (w:World) (K:FG) (mg:Str->Option Value) (base:Heap) (A:Around) (outer:List Env) (s:Shared) (H:Hp):Prop where
  frames:A.frames=some outer
  mod:Mod K mg base
  bs:∀ b o,base.get? b=some o->s.heap.get? b=some o/\H b=none
  bsz:base.objs.size<=s.heap.objs.size
  funs:s.heap.FunFrames base outer
  frf:∀ b ∈ frs outer,H b=none
  hok:HOk P w H s.heap
  bare:AllBare s.gens
noncomputable def CE (outer:List Env) (P:Program) (w:World) (H:Hp) (s:Shared) (Q:VK) (u:Value) (s':Shared):Prop :=
  ∃ v H',s'.os=s.os/\AllBare s'.gens/\Un (frs outer) [] H H' s.heap s'.heap/\HOk P w H' s'.heap/\RelV v u/\Q v H'
noncomputable def CR (CX:CXT) (outer:List Env) (P:Program) (w:World) (H:Hp) (s:Shared) (Q:VK) (E:XK) (r:Result) (s':Shared):Prop :=
  match r with
  | .ok (.ret u)=>CE outer P w H s Q u s'
  | .ok _=>False
  | .error e=>CX outer H s E e s'
structure FnOk (P:Program) (w:World) (K:FG) (mg:Str->Option Value) (base:Heap) (CX:CXT) (k:Nat) (f:Addr) (fd:FuncData) (ps:List Str) (sp:Sp):Prop where
  len:∀ vs H Q E,sp vs H Q E->vs.length=ps.length
  run:∀ (A:Around) (outer:List Env) (s:Shared) (H:Hp) (args:Args) (us:List Value) (vs:List V) (Q:VK) (E:XK),Room k A->Env0 P w K mg base A outer s H->BindsTo s fd args (ps.zip us)->Vals vs us->sp vs H Q E ->
    codeAny (model P w) A (.call (.ref f) args) (CR CX outer P w H s Q E) s
theorem FnOk.imp {P:Program} {w:World} {K:FG} {mg:Str->Option Value} {base:Heap} {CX:CXT} {k:Nat} {f:Addr} {fd:FuncData} {ps:List Str} {sp sp':Sp} (F:FnOk P w K mg base CX k f fd ps sp)
    (h:∀ vs H Q E,sp' vs H Q E->sp vs H Q E):FnOk P w K mg base CX k f fd ps sp' :=
  ⟨fun vs H Q E q=>F.len vs H Q E (h _ _ _ _ q),fun A outer s H args us vs Q E hr he hb hv hs=>F.run A outer s H args us vs Q E hr he hb hv (h _ _ _ _ hs)⟩
section
variable {X:Cx} {pins:List (Addr × Obj)} {σ:St} {H:Hp} {s s':Shared}
theorem Inv.env0 (I:Inv X pins σ H s):Env0 X.prog X.w X.K X.mg X.base X.A X.stack s H :=
  ⟨I.ok.frames,I.ok.mod,I.bs,DI I.ok.bsz I.sz,I.stack,I.stkFree,I.hok,I.bare⟩
theorem Inv.after {Q:VK} {u:Value} (I:Inv X pins σ H s) (h:CE X.stack X.prog X.w H s Q u s'):EP X pins σ Q u s':=by
  obtain ⟨v,H',os,bare,un,hok,r,q⟩:=h
  obtain ⟨hh,g,d,t,os'⟩:=s'
  obtain rfl:os'=s.os:=os
  exact ⟨v,H',I.call (h':=hh) (g':=g) (d':=d) (t':=t) (ch:=[]) un hok bare (fun b z=>absurd z (by simp)),r,q⟩
end
noncomputable def tCall (sp:Sp) (dvs:List V) (E:XK) (t:TA):TE:=fun σ H Q=>t σ H fun vs H1=>sp (vs ++ dvs) H1 Q E
noncomputable def Binds (K:FG) (fd:FuncData) (ps:List Str) (ds:List Value):Prop :=
  ∀ (s:Shared) (us:List Value),K.In s.heap->(us ++ ds).length=ps.length->BindsTo s fd ⟨us,[]⟩ (ps.zip (us ++ ds))
theorem Binds.all {K:FG} {fd:FuncData} {ps:List Str} (h:∀ us:List Value,us.length=ps.length->bindArgs fd ⟨us,[]⟩=pure (ps.zip us)):Binds K fd ps []:=fun s us _ hl=>by
  rw [List.append_nil] at hl ⊢
  exact .of_eq (h us hl)
noncomputable def tj (CX:CXT) (X:Cx) (E:XK):Prop:=∀ (pins:List (Addr × Obj)) (σ:St) (H:Hp) (s:Shared) (e:Value) (s':Shared),Inv X pins σ H s->CX X.stack H s E e s'->X.xe e s'
section
variable {X:Cx} {CX:CXT} {k:Nat} {f C:Addr} {fd:FuncData} {ps:List Str} {sp:Sp} {dvs:List V} {ds:List Value} {E:XK} {x m:Str} {p pos apos:Pos} {e o:Expr} {es:List Expr} {ta:TE} {t:TA}
set_option tactic.hygienic true in
theorem BJ {pins:List (Addr × Obj)} {σ:St} {H:Hp} {s:Shared} {Q:VK} {us:List Value} {vs:List V} (F:FnOk X.prog X.w X.K X.mg X.base CX k f fd ps sp) (hr:Room k X.A) (hb:Binds X.K fd ps ds) (hd:Vals dvs ds) (hx:tj CX X E)
    (I:Inv X pins σ H s) (r:Vals vs us) (h:sp (vs ++ dvs) H Q E):wpAny (model X.prog X.w) X.A (call (.ref f) us) (EP X pins σ Q) X.xe s:=by
  have r2:Vals (vs ++ dvs) (us ++ ds):=r.append hd
  have hl:(us ++ ds).length=ps.length:=by rw [<- r2.length];exact F.len _ _ _ _ h
  refine wpAny_call (codeAny_mono (F.run X.A X.stack s H ⟨us,[]⟩ (us ++ ds) (vs ++ dvs) Q E hr I.env0 (hb s us I.kIn hl) r2 h) fun r s' hq=>?_)
  cases r with
  | error e=>exact hx pins σ H s e s' I hq
  | ok fl =>
    cases fl with
    | ret u=>exact I.after hq
    | next=>exact False.elim hq
    | brk=>exact False.elim hq
    | cont=>exact False.elim hq
theorem zN (F:FnOk X.prog X.w X.K X.mg X.base CX k f fd ps sp) (hr:Room k X.A) (hg:Gl X x) (hm:X.mg x=some (.ref f)) (hk:PySem.W.keepIn X.K (.ref f)=true) (hb:Binds X.K fd ps ds) (hd:Vals dvs ds) (hx:tj CX X E)
    (ha:PA X (e :: es) t) (hdb:(x == ("__debug__":Str))=false:=by decide) (he:starEach (e :: es) X.env=(false,eval e X.env) :: starEach es X.env:=by rfl) (hpl:(backTo pos (starEach es X.env)).any (·.1)=false:=by rfl) :
    PE X (.Call (.Name x p) (e :: es) [] pos) (tCall sp dvs E t):=by
  intro pins s σ H Q I h
  refine wpAny_Call_Name_kw (t9 I hg hm ?_ hdb)
  refine PySem.W.callWith_K (h₀:=X.base) I.ok.mod.kin hk (thn (ha pos pins s σ H _ I h) fun us s1 ⟨vs,H1,I1,r,q⟩=>⟨I1.kIn,?_⟩) he hpl
  exact BJ F hr hb hd hx I1 r q
end
noncomputable def PK (X:Cx) (kws:List Keyword) (t:TA):Prop :=
  ∀ (pos:Pos) (pins:List (Addr × Obj)) (s:Shared) (σ:St) (H:Hp) (Q:List V->Hp->Prop),Inv X pins σ H s->t σ H Q->wpAny (model X.prog X.w) X.A (evalAll ((backToKw pos (keywordEach kws X.env)).map (·.2))) (AP X pins σ Q) X.xe s
section
variable {X:Cx} {CX:CXT} {k:Nat} {f C:Addr} {fd:FuncData} {ps ks:List Str} {sp:Sp} {E:XK} {x m:Str} {p pos apos kpos:Pos} {e o:Expr} {es:List Expr} {kws:List Keyword} {te ta:TE} {t tk:TA} {nm:Option Str}
theorem B0:PK X [] yV:=fun _ _ _ _ H Q I h=>wpAny_evalAll_nil ⟨[],H,I,.nil,h⟩
theorem zH (ha:PE X e te) (hr:PK X kws t):PK X (⟨nm,e,kpos⟩ :: kws) (pX te t):=by
  intro pos pins s σ H Q I h
  show wpAny _ _ (evalAll ((do let v <- eval e X.env;standAt pos;pure v) :: (backToKw pos (keywordEach kws X.env)).map (·.2))) _ _ s
  refine wpAny_evalAll_cons (C2 (thn (ha pins s σ H _ I h) fun u s1 ⟨x,H1,I1,r1,q1⟩=>C2 (wpAny_standAt (C3 ?_))))
  exact thn (hr pos pins s1 σ H1 _ I1 q1) fun us s2 ⟨xs,H2,I2,r2,q2⟩=>⟨x :: xs,H2,I2,.cons r1 r2,q2⟩
variable {g:List Value->List Value->List Value} {gV:List V->List V->List V}
end
structure FnScope (N P:List Str) (sc:Scope):Prop where
  kind:sc.kind=.function
  co:sc.isCoroutine=false
  gen:sc.isGenerator=false
  nd:N.Nodup
  pre:N.take P.length=P
  par:∀ x ∈ P,sc.names.lookup x=some .local\/sc.names.lookup x=some .cell
  nofree:∀ y ∈ sc.names,y.2 ≠ .free
theorem ol {kindOf:Str->Option NameKind} {x:Str}:∀ {binds:List (Str × Value)} {m:Str->Option Value},(∀ v,(x,v) ∉ binds)->bindL kindOf binds m x=m x
  | [],_,_=>rfl
  | (n,v) :: r,m,h=>by
    unfold bindL
    rw [ol fun w hw=>h w (C6 _ hw)]
    split
    · have:x ≠ n:=by rintro rfl;exact h v C5
      simp [this]
    · rfl
theorem oq {kindOf:Str->Option NameKind} {x:Str}:∀ {binds:List (Str × Value)} {m:Str->Option Value},(∀ v,(x,v) ∉ binds)->bindC kindOf binds m x=m x
  | [],_,_=>rfl
  | (n,v) :: r,m,h=>by
    unfold bindC
    rw [oq fun w hw=>h w (C6 _ hw)]
    split
    · rfl
    · have:x ≠ n:=by rintro rfl;exact h v C5
      simp [this]
theorem om {kindOf:Str->Option NameKind} {x:Str} {v:Value}:∀ {P:List Str} {vs:List Value} {i:Nat} {m:Str->Option Value},P.Nodup->P[i]?=some x->vs[i]?=some v->kindOf x=some .local ->
    bindL kindOf (P.zip vs) m x=some v
  | [],_,_,_,_,h,_,_=>by simp at h
  | _ :: _,[],_,_,_,_,h,_=>by simp at h
  | p :: P,w :: vs,0,m,nd,h1,h2,hk=>by
    simp at h1 h2;subst h1;subst h2
    show bindL kindOf ((p,w) :: P.zip vs) m p=_
    unfold bindL
    rw [ol fun v hv=>(List.nodup_cons.mp nd).1 (List.of_mem_zip hv).1,if_pos hk]
    simp
  | p :: P,w :: vs,i+1,m,nd,h1,h2,hk=>by
    show bindL kindOf ((p,w) :: P.zip vs) m x=_
    unfold bindL
    exact om (i:=i) (List.nodup_cons.mp nd).2 (by simpa using h1) (by simpa using h2) hk
theorem ot {kindOf:Str->Option NameKind} {x:Str} {v:Value}:∀ {P:List Str} {vs:List Value} {i:Nat} {m:Str->Option Value},P.Nodup->P[i]?=some x->vs[i]?=some v->kindOf x ≠ some .local ->
    bindC kindOf (P.zip vs) m x=some v
  | [],_,_,_,_,h,_,_=>by simp at h
  | _ :: _,[],_,_,_,_,h,_=>by simp at h
  | p :: P,w :: vs,0,m,nd,h1,h2,hk=>by
    simp at h1 h2;subst h1;subst h2
    show bindC kindOf ((p,w) :: P.zip vs) m p=_
    unfold bindC
    rw [oq fun v hv=>(List.nodup_cons.mp nd).1 (List.of_mem_zip hv).1,if_neg hk]
    simp
  | p :: P,w :: vs,i+1,m,nd,h1,h2,hk=>by
    show bindC kindOf ((p,w) :: P.zip vs) m x=_
    unfold bindC
    exact ot (i:=i) (List.nodup_cons.mp nd).2 (by simpa using h1) (by simpa using h2) hk
noncomputable def kR (N:List Str) (vs:List V):St:=vs.map some ++ List.replicate (N.length - vs.length) none
noncomputable def qS (CX:CXT) (P:Program) (w:World) (K:FG) (mg:Str->Option Value) (base:Heap) (N:List Str) (qual:Str) (scope:Scope) (f:Addr) (cd:Value) (A:Around) (outer:List Env) (s:Shared) (H:Hp) (E:XK):Cx where
  prog:=P
  w:=w
  K:=K
  mg:=mg
  base:=base
  A:=A.deeper (envOfC qual scope s.heap.objs.size f cd)
  N:=N
  s₀:=s
  H₀:=H
  env:=envOfC qual scope s.heap.objs.size f cd
  outer:=outer
  stack:=envOfC qual scope s.heap.objs.size f cd :: outer
  ex:=[]
  calm:=true
  fn:=fun _=>true
  pn:=[]
  xe:=fun e s'=>wpAny (model P w) (A.deeper (envOfC qual scope s.heap.objs.size f cd)) (leaving (envOfC qual scope s.heap.objs.size f cd) e) (fun _ s''=>CX outer H s E e s'') (fun e' s''=>CX outer H s E e' s'') s'
theorem qW {sc:Scope} {n:Nat} {x:Str} (h:sc.names.lookup x=some .cell):∃ c,(cellsFrom n sc.names []).lookup x=some c:=by
  have q:=PySem.W.cellsFrom_some sc.names n [] (.inl h)
  exact Option.isSome_iff_exists.mp q
theorem vA {CX:CXT} {P:Program} {w:World} {K:FG} {mg:Str->Option Value} {base:Heap} {N ps:List Str} {qual:Str} {scope:Scope} {f:Addr} {cd:Value} {A:Around} {outer:List Env} {s s1:Shared} {H:Hp} {E:XK} {us:List Value} {vs:List V}
    (S:FnScope N ps scope) (hd:A.handled=none) (e0:Env0 P w K mg base A outer s H) (hl:vs.length=ps.length) (r:Vals vs us)
    (x:InCallC s s.heap.objs.size (bindL (envOfC qual scope s.heap.objs.size f cd).kindOf (ps.zip us) fun _=>none) (cellsFrom (s.heap.objs.size+1) scope.names []) (bindC (envOfC qual scope s.heap.objs.size f cd).kindOf (ps.zip us) fun _=>none) s1) :
    Inv (qS CX P w K mg base N qual scope f cd A outer s H E) [] (kR N vs) H s1:=by
  have hpl:ps.length<=N.length:=by have:=congrArg List.length S.pre;rw [Dy] at this;omega
  obtain ⟨h1,tk,rfl,hk⟩:=x.done
  have noA:∀ b:Addr,b ∉ (qS CX P w K mg base N qual scope f cd A outer s H E).ex:=fun b z=>absurd (show b ∈ ([]:List Addr) from z) (by simp)
  refine ⟨⟨e0.mod,S.kind,rfl,rfl,Dm _,fun y z c h1 h2=>?_,fun y hy=>?_,fun y c _ h=>?_,fun _=>hd,Around.frames_deeper e0.frames,.inr ⟨rfl,rfl⟩,fun b z=>absurd z (noA b),e0.bs,e0.bsz,fun b _ _=>noA b,fun b z=>absurd z (noA b),e0.funs,e0.frf⟩,
    rfl,e0.bare,Un.kept hk,⟨_,x.toInCall.ns,fun i y v h1 h2 h3=>?_⟩,fun y c h=>⟨_,x.cell y c h⟩,e0.hok.fresh (Dm _),fun y c h=>?_,fun p hp=>absurd (show p ∈ ([]:List (Addr × Obj)) from hp) (by simp),e0.hok.kept hk,?_⟩
  · exact name_of_addr x.apart (PySem.mem_of_lookup h1) (PySem.mem_of_lookup h2)
  · have hy:scope.names.lookup y=some .cell\/scope.names.lookup y=some .free:=hy
    rcases hy with hy | hy
    · exact qW hy
    · exact absurd rfl (S.nofree _ (PySem.mem_of_lookup hy))
  · exact Nat.le_of_lt (x.above y c (PySem.mem_of_lookup h))
  · have hi:i < vs.length:=by
      unfold kR at h2
      by_cases hi:i < vs.length
      · exact hi
      · rw [List.getElem?_append_right (by simpa using hi)] at h2
        rw [List.getElem?_replicate] at h2
        split at h2 <;> cases h2
    have ha:vs[i]?=some v:=by
      unfold kR at h2
      rw [DE (by simpa using hi),Dl] at h2
      cases e:vs[i]? with
      | none=>rw [e] at h2;cases h2
      | some a=>rw [e] at h2;cases h2;rfl
    obtain ⟨u,hu,rv⟩:=r.get ha
    have hp:ps[i]?=some y:=by
      rw [<- S.pre,List.getElem?_take_of_lt (by omega)];exact h1
    have ndP:ps.Nodup:=by rw [<- S.pre];exact S.nd.sublist (List.take_sublist _ _)
    refine ⟨u,rv,?_⟩
    rcases S.par y (Di hp) with k | k
    · exact .inl ⟨k,om ndP hp hu k⟩
    · obtain ⟨c,e⟩:=qW (n:=s.heap.objs.size+1) k
      refine .inr ⟨.inl k,c,e,?_⟩
      have q:=x.cell y c e
      rw [ot ndP hp hu (by show scope.names.lookup y ≠ _;rw [k];decide)] at q
      exact q
  · exact e0.hok.fresh (Nat.le_of_lt (x.above y c (PySem.mem_of_lookup h)))
  · unfold kR
    show _=N.length
    rw [Dw,Dg,List.length_replicate]
    omega
set_option tactic.hygienic true in
theorem fn_of {CX:CXT} {P:Program} {w:World} {K:FG} {mg:Str->Option Value} {base:Heap} {k:Nat} {f:Addr} {name qual:Str} {params:Arguments} {body:List Stmt} {scope:Scope} {dV kV doc pm cdv ct oc:Value} {an od:Option Addr}
    {osl:Array (Option Value)} {N ps:List Str} {sp:Sp} (lk:K.lookup f=some ⟨oc,od,.func (PySem.W.fnOf name qual params body scope dV kV doc pm an cdv ct),osl⟩) (hcd:PySem.W.codeIn K cdv qual=true) (S:FnScope N ps scope)
    (len:∀ vs H Q E,sp vs H Q E->vs.length=ps.length)
    (hbody:∀ (A:Around) (outer:List Env) (s:Shared) (H:Hp) (vs:List V) (Q:VK) (E:XK),Room k (A.deeper (envOfC qual scope s.heap.objs.size f cdv))->sp vs H Q E ->
      ∃ t,PSs (qS CX P w K mg base N qual scope f cdv A outer s H E) body t/\t { nx:=fun _ H'=>Q .non H',rt:=Q } (kR N vs) H) :
    FnOk P w K mg base CX (k+1) f (PySem.W.fnOf name qual params body scope dV kV doc pm an cdv ct) ps sp:=by
  refine ⟨len,fun A outer s H args us vs Q E hr e0 hb r hsp=>?_⟩
  have hl:=len _ _ _ _ hsp
  have KX:K.In s.heap:=e0.mod.kin.keeps fun b o e=>(e0.bs b o e).1
  have lim:s.heap.NoLimit:=e0.mod.nolimit.keeps fun b o e=>(e0.bs b o e).1
  have hkind:∀ y ∈ ps.zip us,scope.names.lookup y.1=some .local\/(scope.names.lookup y.1=some .cell/\((cellsFrom (s.heap.objs.size+1) scope.names []).lookup y.1).isSome=true):=fun ⟨n,v⟩ hy=>by
    rcases S.par n (List.of_mem_zip hy).1 with q | q
    · exact .inl q
    · exact .inr ⟨q,PySem.W.cellsFrom_some _ _ _ (.inl q)⟩
  refine codeAny_call_function hr.depth (KX _ _ lk) rfl S.co S.gen rfl (PySem.W.codeRec_of KX hcd) (hb _ _ _ _ ?_)
  refine wpAny_newFunctionEnv_cells S.kind hkind fun env he s1 x=>?_
  subst he
  refine ⟨lim.keeps x.toInCall.keep,codeAny_func ?_⟩
  obtain ⟨t,ht,hq⟩:=hbody A outer s H vs Q E (hr.deeper _) hsp
  have I:Inv (qS CX P w K mg base N qual scope f cdv A outer s H E) [] (kR N vs) H s1:=vA S hr.hd e0 hl r x
  refine wpAny_mono (ht [] s1 (kR N vs) H _ I hq) (fun fl s' hs=>?_) fun e s' hs=>hs
  have fin:∀ {σ':St} {H':Hp} {v:V} {u:Value},Inv (qS CX P w K mg base N qual scope f cdv A outer s H E) [] σ' H' s'->RelV v u->Q v H'->CE outer P w H s Q u s' :=
    fun {σ' H' v u} J rv q=>⟨v,H',J.os,J.bare,J.base,J.hok,rv,q⟩
  cases fl with
  | ret u =>
    obtain ⟨v,σ',H',J,rv,q⟩:=hs
    exact fin J rv q
  | next =>
    obtain ⟨σ',H',J,q⟩:=hs
    exact fin (v:=V.non) (u:=Value.none) J rfl q
  | brk =>
    obtain ⟨_,_,_,q⟩:=hs
    exact False.elim q
  | cont =>
    obtain ⟨_,_,_,q⟩:=hs
    exact False.elim q
end L2
namespace L2
open PySem PySem.Spec PyProof.Rows
section
variable {X:Cx} {x:Str} {p pos:Pos} {e:Expr} {es:List Expr} {t:TA} {id T:String} {r:List V->Hp->VK->Prop}
noncomputable def tCB (r:List V->Hp->VK->Prop) (t:TA):TE:=fun σ H Q=>t σ H fun vs H1=>r vs H1 Q
theorem ml (hc:CallR X (.builtin id) r) (hg:Gl X x) (hm:X.mg x=none) (hv:bootBuiltins x=some (.builtin id)) (ha:PA X (e :: es) t) (hn:x ≠ "__name__":=by decide) (hdb:(x == ("__debug__":Str))=false:=by decide)
    (he:starEach (e :: es) X.env=(false,eval e X.env) :: starEach es X.env:=by rfl) (hpl:(backTo pos (starEach es X.env)).any (·.1)=false:=by rfl):PE X (.Call (.Name x p) (e :: es) [] pos) (tCB r t):=by
  intro pins s σ H Q I h
  refine wpAny_Call_Name_kw (hU I hg hm hv ?_ hn hdb)
  exact PyProof.Rows.callWith_builtin1 (thn (ha pos pins s σ H _ I h) fun us s1 ⟨vs,H1,I1,r1,q1⟩=>hc pins s1 σ H1 vs us Q I1 r1 q1) he hpl
theorem u7 (hc:CallR X (.type T) r) (hg:Gl X x) (hm:X.mg x=none) (hv:bootBuiltins x=some (.type T)) (ha:PA X (e :: es) t) (hn:x ≠ "__name__":=by decide) (hdb:(x == ("__debug__":Str))=false:=by decide)
    (he:starEach (e :: es) X.env=(false,eval e X.env) :: starEach es X.env:=by rfl) (hpl:(backTo pos (starEach es X.env)).any (·.1)=false:=by rfl):PE X (.Call (.Name x p) (e :: es) [] pos) (tCB r t):=by
  intro pins s σ H Q I h
  refine wpAny_Call_Name_kw (hU I hg hm hv ?_ hn hdb)
  exact PyProof.Rows.callWith_type1 (thn (ha pos pins s σ H _ I h) fun us s1 ⟨vs,H1,I1,r1,q1⟩=>hc pins s1 σ H1 vs us Q I1 r1 q1) he hpl
end
end L2
namespace HT
open PySem PyProof.Rows
section
open PySem.SeqAt
open PySem.AutoSeq1 (wpAny_loadPart')
open PySem.MeetsSeq PySem.MeetsSeq2 PySem.MeetsSeq3
end
section
variable {prog:Program} {w:World} {A:Around} {E:Value->Shared->Prop} {s:Shared}
theorem cat_tup {t b:Addr} {vs ws:List Value} {Q:Value->Shared->Prop} (ht:IsTup s.heap t vs.toArray) (hb:IsTup s.heap b ws.toArray) (hv:vs ≠ [])
    (h1:ws=[]->Q (.ref t) s) (h2:ws ≠ []->Q (.ref s.heap.objs.size) { s with heap:=s.heap.push { cls:=.type "tuple",data:=.seq (vs ++ ws).toArray } })
    (hsz:vs.length+ws.length<=sizeLine):wpAny (model prog w) A (binaryOp .Add (.ref t) (.ref b)) Q E s:=by
  obtain ⟨⟨cls,dd,data,sl⟩,ho,hc,n,hd⟩:=id ht
  obtain ⟨⟨cls2,dd2,data2,sl2⟩,ho2,hc2,n2,hd2⟩:=id hb
  simp only at hc hd hc2 hd2
  subst hc hd hc2 hd2
  have e:vs.toArray ++ ws.toArray=(vs ++ ws).toArray:=by simp
  by_cases hw:ws=[]
  · exact concat_meets ⟨_,ho,rfl⟩ ⟨_,ho2,rfl⟩ noFill_tuple_add seq_tuple_add PySem.F.slot_tuple_add PySem.F.entry_tuple_add (PySem.F.args_tuple_add_2 _ _)
      (tuple_addW1 t b vs.toArray ws.toArray n n2 dd dd2 sl sl2 (by simpa using hv) (by simp [hw])) ⟨ho,ho2,h1 hw⟩
  · refine concat_meets ⟨_,ho,rfl⟩ ⟨_,ho2,rfl⟩ noFill_tuple_add seq_tuple_add PySem.F.slot_tuple_add PySem.F.entry_tuple_add (PySem.F.args_tuple_add_2 _ _)
      (tuple_addW2 t b vs.toArray ws.toArray n n2 dd dd2 sl sl2 (by simpa using hv) (by simpa using hw) (by rw [Dp,Dp];exact hsz)) ⟨ho,ho2,?_⟩
    rw [e]
    exact h2 hw
noncomputable def sIx (n d:Nat):Option Int->Nat
  | none=>d
  | some v=>if v < 0 then (v+(n:Int)).toNat else min v.toNat n
theorem BF (n d:Nat) (hd:d<=n) (o:Option Int):sIx n d o<=n:=by
  cases o with
  | none=>exact hd
  | some v =>
    show (if v < 0 then (v+(n:Int)).toNat else min v.toNat n)<=n
    by_cases hv:v < 0
    · rw [if_pos hv];omega
    · rw [if_neg hv];exact Nat.min_le_right _ _
theorem uw (v:Int) (n d:Nat):(if v < 0 then max (v+(n:Int)) 0 else min v (n:Int))=((sIx n d (some v):Nat):Int):=by
  show (if v < 0 then max (v+(n:Int)) 0 else min v (n:Int))=(((if v < 0 then (v+(n:Int)).toNat else min v.toNat n):Nat):Int)
  by_cases hv:v < 0
  · simp only [if_pos hv];omega
  · simp only [if_neg hv];omega
theorem tf (lo hi:Option Int) (n:Nat):Builtin.Slice.sliceAdjust lo hi 1 (n:Int)=(((sIx n 0 lo:Nat):Int),((sIx n n hi:Nat):Int)):=by
  have h1:¬ ((1:Int) < 0):=by omega
  unfold Builtin.Slice.sliceAdjust
  simp only [h1,if_false]
  refine Prod.ext ?_ ?_
  · cases lo with
    | none=>rfl
    | some v=>exact uw v n 0
  · cases hi with
    | none=>rfl
    | some v=>exact uw v n n
theorem se (i j:Nat):Builtin.Slice.slicePlaces (i:Int) (j:Int) 1=j - i:=by
  unfold Builtin.Slice.slicePlaces
  have h1:(1:Int) > 0:=by omega
  simp only [h1,if_true,Int.ediv_one]
  split <;> omega
theorem lR {v:Value} {o:Option Int} {Q:Option Int->Shared->Prop} (p:IsPart v o) (h:Q o s):wpAny (model prog w) A (Builtin.Slice.slicePartIndex v) Q E s:=by
  cases p with
  | none=>exact slicePart_none h
  | int i t=>exact slicePart_int h
theorem gu {sl:Addr} {vl vu:Value} {lo hi:Option Int} {n:Nat} {Q:Int × Int × Nat->Shared->Prop} (hs:s.heap.IsSliceOf sl vl vu .none) (pl:IsPart vl lo) (pu:IsPart vu hi)
    (h:Q (((sIx n 0 lo:Nat):Int),1,sIx n n hi - sIx n 0 lo) s):wpAny (model prog w) A (Builtin.Slice.sliceApplied (.ref sl) (pure (n:Int))) Q E s:=by
  obtain ⟨os,hos,hcs,hds⟩:=id hs
  unfold Builtin.Slice.sliceApplied Builtin.Slice.sliceFields
  refine C2 (C2 (wpAny_field hos hds (x:=vl) rfl (C2 (wpAny_field hos hds (x:=vu) rfl (C2 (wpAny_field hos hds (x:=.none) rfl (C3 ?_)))))))
  refine C2 (slicePart_none ?_)
  show wpAny _ _ (if ((1:Int) == 0)=true then _ else _) _ _ s
  rw [if_neg (by decide)]
  refine C2 (lR pl (C2 (lR pu (C2 (C3 ?_)))))
  show wpAny _ _ (match Builtin.Slice.sliceAdjust lo hi 1 (n:Int) with | (lo,hi)=>pure (lo,(1:Int),Builtin.Slice.slicePlaces lo hi 1)) _ _ s
  rw [tf lo hi n]
  show wpAny _ _ (pure (((sIx n 0 lo:Nat):Int),(1:Int),Builtin.Slice.slicePlaces ((sIx n 0 lo:Nat):Int) ((sIx n n hi:Nat):Int) 1)) _ _ s
  rw [se]
  exact C3 h
theorem xl (xs:Array Value) (i k:Nat):((List.range k).filterMap fun (m:Nat)=>xs[((i:Int)+(m:Int) * 1).toNat]?).toArray=((xs.toList.drop i).take k).toArray:=by
  have e:(fun (m:Nat)=>xs[((i:Int)+(m:Int) * 1).toNat]?)=fun m=>xs[i+m]?:=by
    funext m
    have:((i:Int)+(m:Int) * 1).toNat=i+m:=by omega
    rw [this]
  rw [e]
  have:=pick_run xs i k
  rw [List.filterMap_map] at this
  have e2:((fun x=>xs[x]?) ∘ fun x=>i+x)=fun m=>xs[i+m]?:=rfl
  rw [e2] at this
  rw [this]
theorem getItem_tuple_cut {t sl:Addr} {items:Array Value} {vl vu:Value} {lo hi:Option Int} {Q:Value->Shared->Prop} (ht:IsTup s.heap t items) (hs:s.heap.IsSliceOf sl vl vu .none) (pl:IsPart vl lo) (pu:IsPart vu hi)
    (hw:¬ (sIx items.size 0 lo=0/\sIx items.size items.size hi=items.size))
    (h:Q (.ref s.heap.objs.size) { s with heap:=s.heap.push { cls:=.type "tuple",data:=.seq ((items.toList.drop (sIx items.size 0 lo)).take (sIx items.size items.size hi - sIx items.size 0 lo)).toArray } })
    (hsz:items.size<=sizeLine):wpAny (model prog w) A (getItem (.ref t) (.ref sl)) Q E s:=by
  have htake:sizeOk (.seq ((items.toList.drop (sIx items.size 0 lo)).take (sIx items.size items.size hi - sIx items.size 0 lo)).toArray):=by
    show ((items.toList.drop (sIx items.size 0 lo)).take (sIx items.size items.size hi - sIx items.size 0 lo)).toArray.size<=sizeLine
    rw [Dp,Dy,List.length_drop,Array.length_toList]
    omega
  have hj:sIx items.size items.size hi<=items.size:=BF _ _ (Dm _) hi
  obtain ⟨os,hos,hcs,hds⟩:=id hs
  have hTs:s.TypeIs (.ref sl) "slice":=⟨os,hos,hcs⟩
  unfold getItem
  try with_reducible refine C4 ?_
  first | refine C2 (C3 ?_) | skip
  refine C2 (wpAny_sequenceKey ht.typeIs (by decide) ?_)
  refine C2 (wpAny_callSpecial?_slot (name:=Str.ofString "__getitem__") ht.typeIs PyProof.Rows.slot_tuple_getitem
    (wpAny_call_entry PyProof.Rows.slot_tuple_getitem ht.typeIs entry_tuple_getitem ?_ (args_tuple_getitem _ _)))
  show wpAny _ _ (Builtin.Tuple.tupleItemsOf (.ref t) >>= _) _ _ s
  refine C2 (tupleItemsOf_ ht ?_)
  refine C2 (wpAny_typeOf hTs ?_)
  rw [if_pos (by decide)]
  refine C2 (gu hs pl pu ?_)
  have hno:¬ ((((sIx items.size 0 lo:Nat):Int) == 0 && (1:Int) == 1 && (sIx items.size items.size hi - sIx items.size 0 lo) == items.size)=true):=by
    intro q
    rw [Bool.and_eq_true,Bool.and_eq_true] at q
    have q1:((sIx items.size 0 lo:Nat):Int)=0:=eq_of_beq q.1.1
    have q2:sIx items.size items.size hi - sIx items.size 0 lo=items.size:=eq_of_beq q.2
    exact hw ⟨by omega,by omega⟩
  show wpAny _ _ (if (((sIx items.size 0 lo:Nat):Int) == 0 && (1:Int) == 1 && (sIx items.size items.size hi - sIx items.size 0 lo) == items.size)=true then _ else _) _ _ s
  rw [if_neg hno,xl]
  first
    | exact C2 (m:=Builtin.Tuple.tupleExact _) (wpAny_newObj_type (C3 ⟨_,rfl,C3 h⟩) htake)
    | exact C2 (m:=Builtin.Tuple.tupleExact _) (wpAny_newObj_type (C2 (C3 (C3 ⟨_,rfl,C3 h⟩))) htake)
    | exact C2 (C2 (m:=Builtin.Tuple.tupleExact _) (wpAny_newObj_type (C3 (C3 ⟨_,rfl,C3 h⟩)) htake))
    | exact C2 (C2 (m:=Builtin.Tuple.tupleExact _) (wpAny_newObj_type (C3 ⟨_,rfl,C3 h⟩) htake))
end
end HT
namespace L2
open PySem PySem.Spec PyProof.Rows
noncomputable abbrev TO:=St->Hp->(Option Int->Hp->Prop)->Prop
noncomputable def PO (X:Cx) (e:Option Expr) (t:TO):Prop :=
  ∀ (pins:List (Addr × Obj)) (s:Shared) (σ:St) (H:Hp) (Q:Option Int->Hp->Prop),Inv X pins σ H s->t σ H Q ->
    wpAny (model X.prog X.w) X.A (evalPart e X.env) (fun u s'=>∃ o H',Inv X pins σ H' s'/\IsPart u o/\Q o H') X.xe s
noncomputable def yU:TO:=fun _ H Q=>Q none H
noncomputable def tPart (t:TE):TO:=fun σ H Q=>t σ H fun x H1=>∃ i,x=.int i/\Q (some i) H1
section
variable {X:Cx} {e:Expr} {te:TE} {lo hi:Option Expr} {tl th:TO} {pos p2:Pos}
theorem zG:PO X none yU:=by
  intro pins s σ H Q I h
  rw [evalPart_none]
  exact C3 ⟨none,H,I,.none,h⟩
theorem zF (h:PE X e te):PO X (some e) (tPart te):=by
  intro pins s σ H Q I hw
  rw [evalPart_some]
  refine thn (h pins s σ H _ I hw) fun u s1 ⟨x,H1,I1,r1,q1⟩=>?_
  obtain ⟨i,rfl,q⟩:=q1
  obtain ⟨t,rfl⟩:=r1
  exact ⟨some i,H1,I1,.int i t,q⟩
noncomputable def SlR (X:Cx) (r:V->Option Int->Option Int->Hp->VK->Prop):Prop :=
  ∀ (pins:List (Addr × Obj)) (s:Shared) (σ:St) (H:Hp) (x:V) (v vl vu:Value) (lo hi:Option Int) (sl:Addr) (Q:VK),Inv X pins σ H s->RelV x v->s.heap.IsSliceOf sl vl vu .none->IsPart vl lo->IsPart vu hi->r x lo hi H Q ->
    ∃ T id,typeLookup (.type T) "__getitem__"=pure (some (.builtin id))/\s.TypeIs v T/\wpAny (model X.prog X.w) X.A (getItem v (.ref sl)) (EP X pins σ Q) X.xe s
theorem SlR.or {r r':V->Option Int->Option Int->Hp->VK->Prop} (h:SlR X r) (h':SlR X r'):SlR X (fun x lo hi H Q=>r x lo hi H Q\/r' x lo hi H Q):=by
  intro pins s σ H x v vl vu lo hi sl Q I rx hs pl pu q
  rcases q with q | q
  · exact h pins s σ H x v vl vu lo hi sl Q I rx hs pl pu q
  · exact h' pins s σ H x v vl vu lo hi sl Q I rx hs pl pu q
noncomputable def tSl (r:V->Option Int->Option Int->Hp->VK->Prop) (te:TE) (tl th:TO):TE:=fun σ H Q=>te σ H fun x H1=>tl σ H1 fun l H2=>th σ H2 fun u H3=>r x l u H3 Q
theorem xm {r:V->Option Int->Option Int->Hp->VK->Prop} (hr:SlR X r) (he:PE X e te) (hl:PO X lo tl) (hu:PO X hi th):PE X (.Subscript e (.Slice lo hi none p2) pos) (tSl r te tl th):=by
  intro pins s σ H Q I h
  refine Subscript_ (thn (he pins s σ H _ I h) fun v s1 ⟨x,H1,I1,r1,q1⟩=>?_)
  refine wpAny_Slice (thn (hl pins s1 σ H1 _ I1 q1) fun vl s2 ⟨l,H2,I2,pl,q2⟩=>thn (hu pins s2 σ H2 _ I2 q2) fun vu s3 ⟨u,H3,I3,pu,q3⟩=>?_)
  rw [evalPart_none]
  refine C3 ?_
  have I4:Inv X pins σ H3 { s3 with heap:=s3.heap.push { cls:=.type "slice",data:=.fields #[vl,vu,.none] } }:=I3.kept (t':=s3.toks) fun b ob q=>C7 _ q
  obtain ⟨T,id,hT,ht,hg⟩:=hr pins { s3 with heap:=s3.heap.push { cls:=.type "slice",data:=.fields #[vl,vu,.none] } } σ H3 x v vl vu l u s3.heap.objs.size Q I4 r1 (Heap.IsSliceOf.new ..) pl pu q3
  show wpAny (model X.prog X.w) X.A (subscriptTail e (.Slice lo hi none p2) v (.ref s3.heap.objs.size)) (EP X pins σ Q) X.xe { s3 with heap:=s3.heap.push { cls:=.type "slice",data:=.fields #[vl,vu,.none] } }
  exact tail_any (ops:=[.ref s3.heap.objs.size,v]) ht hT hg (by with_unfolding_all rfl)
noncomputable def qT (xs:List V) (lo hi:Option Int):List V:=(xs.drop (HT.sIx xs.length 0 lo)).take (HT.sIx xs.length xs.length hi - HT.sIx xs.length 0 lo)
theorem k9 (xs:List V) (lo hi:Option Int):(qT xs lo hi).length<=xs.length:=by
  unfold qT
  rw [Dy,List.length_drop]
  omega
noncomputable def BP (K:FG):V->Option Int->Option Int->Hp->VK->Prop:=fun x lo hi H Q=>∃ a xs,x=.ref a/\SqT K H a xs /\
  ¬ (HT.sIx xs.length 0 lo=0/\HT.sIx xs.length xs.length hi=xs.length)/\∀ p,H p=none->Q (.ref p) (upd H p (.tup (qT xs lo hi)))
theorem sl_tup:SlR X (BP X.K):=by
  intro pins s σ H x v vl vu lo hi sl Q I rx hs pl pu h
  obtain ⟨a,xs,rfl,hx,hw,q⟩:=h
  cases rx
  obtain ⟨its,r,ht,hz⟩:=I.tuple hx
  have hlen:its.toArray.size=xs.length:=by rw [Dp];exact r.length.symm
  refine ⟨"tuple",_,PyProof.Rows.slot_tuple_getitem.lookup,ht.typeIs,?_⟩
  refine HT.getItem_tuple_cut ht hs pl pu (by rw [hlen];exact hw) ?_ (by rw [hlen];exact hz)
  rw [hlen]
  refine ⟨.ref s.heap.objs.size,_,I.laid (t':=s.toks) (o:=.tup (qT xs lo hi)) (fun b ob q=>C7 _ q) (Dm _) ?_,rfl,q _ (I.hok.fresh (Dm _))⟩
  exact ⟨DI (k9 xs lo hi) hz,_,(r.drop (HT.sIx xs.length 0 lo)).take (HT.sIx xs.length xs.length hi - HT.sIx xs.length 0 lo),IsTupD.new _ _⟩
noncomputable def tR (K:FG):R2:=fun x y H Q=>∃ a b xs ys,x=.ref a/\y=.ref b/\SqT K H a xs/\SqT K H b ys/\xs ≠ []/\xs.length+ys.length<=sizeLine /\
  (ys=[]->Q (.ref a) H)/\(ys ≠ []->∀ p,H p=none->Q (.ref p) (upd H p (.tup (xs ++ ys))))
theorem Vals.nil_iff {xs:List V} {us:List Value} (r:Vals xs us):us=[] ↔ xs=[]:=by
  cases r with
  | nil=>simp
  | cons _ _=>simp
theorem op_catT:OpR X (binaryOp .Add) (tR X.K):=by
  intro pins s σ H x y v u Q I rx ry h
  obtain ⟨a,b,xs,ys,rfl,rfl,ha,hb,hx,hz,q1,q2⟩:=h
  cases rx
  cases ry
  obtain ⟨its,r1,p1,_⟩:=I.tuple ha
  obtain ⟨its2,r2,p2,_⟩:=I.tuple hb
  refine HT.cat_tup p1 p2 (fun z=>hx (r1.nil_iff.mp z)) (fun z=>⟨.ref a,H,I,rfl,q1 (r2.nil_iff.mp z)⟩) (fun z=>?_) (by rw [<- r1.length,<- r2.length];exact hz)
  refine ⟨.ref s.heap.objs.size,_,I.laid (t':=s.toks) (o:=.tup (xs ++ ys)) (fun b ob q=>C7 _ q) (Dm _) ?_,rfl,q2 (fun w=>z (r2.nil_iff.mpr w)) _ (I.hok.fresh (Dm _))⟩
  exact ⟨by rw [Dw];exact hz,_,r1.append r2,IsTupD.new _ _⟩
end
end L2
namespace L2
open PySem PySem.Spec PyProof.Rows
noncomputable def ixN (n:Nat) (i:Int):Option Nat:=if 0<=i then (if i < n then some i.toNat else none) else if -(n:Int)<=i then some (i+n).toNat else none
noncomputable def atI {α:Type} (xs:List α) (i:Int):Option α:=(ixN xs.length i).bind fun j=>xs[j]?
theorem ua {n:Nat} {i:Int} {j:Nat} (h:ixN n i=some j):seqIndex? i n=some j/\j < n/\-(n:Int)<=i/\i < n:=by
  unfold ixN at h
  by_cases h0:0<=i
  · rw [if_pos h0] at h
    by_cases h1:i < n
    · rw [if_pos h1] at h
      have e:i.toNat=j:=DO h
      exact ⟨by rw [seqIndex_of h0 h1,e],by omega,by omega,h1⟩
    · rw [if_neg h1] at h;cases h
  · rw [if_neg h0] at h
    by_cases h1:-(n:Int)<=i
    · rw [if_pos h1] at h
      have e:(i+n).toNat=j:=DO h
      exact ⟨by rw [seqIndex_neg (by omega) h1,e],by omega,h1,by omega⟩
    · rw [if_neg h1] at h;cases h
theorem uD {α:Type} {xs:List α} {i:Int} {v:α} (h:atI xs i=some v):∃ j,seqIndex? i xs.length=some j/\xs[j]?=some v/\j < xs.length/\-(xs.length:Int)<=i/\i < xs.length:=by
  unfold atI at h
  cases e:ixN xs.length i with
  | none=>rw [e] at h;cases h
  | some j =>
    rw [e] at h
    obtain ⟨h1,h2,h3,h4⟩:=ua e
    exact ⟨j,h1,h,h2,h3,h4⟩
noncomputable def uF (b:Expr):Prop:=∀ o i,subscripted b false o i=operate [o,i] (getItem o i)
noncomputable def IxR (X:Cx) (r:R2):Prop :=
  ∀ (value slice:Expr) (pins:List (Addr × Obj)) (s:Shared) (σ:St) (H:Hp) (x y:V) (v u:Value) (Q:VK),Inv X pins σ H s->RelV x v->RelV y u->r x y H Q ->
    subscripted slice false v u=operate [v,u] (getItem v u)->wpAny (model X.prog X.w) X.A (subscriptTail value slice v u) (EP X pins σ Q) X.xe s
noncomputable def MtR (X:Cx) (id:String) (r:V->List V->Hp->VK->Prop):Prop :=
  ∀ (pins:List (Addr × Obj)) (s:Shared) (σ:St) (H:Hp) (x:V) (xs:List V) (v:Value) (us:List Value) (Q:VK),Inv X pins σ H s->RelV x v->Vals xs us->r x xs H Q ->
    wpAny (model X.prog X.w) X.A (call (.builtin id) (v :: us)) (EP X pins σ Q) X.xe s
section
variable {X:Cx} {a b:Expr} {ta tb:TE} {pos:Pos}
theorem IxR.or {r r':R2} (h:IxR X r) (h':IxR X r'):IxR X (fun x y H Q=>r x y H Q\/r' x y H Q):=by
  intro value slice pins s σ H x y v u Q I rx ry q hs
  rcases q with q | q
  · exact h value slice pins s σ H x y v u Q I rx ry q hs
  · exact h' value slice pins s σ H x y v u Q I rx ry q hs
theorem pe_ix {r:R2} (hr:IxR X r) (ha:PE X a ta) (hb:PE X b tb) (hs:uF b):PE X (.Subscript a b pos) (tOp r ta tb):=by
  intro pins s σ H Q I h
  exact Subscript_ (CW ha hb I h fun v u s2 x y H2 I2 rx ry q=>hr a b pins s2 σ H2 x y v u Q I2 rx ry q (hs _ _))
noncomputable def xb (K:FG):R2:=fun x y H Q=>∃ p xs i v,x=.ref p/\y=.int i/\SqL K H p xs/\atI xs i=some v/\Q v H
noncomputable def xa (K:FG):R2:=fun x y H Q=>∃ p xs i v,x=.ref p/\y=.int i/\SqT K H p xs/\atI xs i=some v/\Q v H
theorem ix_list:IxR X (xb X.K):=by
  intro value slice pins s σ H x y v u Q I rx ry h hs
  obtain ⟨p,xs,i,z,rfl,rfl,hq,he,q⟩:=h
  cases rx
  obtain ⟨t,rfl⟩:=ry
  obtain ⟨its,r,pl,hz⟩:=I.list hq
  obtain ⟨j,h1,h2,h3,h4,h5⟩:=uD he
  obtain ⟨w,ew,rw'⟩:=r.get h2
  have hl:=r.length
  have hn:=o8
  have fin:EP X pins σ Q w s:=⟨z,H,I,rw',q⟩
  by_cases h0:0<=i
  · have hj:i.toNat=j:=by
      rw [seqIndex_of h0 h5] at h1
      exact DO h1
    exact item_listR pl.isList h0 (by omega) (by rw [hj];simpa using ew) fin hs
  · have hj:(i+(its.toArray.size:Int)).toNat=j:=by
      rw [seqIndex_neg (by omega) h4] at h1
      rw [Dp,<- hl]
      exact DO h1
    exact subscriptTail_builtinR (x:=w) pl.isList.typeIs slot_list_getitem.lookup
      (wpAny_getItem_list_neg (Q:=fun r s'=>r=w/\EP X pins σ Q r s') pl.isList (by omega) (by rw [Dp] <;> omega) (by omega) (by rw [hj];simpa using ew) ⟨rfl,fin⟩) hs
theorem Cz:IxR X (xa X.K):=by
  intro value slice pins s σ H x y v u Q I rx ry h hs
  obtain ⟨p,xs,i,z,rfl,rfl,hq,he,q⟩:=h
  cases rx
  obtain ⟨t,rfl⟩:=ry
  obtain ⟨its,r,pl,hz⟩:=I.tuple hq
  obtain ⟨j,h1,h2,h3,h4,h5⟩:=uD he
  obtain ⟨w,ew,rw'⟩:=r.get h2
  have hl:=r.length
  have hn:=o8
  have fin:EP X pins σ Q w s:=⟨z,H,I,rw',q⟩
  exact subscriptTail_builtinR (x:=w) pl.typeIs slot_tuple_getitem.lookup
    (getItem_tuple (j:=j) (Q:=fun r s'=>r=w/\EP X pins σ Q r s') pl (by omega) (by omega) (by rw [Dp,<- hl];exact h1) (by simpa using ew) ⟨rfl,fin⟩) hs
theorem su (its:List Value) (n j:Nat) (u:Value):Obj.mapSeq (·.setIfInBounds j u) { cls:=.type "list",data:=.seq its.toArray n } = { cls:=.type "list",data:=.seq (its.set j u).toArray n }:=by
  simp [Obj.mapSeq]
theorem Inv.lst {pins:List (Addr × Obj)} {σ:St} {H:Hp} {s:Shared} {p:Addr} {xs:List V} (I:Inv X pins σ H s) (h:H p=some (.lst xs)) :
    ∃ (its:List Value) (n:Nat),Vals xs its/\s.heap.get? p=some { cls:=.type "list",data:=.seq its.toArray n }/\xs.length<=sizeLine:=by
  obtain ⟨z,its,n,r,e⟩:=I.hok p _ h
  exact ⟨its,n,r,e,z⟩
theorem Inv.lstUpd {pins:List (Addr × Obj)} {σ:St} {H:Hp} {s:Shared} {p:Addr} {xs ys:List V} {its its':List Value} {n n':Nat} {f:Obj->Obj} (I:Inv X pins σ H s) (h:H p=some (.lst xs))
    (ho:s.heap.get? p=some { cls:=.type "list",data:=.seq its.toArray n }) (hf:f { cls:=.type "list",data:=.seq its.toArray n } = { cls:=.type "list",data:=.seq its'.toArray n' }) (r:Vals ys its') (hz:ys.length<=sizeLine) (t:Nat) :
    Inv X pins σ (upd H p (.lst ys)) { s with heap:=s.heap.update p f,toks:=t }:=by
  have e:(s.heap.update p f).get? p=some { cls:=.type "list",data:=.seq its'.toArray n' }:=by
    rw [Dv f ho (by rw [hf] <;> rfl),hf]
  refine I.write (x:=p) (e:=p) (by rw [h];trivial) (.inl rfl) (fun b u hb q=>(DF _ _ (Ne.symm hb)).trans q) ⟨_,e⟩ ?_
  exact ⟨hz,its',n',r,e⟩
noncomputable def tL:V->V->V->Hp->(Hp->Prop)->Prop:=fun o i v H Q=>∃ p xs k j,o=.ref p/\i=.int k/\H p=some (.lst xs)/\ixN xs.length k=some j/\Q (upd H p (.lst (xs.set j v)))
theorem wD:yJ X tL:=by
  intro pins s σ H o i v ov iv u Q I ro ri rv h
  obtain ⟨p,xs,k,j,rfl,rfl,hp,hj,q⟩:=h
  cases ro
  obtain ⟨t,rfl⟩:=ri
  obtain ⟨its,n,r,ho,hz⟩:=I.lst hp
  obtain ⟨h1,h2,h3,h4⟩:=ua hj
  have hl:=r.length
  have hn:=o8
  have I':Inv X pins σ (upd H p (.lst (xs.set j v))) { s with heap:=s.heap.update p (Obj.mapSeq (·.setIfInBounds j u)) } :=
    I.lstUpd hp ho (su its n j u) (r.set rv j) (by rw [List.length_set];exact hz) s.toks
  by_cases h0:0<=k
  · have hk:k.toNat=j:=by
      rw [seqIndex_of h0 h4] at h1
      exact DO h1
    exact PySem.W.ki_setAt ho h0 (by omega) (by rw [Dp,<- hl];exact h4) (by rw [hk];exact ⟨_,I',q⟩)
  · have hk:(k+(its.toArray.size:Int)).toNat=j:=by
      rw [seqIndex_neg (by omega) h3] at h1
      rw [Dp,<- hl]
      exact DO h1
    exact PySem.W.ki_setBack ho (by omega) (by rw [Dp,<- hl];exact h3) (by omega) (by rw [hk];exact ⟨_,I',q⟩)
theorem oC (lo hi:Option Int) (n:Nat):(sliceBounds lo hi none n).1=((HT.sIx n 0 lo:Nat):Int)/\(sliceBounds lo hi none n).2.1=((HT.sIx n n hi:Nat):Int)/\(sliceBounds lo hi none n).2.2=1:=by
  refine ⟨?_,?_,rfl⟩
  · cases lo with
    | none=>simp [sliceBounds,HT.sIx]
    | some i =>
      simp only [sliceBounds,HT.sIx,Option.getD_none,show (1:Int) > 0 by decide,if_true]
      by_cases h:i < 0
      · simp only [h,if_true] <;> omega
      · simp only [h,if_false] <;> omega
  · cases hi with
    | none=>simp [sliceBounds,HT.sIx]
    | some i =>
      simp only [sliceBounds,HT.sIx,Option.getD_none,show (1:Int) > 0 by decide,if_true]
      by_cases h:i < 0
      · simp only [h,if_true] <;> omega
      · simp only [h,if_false] <;> omega
theorem m4 (its:List Value) (lo hi:Option Int):slicePick its.toArray lo hi none=((its.drop (HT.sIx its.length 0 lo)).take (HT.sIx its.length its.length hi - HT.sIx its.length 0 lo)).toArray:=by
  obtain ⟨h1,h2,h3⟩:=oC lo hi its.toArray.size
  unfold slicePick
  rw [h1,h2,h3]
  simp only [sliceRange_one,pick_run,Dp] <;> rfl
noncomputable def BQ (K:FG):V->Option Int->Option Int->Hp->VK->Prop:=fun x lo hi H Q=>∃ a xs,x=.ref a/\SqL K H a xs/\∀ p,H p=none->Q (.ref p) (upd H p (.lst (qT xs lo hi)))
theorem sl_list:SlR X (BQ X.K):=by
  intro pins s σ H x v vl vu lo hi sl Q I rx hs pl pu h
  obtain ⟨a,xs,rfl,hx,q⟩:=h
  cases rx
  obtain ⟨its,r,ht,hz⟩:=I.list hx
  have hlen:=r.length
  refine ⟨"list",_,slot_list_getitem.lookup,ht.isList.typeIs,?_⟩
  refine wpAny_getItem_list_slice ht.isList hs pl pu .none (by simp) ?_ (by rw [Dp] <;> omega)
  rw [m4,<- hlen]
  refine ⟨.ref s.heap.objs.size,_,I.laid (t':=s.toks) (o:=.lst (qT xs lo hi)) (fun b ob q=>C7 _ q) (Dm _) ?_,rfl,q _ (I.hok.fresh (Dm _))⟩
  exact ⟨DI (k9 xs lo hi) hz,_,0,(r.drop (HT.sIx xs.length 0 lo)).take (HT.sIx xs.length xs.length hi - HT.sIx xs.length 0 lo),Df _ rfl⟩
theorem aF:CallR X (.builtin "len") (fun xs H Q=>∃ p ys,xs=[.ref p]/\(SqL X.K H p ys\/SqT X.K H p ys)/\Q (.int ys.length) H):=by
  intro pins s σ H xs us Q I r h
  obtain ⟨p,ys,rfl,hq,q⟩:=h
  obtain ⟨u,rfl,rx⟩:=lP r
  cases rx
  have hn:=o8
  rcases hq with hq | hq
  · obtain ⟨its,r',pl,hz⟩:=I.list hq
    have hlen:=r'.length
    exact Calls.call_len_list pl.isList (by simp only [Dp] <;> omega) ⟨.int ys.length,H,I.tok _,⟨s.toks+1,by rw [Dp,hlen]⟩,q⟩
  · obtain ⟨its,r',pl,hz⟩:=I.tuple hq
    have hlen:=r'.length
    exact len_tuple pl (by simp only [Dp] <;> omega) ⟨.int ys.length,H,I.tok _,⟨s.toks+1,by rw [Dp,hlen]⟩,q⟩
theorem CallR.or {f:Value} {r r':List V->Hp->VK->Prop} (h:CallR X f r) (h':CallR X f r'):CallR X f (fun xs H Q=>r xs H Q\/r' xs H Q):=by
  intro pins s σ H xs us Q I rs q
  rcases q with q | q
  · exact h pins s σ H xs us Q I rs q
  · exact h' pins s σ H xs us Q I rs q
theorem bu:CallR X (.type "tuple") (fun xs H Q=>∃ p ys,xs=[.ref p]/\((SqL X.K H p ys/\∀ l,H l=none->Q (.ref l) (upd H l (.tup ys)))\/(SqT X.K H p ys/\Q (.ref p) H))):=by
  intro pins s σ H xs us Q I r h
  obtain ⟨p,ys,rfl,h⟩:=h
  obtain ⟨u,rfl,rx⟩:=lP r
  cases rx
  rcases h with ⟨hq,q⟩ | ⟨hq,q⟩
  · obtain ⟨its,r',pl,hz⟩:=I.list hq
    have hlen:=r'.length
    refine call_tuple_list pl.isList (fun h' kp=>?_) (by simp only [Dp] <;> omega)
    have I1:Inv X pins σ H { s with heap:=h' }:=I.kept (t':=s.toks) kp
    have I2:Inv X pins σ (upd H h'.objs.size (.tup ys)) { s with heap:=h'.push { cls:=.type "tuple",data:=.seq its.toArray } } :=
      I1.laid (t':=s.toks) (fun b o e=>C7 _ e) (Dm _) (show ObjOk X.prog X.w _ _ _ (.tup ys) from ⟨hz,its,r',IsTupD.new _ _⟩)
    exact ⟨.ref h'.objs.size,_,I2,rfl,q _ (I1.hok.fresh (Dm _))⟩
  · obtain ⟨its,r',pl,hz⟩:=I.tuple hq
    exact call_tuple_same pl ⟨.ref p,H,I,rfl,q⟩
noncomputable def tyV (K:FG) (T:String) (x:V) (H:Hp):Prop:=match x with
  | .str _=>T = "str"
  | .int _=>T = "int"
  | .ref p=>(T = "list"/\∃ xs,SqL K H p xs)\/(T = "tuple"/\((∃ o,K.lookup p=some o/\o.cls=.type "tuple"/\o.dict=none)\/∃ xs,H p=some (.tup xs))) \/
      (T = "dict"/\((∃ kvs,H p=some (.dK kvs))\/∃ kvs,H p=some (.dT kvs)))\/(T = "set"/\∃ S n,H p=some (.set S n))
  | _=>False
theorem wo {pins:List (Addr × Obj)} {σ:St} {H:Hp} {s:Shared} {T:String} {x:V} {v:Value} (I:Inv X pins σ H s) (r:RelV x v) (ty:tyV X.K T x H) :
    s.TypeIs v T/\∀ a,v=.ref a->∃ ob,s.heap.get? a=some ob/\ob.dict=none:=by
  cases x with
  | str z =>
    obtain ⟨t,rfl⟩:=r
    cases (show T = "str" from ty)
    exact ⟨typeIs_str s z t,fun _ e=>nomatch e⟩
  | int i =>
    obtain ⟨t,rfl⟩:=r
    cases (show T = "int" from ty)
    exact ⟨typeIs_int s i t,fun _ e=>nomatch e⟩
  | ref p =>
    cases r
    rcases ty with ⟨rfl,xs,hq⟩ | ⟨rfl,⟨o,hk,hc,hd⟩ | ⟨xs,ht⟩⟩ | ⟨rfl,hk⟩ | ⟨rfl,S,n,hk⟩
    · obtain ⟨its,_,pl,_⟩:=I.list hq
      refine ⟨pl.isList.typeIs,fun a e=>?_⟩
      cases e
      obtain ⟨o,n,e,c,hd,_⟩:=pl
      exact ⟨o,e,hd⟩
    · refine ⟨⟨o,I.kIn p o hk,hc⟩,fun a e=>?_⟩
      cases e
      exact ⟨o,I.kIn _ o hk,hd⟩
    · obtain ⟨_,its,_,o,e,c,n,d⟩:=I.hok p _ ht
      refine ⟨⟨o,e,c⟩,fun a e2=>?_⟩
      cases e2
      exact ⟨o,e,congrArg Prod.snd d⟩
    · have z:∃ o,s.heap.get? p=some o/\o.ExactDict:=by
        rcases hk with ⟨kvs,hk⟩ | ⟨kvs,hk⟩
        · obtain ⟨_,_,_,_,o,_,_,e,ex,_⟩:=I.hok p _ hk
          exact ⟨o,e,ex⟩
        · obtain ⟨_,_,_,_,o,_,_,e,ex,_⟩:=I.hok p _ hk
          exact ⟨o,e,ex⟩
      obtain ⟨o,e,ex⟩:=z
      refine ⟨⟨o,e,ex.1⟩,fun a e2=>?_⟩
      cases e2
      exact ⟨o,e,ex.2.1⟩
    · obtain ⟨o,_,_,_,e,ex,_⟩:=I.hok p _ hk
      refine ⟨⟨o,e,ex.1⟩,fun a e2=>?_⟩
      cases e2
      exact ⟨o,e,ex.2.1⟩
  | _=>exact False.elim ty
noncomputable def tBM0 (K:FG) (T:String) (r:V->List V->Hp->VK->Prop) (to:TE):TE:=fun σ H Q=>to σ H fun x H1=>tyV K T x H1/\r x [] H1 Q
noncomputable def tBM (K:FG) (T:String) (r:V->List V->Hp->VK->Prop) (to:TE) (t:TA):TE:=fun σ H Q=>to σ H fun x H1=>tyV K T x H1/\t σ H1 fun xs H2=>r x xs H2 Q
variable {o e:Expr} {es:List Expr} {to:TE} {t:TA} {name:Str} {apos cpos:Pos} {T id:String} {r:V->List V->Hp->VK->Prop}
theorem Ca (pa:PlainAttrs T) (slot:Slot T name id) (hty:typeOf (.builtin id)=pure (.type "method_descriptor")) (hm:MtR X id r) (ho:PE X o to)
    (hbase:attributeBase o name X.env (eval o X.env)=eval o X.env:=by rfl) (hline:(apos.endLine == cpos.line)=true:=by rfl):PE X (.Call (.Attribute o name apos) [] [] cpos) (tBM0 X.K T r to):=by
  intro pins s σ H Q I h
  refine wpAny_Call_method0_late hbase hline (thn (ho pins s σ H _ I h) fun v s1 ⟨x,H1,I1,r1,ty,q1⟩=>?_)
  obtain ⟨h1,h2⟩:=wo I1 r1 ty
  exact ⟨T,id,pa,slot,hty,h1,h2,Calls.callWith_builtin rfl (PySem.evalArgs_none (hm pins s1 σ H1 x [] v [] Q I1 r1 .nil q1))⟩
theorem pe_bm (pa:PlainAttrs T) (slot:Slot T name id) (hty:typeOf (.builtin id)=pure (.type "method_descriptor")) (hm:MtR X id r) (ho:PE X o to) (ha:PA X (e :: es) t)
    (hbase:attributeBase o name X.env (eval o X.env)=eval o X.env:=by rfl)
    (hfew:((backTo cpos (starEach (e :: es) X.env)).all (fun x=>!x.1) && (backToKw cpos (keywordEach [] X.env)).all (fun x=>x.1.isSome)
      && decide ((e :: es).length+([]:List Keyword).length+(if ([]:List Keyword).isEmpty then 0 else 1) < 30))=true:=by rfl)
    (hline:(apos.endLine == cpos.line)=true:=by rfl) (hs:starEach (e :: es) X.env=(false,eval e X.env) :: starEach es X.env:=by rfl) (hplain:(backTo cpos (starEach es X.env)).any (·.1)=false:=by rfl) :
    PE X (.Call (.Attribute o name apos) (e :: es) [] cpos) (tBM X.K T r to t):=by
  intro pins s σ H Q I h
  refine wpAny_Call_method_late hbase hfew hline rfl (thn (ho pins s σ H _ I h) fun v s1 ⟨x,H1,I1,r1,ty,q1⟩=>?_)
  obtain ⟨h1,h2⟩:=wo I1 r1 ty
  refine ⟨T,id,pa,slot,hty,h1,h2,?_⟩
  have hA:=ha cpos pins s1 σ H1 _ I1 q1
  rw [hs] at hA ⊢
  refine Calls.callWith_builtin (by show (false || (backTo cpos (starEach es X.env)).any (·.1))=false;rw [hplain] <;> rfl) (Calls.evalArgs_plain ?_)
  exact thn hA fun us s2 ⟨vs,H2,I2,r2,q2⟩=>hm pins s2 σ H2 x vs v us Q I2 r1 r2 q2
end
end L2
namespace L2
open PySem PySem.Spec PyProof.Rows
noncomputable def MtM (X:Cx) (id:String) (r:V->List V->Hp->VK->Prop):Prop :=
  ∀ (pins:List (Addr × Obj)) (s:Shared) (σ:St) (H:Hp) (x:V) (xs:List V) (v:Value) (us:List Value) (Q:VK),Inv X pins σ H s->RelV x v->Vals xs us->r x xs H Q ->
    wpAny (model X.prog X.w) X.A (call (.builtin id) (v :: us)) (EP X pins σ Q) X.xe s
theorem Vals.one:∀ {x:V} {us:List Value},Vals [x] us->∃ u,us=[u]/\RelV x u
  | _,_,.cons r .nil=>⟨_,rfl,r⟩
theorem Vals.rep {xs:List V} {us:List Value} (h:Vals xs us):∀ k:Nat,Vals (List.replicate k xs).flatten (List.replicate k us).flatten
  | 0=>.nil
  | k+1=>by
    rw [List.replicate_succ,List.replicate_succ,List.flatten_cons,List.flatten_cons]
    exact Vals.append h (Vals.rep h k)
section
variable {X:Cx} {pins:List (Addr × Obj)} {σ:St} {H:Hp} {s:Shared} {l b:Addr} {xs ys zs:List V}
theorem Inv.lset {its its':List Value} {n:Nat} {f:Array Value->Array Value} {t':Nat} (I:Inv X pins σ H s) (hH:H l=some (.lst xs))
    (e:s.heap.get? l=some { cls:=.type "list",data:=.seq its.toArray n }) (hf:f its.toArray=its'.toArray) (hv:Vals ys its') (hz:ys.length<=sizeLine) :
    Inv X pins σ (upd H l (.lst ys)) { s with heap:=s.heap.update l (Obj.mapSeq f),toks:=t' }:=by
  have q:=PySem.IsL.update e f
  rw [hf] at q
  refine I.write (x:=l) (e:=l) (by rw [hH];exact trivial) (.inl rfl) (fun b' u hb hu=>(DF s.heap (Obj.mapSeq f) (Ne.symm hb)).trans hu) ⟨_,q⟩ ?_
  exact ⟨hz,its',_,hv,q⟩
theorem Inv.lnew {its:List Value} {t':Nat} (I:Inv X pins σ H s) (hv:Vals ys its) (hz:ys.length<=sizeLine) :
    Inv X pins σ (upd H s.heap.objs.size (.lst ys)) { s with heap:=s.heap.push { cls:=.type "list",data:=.seq its.toArray },toks:=t' } :=
  I.laid (fun _ _ q=>C7 _ q) (Dm _) ⟨hz,its,0,hv,Df _ rfl⟩
theorem Inv.fresh (I:Inv X pins σ H s):H s.heap.objs.size=none:=I.hok.fresh (Dm _)
theorem Inv.lstM (I:Inv X pins σ H s) (hH:H l=some (.lst xs)):xs.length<=sizeLine/\∃ (its:List Value) (n:Nat),Vals xs its/\xs.length=its.length/\s.heap.get? l=some { cls:=.type "list",data:=.seq its.toArray n }:=by
  obtain ⟨z,its,n,r,e⟩:=I.hok l _ hH
  exact ⟨z,its,n,r,r.length,e⟩
theorem xw {n:Nat} (h:n<=sizeLine):Builtin.List.listTooLong n=false:=by
  unfold Builtin.List.listTooLong
  exact Ds (by omega)
end
section
variable {X:Cx}
noncomputable def tU:V->List V->Hp->VK->Prop:=fun x vs H Q=>∃ l xs y,x=.ref l/\vs=[y]/\H l=some (.lst xs)/\xs.length < sizeLine/\Q .non (upd H l (.lst (xs ++ [y])))
theorem vf:MtM X "list.append" tU:=by
  intro pins s σ H x vs v us Q I rx rv h
  obtain ⟨l,xs,y,rfl,rfl,hH,hz,q⟩:=h
  cases rx
  obtain ⟨u,rfl,ru⟩:=rv.one
  obtain ⟨z,its,n,r,hl,e⟩:=I.lstM hH
  refine call_meets F.slot_list_append ⟨_,e,rfl⟩ F.entry_list_append (F.args_list_append_2 _ _) (PySem.list_append l its.toArray n u (by rw [Dp];omega)) ⟨e,?_⟩
  refine ⟨.non,_,I.lset (its':=its ++ [u]) hH e (by simp) (r.append (.cons ru .nil)) ?_,rfl,q⟩
  rw [Dw,List.length_singleton]
  omega
noncomputable def tO:V->List V->Hp->VK->Prop:=fun x vs H Q=>∃ l b xs zs,x=.ref l/\vs=[.ref b]/\H l=some (.lst xs)/\H b=some (.lst zs)/\xs.length+zs.length<=sizeLine/\Q .non (upd H l (.lst (xs ++ zs)))
theorem nW:MtM X "list.extend" tO:=by
  intro pins s σ H x vs v us Q I rx rv h
  obtain ⟨l,b,xs,zs,rfl,rfl,hH,hB,hz,q⟩:=h
  cases rx
  obtain ⟨u,rfl,ru⟩:=rv.one
  cases ru
  obtain ⟨z,its,n,r,hl,e⟩:=I.lstM hH
  obtain ⟨z2,its2,n2,r2,hl2,e2⟩:=I.lstM hB
  have hsz:its.toArray.size+its2.toArray.size<=sizeLine:=by rw [Dp,Dp];omega
  have hlong:¬ (!its.toArray.isEmpty && Builtin.List.listTooLong (its.toArray.size+its2.toArray.size))=true:=by
    rw [xw hsz,Bool.and_false]
    exact Dn
  refine call_meets F.slot_list_extend ⟨_,e,rfl⟩ F.entry_list_extend (F.args_list_extend_2 _ _)
    (AutoSeq1.list_extend_list_list_0 l its.toArray n b its2.toArray n2 hlong (by rw [Dp];omega) (by omega)) ⟨e,e2,?_⟩
  refine ⟨.non,_,I.lset (its':=its ++ its2) hH e (by simp) (r.append r2) ?_,rfl,q⟩
  rw [Dw]
  omega
noncomputable def zu:R2:=fun x y H Q=>∃ l b xs zs,x=.ref l/\y=.ref b/\H l=some (.lst xs)/\H b=some (.lst zs)/\xs.length+zs.length<=sizeLine/\∀ p,H p=none->Q (.ref p) (upd H p (.lst (xs ++ zs)))
theorem Cf:OpR X (binaryOp .Add) zu:=by
  intro pins s σ H x y v u Q I rx ry h
  obtain ⟨l,b,xs,zs,rfl,rfl,hH,hB,hz,q⟩:=h
  cases rx
  cases ry
  obtain ⟨z,its,n,r,hl,e⟩:=I.lstM hH
  obtain ⟨z2,its2,n2,r2,hl2,e2⟩:=I.lstM hB
  refine PySem.P.add_list e e2 ?_ (by rw [Dp,Dp];omega)
  have ea:its.toArray ++ its2.toArray=(its ++ its2).toArray:=by simp
  rw [ea]
  exact ⟨.ref _,_,I.lnew (t':=s.toks) (r.append r2) (by rw [Dw];omega),rfl,q _ I.fresh⟩
end
end L2
namespace Att
open PySem PySem.W PySem.Calls PyProof.Rows
theorem lq {P:Params} {h:Heap}:∀ (ns:List Int) (vs:List Value),WellAll P h vs (ns.map WData.int)->IntsAre vs ns:=by
  intro ns
  induction ns with
  | nil =>
    intro vs w
    rw [List.map_nil] at w
    cases w
    exact .nil
  | cons n ns ih =>
    intro vs w
    rw [Dq] at w
    cases w with
    | cons a b =>
      cases a
      exact .cons _ _ (ih _ b)
theorem uP {l:OpenLaw} {n:Nat} (hn:l.most=some n) {P:Params} {h:Heap} {args:List WData} {vals:List Value}
    (hpre:l.row.toRowW.claim.pre args=true) (hwl:WellAll P h vals args) :
    ∃ a vs ns,vals=[Value.ref a]/\args=[WData.list (ns.map WData.int)]/\h.get? a=some { cls:=.type "list",data:=.seq vs.toArray }/\IntsAre vs ns/\ns.length<=n:=by
  have hsh:WShape.hasAll [] args [.list .int]=true:=(pre_splitW hpre).1
  have hc:l.pre.holds [] { args:=args }=true:=(pre_splitW hpre).2
  obtain ⟨d,r,rfl,h1,h2⟩:=hasAllW_cons hsh
  obtain rfl:=hasAllW_nil h2
  obtain ⟨xs,rfl,h3⟩:=hasW_list h1
  obtain ⟨ns,rfl⟩:=items_int h3
  have hlen:ns.length<=n:=by
    unfold OpenLaw.pre at hc
    have h4:(WTm.not (.lt (.lit (.int (n:Int))) (.len (.arg 0)))).holds [] { args:=[.list (ns.map .int)] }=true:=by
      have h4:=(holds_andW hc).1
      rw [hn] at h4
      exact h4
    have h5:=condW_of h4 (w_not (w_lt w_lit (w_len_list (w_arg rfl))))
    rw [Dg] at h5
    refine Nat.le_of_not_lt fun q=>?_
    have q':(n:Int) < ((ns.length:Nat):Int):=by omega
    first
      | (rw [Dr q'] at h5;exact absurd h5 (by decide))
      | (simp at h5;omega)
  cases hwl with
  | cons w1 w2 =>
    cases w2
    cases w1 with
    | list ho hall=>exact ⟨_,_,ns,rfl,rfl,ho,lq ns _ hall,hlen⟩
theorem uZ (l:OpenLaw) (args:List WData):l.row.toRowW.claim.post args (.bool true) args=true :=
  postW_of (r:=l.row.toRowW) (X:=(true == true))
    (show WShape.has [] (.bool true) .bool=true by first | rfl | decide | simp [WShape.has,WShape.arms,WShape.armsAll])
    (show (WTm.eq .res (.lit (.bool true))).value [] { args:=args,res:=some (.bool true),after:=args }=some (.bool (true == true)) from w_eq_bool (w_res rfl) w_lit) rfl
theorem attach_call {l:OpenLaw} {n:Nat} {q:Program} {loose:List Str} {XP:(Str->Option Value)->Heap->Prop} {YP:World->Heap->Prop} {d:DefRec}
    (hn:l.most=some n) (hdf:d.params.defaults=[])
    (call:∀ (w:World) (s₀ s₁:Shared) (mg mb:Str->Option Value) (fa:Addr) (o:Obj) (pm cd doc:Value) (a:Addr) (vs:List Value) (ns:List Int),
      Ground q loose [] XP w s₀ mg mb s₁.heap->YP w s₁.heap ->
      s₁.heap.get? fa=some o->o.data=.func (docDef d.name d.params d.body d.scope pm cd doc)->s₁.heap.CodeRec cd d.name->mg d.name=some (.ref fa) ->
      s₁.heap.get? a=some { cls:=.type "list",data:=.seq vs.toArray }->IntsAre vs ns->ns.length<=n->s₁.gens = #[] ->
      codeAny (model l.prog w) callerA (.call (.ref fa) ⟨[.ref a],[]⟩) (fun r s'=>r=.ok (.ret (.bool true))/\OldK s₁.heap s'.heap/\s'.os=s₁.os/\AllBare s'.gens) s₁) :
    WalkO q loose XP YP l.row.toRowW d [] (fun f vs=>PySem.call f vs):=by
  intro w s₀ s₁ mg mb G Y fa o pm cd doc dV kV ho hd hcd hD hmg hg args vals as hpre hlay hrd hwl hlo
  obtain rfl:dV=.none:=Dflts.none hD hdf
  obtain rfl:kV=.none:=Dflts.noKw hD
  obtain ⟨a,vs,ns,rfl,rfl,hobj,hints,hlen⟩:=uP hn hpre hwl
  refine enter_call (codeAny_mono (call w s₀ s₁ mg mb fa o pm cd doc a vs ns G Y ho (fd_plain hd) hcd hmg hobj hints hlen hg) fun r s' hq=>?_)
  obtain ⟨rfl,h2,h3,h4⟩:=hq
  exact ⟨.inl ⟨.bool true,.bool true,[],rfl,fun _=>rfl,.bool true,uZ l _,fun _=>⟨List.Pairwise.nil,fun _ hm=>(nomatch hm)⟩⟩,h2,h3,h4⟩
end Att
namespace L2
open PySem PySem.Spec PyProof.Rows
theorem nD:∀ {vs:List Value} {ns:List Int},IntsAre vs ns->Vals (ns.map V.int) vs
  | _,_,.nil=>.nil
  | _,_,.cons n t h=>.cons ⟨t,rfl⟩ (nD h)
noncomputable def AI (H:Hp):Prop:=∀ b,H b=none\/∃ o xs,H b=some (.frz o (.lst xs))
set_option tactic.hygienic true in
theorem xS {P:Program} {w:World} {K:FG} {mg mb:Str->Option Value} {CX:CXT} {k:Nat} {fa a:Addr} {fd:FuncData} {x:Str} {sp:Sp} {s₁:Shared} {vs:List Value} {ns:List Int}
    (KX:K.In s₁.heap) (hns:s₁.heap.Ns mainGlobals mg) (hb:s₁.heap.Ns builtinsNs mb) (hbb:∀ x:Str,x ≠ "__name__"->mb x=bootBuiltins x) (hlim:s₁.heap.NoLimit) (hg:s₁.gens = #[])
    (ha:s₁.heap.get? a=some { cls:=.type "list",data:=.seq vs.toArray }) (hi:IntsAre vs ns) (hl:ns.length<=sizeLine) (hr:Room k callerA)
    (F:∀ base:Heap,K.In base->base.Ns mainGlobals mg->FnOk P w K mg base CX k fa fd [x] sp) (hbind:∀ (s:Shared) (u:Value),BindsTo s fd ⟨[u],[]⟩ [(x,u)])
    (hsp:∀ H:Hp,AI H->SqL K H a (ns.map V.int)->sp [.ref a] H (fun v _=>v=.bl true) fun _ _ _=>False)
    (hCX:∀ H e s',CX [] H s₁ (fun _ _ _=>False) e s'->False) :
    codeAny (model P w) callerA (.call (.ref fa) ⟨[.ref a],[]⟩) (fun r s'=>r=.ok (.ret (.bool true))/\OldK s₁.heap s'.heap/\s'.os=s₁.os/\AllBare s'.gens) s₁:=by
  have rv:=nD hi
  have lenV:=hi.length
  have core:∀ H:Hp,AI H->SqL K H a (ns.map V.int)->HOk P w H s₁.heap->(∀ b,H b ≠ none->b=a)->(H a ≠ none->K.lookup a=none) ->
      codeAny (model P w) callerA (.call (.ref fa) ⟨[.ref a],[]⟩) (fun r s'=>r=.ok (.ret (.bool true))/\OldK s₁.heap s'.heap/\s'.os=s₁.os/\AllBare s'.gens) s₁:=by
    intro H hO hS hok hA hK
    have base_of:∀ {b:Addr} {o:Obj},s₁.heap.get? b=some o->H b=none->(po s₁.heap H).get? b=some o:=fun e n=>x5 e n
    have noA:∀ {b:Addr} {o:Obj} {es:Array DictEntry} {ep:Nat},s₁.heap.get? b=some o->o.data=.dict es ep->H b=none:=fun {b o es ep} e d=>by
      cases q:H b with
      | none=>rfl
      | some u =>
        have e':b=a:=hA b (by rw [q];simp)
        subst e'
        rw [ha] at e;cases e
        have d':Data.seq vs.toArray _=Data.dict es ep:=d
        cases d'
    have nsK:∀ {b:Addr} {m:Str->Option Value},s₁.heap.Ns b m->(po s₁.heap H).Ns b m:=fun {b m} ⟨o,es,ep,e,d,r⟩=>⟨o,es,ep,base_of e (noA e d),d,r⟩
    have hKb:K.In (po s₁.heap H):=fun b o e=>base_of (KX b o e) (by
      cases q:H b with
      | none=>rfl
      | some u =>
        have e':b=a:=hA b (by rw [q];simp)
        subst e'
        rw [hK (by rw [q];simp)] at e;cases e)
    have hM:Mod K mg (po s₁.heap H):=⟨hKb,nsK hns,⟨mb,nsK hb,hbb⟩,let ⟨mc,h1,h2⟩:=hlim;⟨mc,nsK h1,h2⟩⟩
    have e0:Env0 P w K mg (po s₁.heap H) callerA [] s₁ H:=⟨rfl,hM,fun b o e=>zT e,Nat.le_of_eq (vC _ _),trivial,fun b hb=>absurd (show b ∈ ([]:List Addr) from hb) (by simp),hok,.of_eq hg⟩
    refine codeAny_mono ((F _ hKb (nsK hns)).run callerA [] s₁ H ⟨[.ref a],[]⟩ [.ref a] [.ref a] _ _ hr e0 (hbind s₁ (.ref a)) (.cons rfl .nil) (hsp H hO hS)) fun r s' h=>?_
    cases r with
    | error e=>exact (hCX H e s' h).elim
    | ok fl =>
      cases fl with
      | next=>exact False.elim h
      | brk=>exact False.elim h
      | cont=>exact False.elim h
      | ret u =>
        obtain ⟨v,H',os,bare,un,hok',r',q⟩:=h
        have q':v=.bl true:=q
        subst q'
        obtain rfl:u=Value.bool true:=r'
        refine ⟨rfl,OldK.of_keep fun b o e=>?_,os,bare⟩
        cases q:H b with
        | none=>exact un.keep b o e q (by intro z;exact absurd (show b ∈ ([]:List Addr) from z) (by simp)) (by simp)
        | some u =>
          rcases hO b with z | ⟨ob,xs,z⟩
          · rw [q] at z;cases z
          · have z2:=un.frzs b ob _ z
            obtain ⟨e1,_⟩:=hok b _ z
            obtain ⟨e2,_⟩:=hok' b _ z2
            rw [e] at e1;cases e1
            exact e2
  cases hk:K.lookup a with
  | some o =>
    have e:=KX a o hk
    rw [ha] at e
    cases e
    refine core (fun _=>none) (fun _=>.inl rfl) (.inr ⟨_,vs.toArray,_,hk,rfl,rfl,rfl,by rw [Dp,lenV];exact hl,by simpa using rv⟩) (fun b u z=>by have z':(none:Option HO)=some u:=z;cases z') (fun b z=>absurd rfl z) fun z=>absurd rfl z
  | none =>
    refine core (fun b=>if b=a then some (.frz { cls:=.type "list",data:=.seq vs.toArray } (.lst (ns.map V.int))) else none) (fun b=>?_) (.inl (.inr ⟨{ cls:=.type "list",data:=.seq vs.toArray },if_pos rfl⟩)) (fun b u z=>?_) (fun b z=>?_) fun _=>hk
    · by_cases hb:b=a
      · exact .inr ⟨_,_,if_pos hb⟩
      · exact .inl (if_neg hb)
    · by_cases hb:b=a
      · have z':=(if_pos hb).symm.trans z
        cases z'
        subst hb
        exact ⟨ha,by rw [Dg];exact hl,vs,_,rv,ha⟩
      · have z':=(if_neg hb).symm.trans z
        cases z'
    · by_cases hb:b=a
      · exact hb
      · exact absurd (if_neg hb) z
end L2
namespace L2
open PySem PySem.Spec PyProof.Rows
end L2
namespace L2
open PySem PySem.Spec PyProof.Rows
noncomputable abbrev CX0:CXT:=fun _ _ _ _ _ _=>False
noncomputable abbrev E0:XK:=fun _ _ _=>False
theorem pass0 {X:Cx}:tj CX0 X E0:=fun _ _ _ _ _ _ _ h=>h.elim
structure Fun (K:FG) (x qual:Str) (st:Stmt) (f:Addr) (fd:FuncData):Prop where
  ex:∃ (oc:Value) (od:Option Addr) (kV doc pm:Value) (an:Option Addr) (cdv ct:Value) (osl:Array (Option Value)),
    fd=PySem.W.fnOf x qual (bT st) (bq st) (aj st) .none kV doc pm an cdv ct/\K.lookup f=some ⟨oc,od,.func fd,osl⟩/\PySem.W.codeIn K cdv qual=true
  kp:PySem.W.keepIn K (.ref f)=true
section
variable {P:Program} {w:World} {K:FG} {mg:Str->Option Value} {base:Heap}
theorem Fun.ok {x qual:Str} {st:Stmt} {f:Addr} {fd:FuncData} {N ps:List Str} {k:Nat} {sp:Sp} (F:Fun K x qual st f fd) (S:FnScope N ps (aj st)) (len:∀ vs H Q E,sp vs H Q E->vs.length=ps.length)
    (hbody:∀ (cdv:Value) (A:Around) (outer:List Env) (s:Shared) (H:Hp) (vs:List V) (Q:VK) (E:XK),Room k (A.deeper (envOfC qual (aj st) s.heap.objs.size f cdv))->sp vs H Q E ->
      ∃ t,PSs (qS CX0 P w K mg base N qual (aj st) f cdv A outer s H E).nox (bq st) t/\t { nx:=fun _ H'=>Q .non H',rt:=Q } (kR N vs) H):FnOk P w K mg base CX0 (k+1) f fd ps sp:=by
  obtain ⟨oc,od,kV,doc,pm,an,cdv,ct,osl,rfl,lk,hcd⟩:=F.ex
  refine fn_of lk hcd S len fun A outer s H vs Q E hr hsp=>?_
  obtain ⟨t,h,q⟩:=hbody cdv A outer s H vs Q E hr hsp
  exact ⟨t,h.nox,q⟩
theorem Fun.binds {x qual:Str} {st:Stmt} {f:Addr} {fd:FuncData} {ps:List Str} (F:Fun K x qual st f fd)
    (h:∀ (kV doc pm:Value) (an:Option Addr) (cdv ct:Value) (us:List Value),us.length=ps.length->bindArgs (PySem.W.fnOf x qual (bT st) (bq st) (aj st) .none kV doc pm an cdv ct) ⟨us,[]⟩=pure (ps.zip us)):Binds K fd ps []:=by
  obtain ⟨oc,od,kV,doc,pm,an,cdv,ct,osl,rfl,lk,hcd⟩:=F.ex
  exact .all (h kV doc pm an cdv ct)
theorem CI {x qual:Str} {st:Stmt} {f:Addr} {oc:Value} {od an:Option Addr} {osl:Array (Option Value)} {kV doc pm cdv ct:Value} (l:K.lookup f=some ⟨oc,od,.func (PySem.W.fnOf x qual (bT st) (bq st) (aj st) .none kV doc pm an cdv ct),osl⟩)
    (c:PySem.W.codeIn K cdv qual=true) (k:PySem.W.keepIn K (.ref f)=true):Fun K x qual st f (PySem.W.fnOf x qual (bT st) (bq st) (aj st) .none kV doc pm an cdv ct):=⟨⟨oc,od,kV,doc,pm,an,cdv,ct,osl,rfl,l,c⟩,k⟩
end
theorem hu_of {A:Around} {k:Nat} (hr:Room k A):A.units+1 < cLine:=Nat.lt_of_le_of_lt (Nat.add_le_add_left (by decide:1<=64) _) hr.units
noncomputable def Same (H H':Hp):Prop:=∀ b o,H b=some o->H' b=some o
theorem Same.refl (H:Hp):Same H H:=fun _ _ h=>h
theorem Same.trans {H H1 H2:Hp} (a:Same H H1) (b:Same H1 H2):Same H H2:=fun c o h=>b c o (a c o h)
theorem Same.free {H H':Hp} (e:Same H H') {l:Addr} (h:H' l=Option.none):H l=Option.none:=by
  cases q:H l with
  | none=>rfl
  | some o =>
    rw [e l o q] at h
    cases h
end L2
end
section
namespace L2
open PySem PySem.Spec PyProof.Rows
section
variable {prog:Program} {w:World} {A:Around} {E:Value->Shared->Prop} {s:Shared}
theorem pZ {d:Addr} {k v:Value} {Q:Unit->Shared->Prop} (ty:s.TypeIs (.ref d) "dict") (h:wpAny (model prog w) A.in1 (dictSet d k v) Q E s) :
    wpAny (model prog w) A (setItem (.ref d) k v) Q E s:=by
  unfold setItem
  refine C4 (C2 (wpAny_sequenceKey ty (by decide) (C2 (wpAny_callSpecial?_slot ty slot_dict_setitem (wpAny_call_entry slot_dict_setitem ty entry_dict_setitem ?_ (args_dict_setitem _ _ _))))))
  refine C2 (wpAny_notOrdered_dict ty ?_)
  refine (?_:wpAny _ _ (dictSet d k v >>= _) _ _ s)
  exact C2 (wpAny_mono h (fun _ _ z=>C3 ⟨_,rfl,C3 z⟩) fun _ _ z=>z)
theorem nI {d:Addr} {key v:Value} {hs:Int} {o:Obj} {es:Array DictEntry} {ep:Nat} {F:Option Nat->Prop} {Q:Unit->Shared->Prop} (ho:s.heap.get? d=some o) (hc:o.ExactDict) (hd:o.data=.dict es ep) (hz:es.size<=sizeLine)
    (find:wpAny (model prog w) A (dictFind d key hs) (fun r s'=>s'=s/\F r) E s)
    (old:∀ i h' o',F (some i)->h'.get? d=some o'->o'.ExactDict->o'.data=.dict (es.modify i fun e=>{ e with val:=v }) ep->Heap.SameBut d s.heap h'->Q () { s with heap:=h' })
    (new:∀ h' o',F none->h'.get? d=some o'->o'.ExactDict->o'.data=.dict (es.push ⟨hs,key,v⟩) (ep+1)->Heap.SameBut d s.heap h'->Q () { s with heap:=h' }) :
    wpAny (model prog w) A (dictSetHashed d key hs v) Q E s:=by
  unfold dictSetHashed
  refine C4 (C2 (wpAny_mono find ?_ fun _ _ z=>z))
  rintro (_ | i) _ ⟨rfl,f⟩
  · exact C2 (wpAny_rule (wpAny_updateDictKeys (hz:=hz) ho hd (new _ _ f (Dv _ ho (Obj.isFreed_of_dict (Obj.data_mapDictKeys hd _))) (hc.mapDictKeys _) (Obj.data_mapDictKeys hd _) (Heap.SameBut.update ..))))
  · exact C2 (wpAny_rule (C2 (wpAny_updateDict ho hd (wpAny_point (old i _ _ f (Dv _ ho (Obj.isFreed_of_dict (Obj.data_mapDict hd _))) (hc.mapDict _) (Obj.data_mapDict hd _) (Heap.SameBut.update ..))))))
end
section
variable {prog:Program} {w:World} {K:Type} [DecidableEq K] {A:Around} {E:Value->Shared->Prop} {s:Shared} {d:Addr} {k:K}
section
variable {knd:HeapKind prog w K}
noncomputable def DictOfHE (knd:HeapKind prog w K) (h:Heap) (d:Addr) (xs:List (K × Addr × Value)):Prop :=
  ∃ o es ep,h.get? d=some o/\o.ExactDict/\o.data=.dict es ep/\es.toList=xs.map (entryOfKey knd)/\(∀ x ∈ xs,knd.is h x.1 x.2.1)/\(xs.map (·.1)).Nodup/\ep=es.size
theorem DictOfHE.of {h:Heap} {d:Addr} {xs:List (K × Addr × Value)} (x:DictOfHE knd h d xs):h.DictOfH knd d xs:=let ⟨o,es,ep,h1,h2,h3,h4,h5,h6,_⟩:=x;⟨o,es,ep,h1,h2,h3,h4,h5,h6⟩
theorem vd {xs:List (K × Addr × Value)} {y:Addr × Value} (hn:(xs.map (·.1)).Nodup) (h:k ∉ xs.map (·.1)):((xs ++ [(k,y)]).map (·.1)).Nodup:=by
  rw [List.map_append]
  exact List.nodup_append.mpr ⟨hn,List.nodup_cons.mpr ⟨List.not_mem_nil,List.nodup_nil⟩,fun x hx y hy e=>h (by have:=DB.mp hy;subst this;exact e ▸ hx)⟩
theorem jC {a:Addr} {xs:List (K × Addr × Value)} {v:Value} {Q:Unit->Shared->Prop} (hu:knd.room A) (hkey:knd.is s.heap k a) (hm:DictOfHE knd s.heap d xs)
    (hQ:∀ h',DictOfHE knd h' d (storedH xs k a v)->Heap.SameBut d s.heap h'->Q () { s with heap:=h',toks:=s.toks+knd.draws k })
    (hsz:xs.length<=sizeLine:=by size_fits):wpAny (model prog w) A (dictSet d (.ref a) v) Q E s:=by
  obtain ⟨o,es,ep,ho,hc,hd,he,his,hn,rfl⟩:=hm
  unfold dictSet
  refine C4 (C2 (knd.pyHash hu hkey ?_))
  refine nI (s:={ s with toks:=s.toks+knd.draws k }) (F:=fun | none=>∀ (j:Nat) (p:Addr × Value),xs[j]? ≠ some (k,p) | some j=>∃ p,xs[j]?=some (k,p)) ho hc hd (size_of_entries he ▸ hsz)
    (wpAny_dictFind_heap (s:={ s with toks:=s.toks+knd.draws k }) hu hkey ho hd he his hn (fun z=>⟨rfl,z⟩) fun j p z=>⟨rfl,p,z⟩) ?_ ?_
  · rintro i h' o' ⟨p,f⟩ g1 g2 g3 g4
    have at':=storedH_old (atKey_of_get hn f) a v
    refine hQ h' ⟨o',_,_,g1,g2,g3,?_,?_,?_,?_⟩ g4 <;> try rw [at']
    · rw [Array.toList_modify,he]
      exact modify_map_putAt (entryOfKey knd) _ k v (fun _ _=>rfl) hn f
    · intro x hx
      obtain ⟨y,hy,rfl⟩:=Dk.mp hx
      have:=knd.keeps (his y hy) ho hd g4
      by_cases e:y.1=k <;> simpa [putAt,e] using this
    · exact (keys_map_putAt xs k v).symm ▸ hn
    · exact (Array.size_modify).symm
  · intro h' o' f g1 g2 g3 g4
    have at':=storedH_new (atKey_none_of_get f) a v
    refine hQ h' ⟨o',_,_,g1,g2,g3,?_,?_,?_,?_⟩ g4 <;> try rw [at']
    · simp [he,entryOfKey]
    · intro x hx
      rcases De.mp hx with hx | hx
      · exact knd.keeps (his x hx) ho hd g4
      · cases DB.mp hx;exact knd.keeps hkey ho hd g4
    · exact vd hn (not_mem_keys_of_get f)
    · simp
theorem m5 {a:Addr} {xs:List (K × Addr × Value)} {v:Value} {Q:Unit->Shared->Prop} (hu:knd.room A.in1) (hkey:knd.is s.heap k a) (hm:DictOfHE knd s.heap d xs)
    (hQ:∀ h',DictOfHE knd h' d (storedH xs k a v)->Heap.SameBut d s.heap h'->Q () { s with heap:=h',toks:=s.toks+knd.draws k })
    (hsz:xs.length<=sizeLine:=by size_fits):wpAny (model prog w) A (setItem (.ref d) (.ref a) v) Q E s :=
  pZ hm.of.typeIs (jC (hsz:=hsz) hu hkey hm hQ)
end
section
variable {knd:KeyKind prog w K} {key:Value}
theorem mR {kvs:List (K × Value)} {v:Value} {Q:Unit->Shared->Prop} (hkey:knd.is k key=true) (hm:DictOfE knd s.heap d kvs)
    (hQ:∀ h',DictOfE knd h' d (stored kvs k v)->Heap.SameBut d s.heap h'->Q () { s with heap:=h',toks:=s.toks+1 })
    (hsz:kvs.length<=sizeLine:=by size_fits):wpAny (model prog w) A (dictSet d key v) Q E s:=by
  obtain ⟨o,⟨es⟩,ep,ho,hc,hd,hk,hp,hn,rfl⟩:=hm
  have same:=hp.findIdx k
  have hz:(⟨es⟩:Array DictEntry).size<=sizeLine:=by have:=hp.length;simp at this ⊢;omega
  unfold dictSet
  refine C4 (C2 (knd.pyHash hkey ?_))
  refine nI (s:={ s with toks:=s.toks+1 }) (F:=fun r=>es.findIdx? (fun e=>knd.is k e.key)=r) ho hc hd hz
    (wpAny_dictFind_of (s:={ s with toks:=s.toks+1 }) hkey ho hd hk ⟨rfl,by simp⟩) ?_ ?_
  · intro i h' o' f g1 g2 g3 g4
    have at':stored kvs k v=_:=if_pos (any_of_findIdx_some (same.symm.trans f))
    refine hQ h' ⟨o',_,_,g1,g2,g3,hk.modify _ _,?_,?_,(Array.size_modify).symm⟩ g4 <;> rw [at']
    · simpa using hp.modify hn f v
    · exact (keys_map_store kvs k v).symm ▸ hn
  · intro h' o' f g1 g2 g3 g4
    have no:=not_mem_of_findIdx_none (same.symm.trans f)
    have at':stored kvs k v=_:=if_neg fun z=>by
      obtain ⟨x,hx,e⟩:=List.any_eq_true.mp z
      exact no (Dk.mpr ⟨x,hx,of_decide_eq_true e⟩)
    refine hQ h' ⟨o',_,_,g1,g2,g3,hk.push hkey _,?_,?_,by simp⟩ g4 <;> rw [at']
    · simpa using hp.append hkey (knd.hash k) v
    · rw [List.map_append]
      exact List.nodup_append.mpr ⟨hn,List.nodup_cons.mpr ⟨List.not_mem_nil,List.nodup_nil⟩,fun x hx y hy e=>no (by cases DB.mp hy;have e':x=k:=e;exact e' ▸ hx)⟩
theorem lS {kvs:List (K × Value)} {v:Value} {Q:Unit->Shared->Prop} (hkey:knd.is k key=true) (hm:DictOfE knd s.heap d kvs)
    (hQ:∀ h',DictOfE knd h' d (stored kvs k v)->Heap.SameBut d s.heap h'->Q () { s with heap:=h',toks:=s.toks+1 })
    (hsz:kvs.length<=sizeLine:=by size_fits):wpAny (model prog w) A (setItem (.ref d) key v) Q E s :=
  pZ hm.of.typeIs (mR (hsz:=hsz) hkey hm hQ)
end
end
section
variable {κ:Type} [DecidableEq κ]
noncomputable def lc (kvs:List (κ × V)) (k:κ):Option V:=(kvs.find? fun kv=>decide (kv.1=k)).map (·.2)
noncomputable def gT (kvs:List (κ × V)) (k:κ) (v:V):List (κ × V) :=
  if (kvs.any fun kv=>decide (kv.1=k))=true then kvs.map (fun kv=>if kv.1=k then (kv.1,v) else kv) else kvs ++ [(k,v)]
theorem jL {p:κ × V} {r:List (κ × V)} {k:κ} (e:p.1=k):lc (p :: r) k=some p.2:=by simp [lc,List.find?_cons,e]
theorem jM {p:κ × V} {r:List (κ × V)} {k:κ} (e:¬ p.1=k):lc (p :: r) k=lc r k:=by simp [lc,List.find?_cons,e]
theorem pQ (k:κ):∀ kvs:List (κ × V),(kvs.any fun kv=>decide (kv.1=k))=(lc kvs k).isSome
  | []=>rfl
  | p :: r=>by
    rw [List.any_cons]
    by_cases e:p.1=k
    · simp only [jL e,Dr e,Bool.true_or,Option.isSome_some]
    · rw [jM e,Ds e,Bool.false_or];exact pQ k r
theorem k6 (kvs:List (κ × V)) (k:κ) (v:V):(gT kvs k v).length<=kvs.length+1:=by
  unfold gT
  split
  · rw [Dg];omega
  · rw [Dw,Dx,List.length_nil];omega
theorem RelO.isSome_eq {o:Option V} {u:Option Value} (r:RelO o u):o.isSome=u.isSome:=by
  cases o with
  | none=>cases u with
    | none=>rfl
    | some _=>exact (show False from r).elim
  | some _=>cases u with
    | none=>exact (show False from r).elim
    | some _=>rfl
theorem RelO.getD {o:Option V} {u:Option Value} {d:V} {d':Value} (r:RelO o u) (rd:RelV d d'):RelV (o.getD d) (u.getD d'):=by
  cases o with
  | none=>cases u with
    | none=>exact rd
    | some _=>exact (show False from r).elim
  | some _=>cases u with
    | none=>exact (show False from r).elim
    | some _=>exact r
theorem KV.val {kvs:List (κ × V)} {vs:List (κ × Value)} (r:KV kvs vs) (k:κ):RelO (lc kvs k) (valueAt vs k):=by
  unfold KV at r
  induction r with
  | nil=>exact True.intro
  | @cons p q ps qs h t ih =>
    obtain ⟨h1,h2⟩:=h
    by_cases e:p.1=k
    · have e':q.1=k:=h1.symm.trans e
      have b:valueAt (q :: qs) k=some q.2:=by simp [valueAt,List.find?_cons,e']
      rw [jL e,b];exact h2
    · have e':¬ q.1=k:=fun z=>e (h1.trans z)
      have b:valueAt (q :: qs) k=valueAt qs k:=by simp [valueAt,List.find?_cons,e']
      rw [jM e,b];exact ih
theorem KV.any {kvs:List (κ × V)} {vs:List (κ × Value)} (r:KV kvs vs) (k:κ):(kvs.any fun kv=>decide (kv.1=k))=vs.any fun kv=>decide (kv.1=k):=by
  unfold KV at r
  induction r with
  | nil=>rfl
  | cons h t ih=>rw [List.any_cons,List.any_cons,ih,h.1]
theorem KV.repl {kvs:List (κ × V)} {vs:List (κ × Value)} (r:KV kvs vs) (k:κ) {y:V} {u:Value} (ry:RelV y u) :
    KV (kvs.map fun kv=>if kv.1=k then (kv.1,y) else kv) (vs.map fun kv=>if kv.1=k then (kv.1,u) else kv):=by
  unfold KV at r ⊢
  induction r with
  | nil=>exact .nil
  | @cons p q ps qs h t ih =>
    rw [Dq,Dq]
    refine .cons ?_ ih
    obtain ⟨h1,h2⟩:=h
    by_cases e:p.1=k
    · rw [if_pos e,if_pos (h1.symm.trans e)];exact ⟨h1,ry⟩
    · rw [if_neg e,if_neg (fun z=>e (h1.trans z))];exact ⟨h1,h2⟩
theorem KV.put {kvs:List (κ × V)} {vs:List (κ × Value)} (r:KV kvs vs) (k:κ) {y:V} {u:Value} (ry:RelV y u):KV (gT kvs k y) (stored vs k u):=by
  unfold gT stored
  rw [r.any k]
  by_cases e:(vs.any fun kv=>decide (kv.1=k))=true
  · rw [if_pos e,if_pos e];exact r.repl k ry
  · rw [if_neg e,if_neg e];exact Paired.snoc r ⟨rfl,ry⟩
theorem KV.length {kvs:List (κ × V)} {vs:List (κ × Value)} (r:KV kvs vs):kvs.length=vs.length:=Paired.length r
end
theorem xX {P:Program} {w:World} {k:Key} {u:Value} (r:RelV (kV k) u):(bH P w).is k u=true:=by
  cases k with
  | inl i=>obtain ⟨t,e⟩:=(show ∃ t,u=Value.int i t from r);subst e;exact qA P w i t
  | inr x=>obtain ⟨t,e⟩:=(show ∃ t,u=Value.str x t from r);subst e;exact qz P w x t
theorem og {P:Program} {w:World}:∀ {ks:List Key} {us:List Value},Vals (ks.map kV) us->ItemsAre (bH P w) ks us
  | [],_,r=>by rw [List.map_nil] at r;cases r;exact .nil
  | k :: ks,_,r=>by
    rw [Dq] at r
    cases r with
    | cons h t=>exact .cons (xX h) (og t)
noncomputable abbrev KT (H:Hp):List (List Key × V)->List (List Key × Addr × Value)->Prop:=Paired fun p q=>p.1=q.1/\H q.2.1=some (.tup (p.1.map kV))/\RelV p.2 q.2.2
theorem KT.val {H:Hp} {kvs:List (List Key × V)} {xs:List (List Key × Addr × Value)} (r:KT H kvs xs) (k:List Key):RelO (lc kvs k) ((atKey xs k).map (·.2)):=by
  induction r with
  | nil=>exact True.intro
  | @cons p q ps qs h t ih =>
    obtain ⟨h1,_,h2⟩:=h
    by_cases e:p.1=k
    · have e':q.1=k:=h1.symm.trans e
      have b:atKey (q :: qs) k=some q.2:=by simp [atKey,List.find?_cons,e']
      rw [jL e,b];exact h2
    · have e':¬ q.1=k:=fun z=>e (h1.trans z)
      have b:atKey (q :: qs) k=atKey qs k:=by simp [atKey,List.find?_cons,e']
      rw [jM e,b];exact ih
theorem KT.repl {H:Hp} {kvs:List (List Key × V)} {xs:List (List Key × Addr × Value)} (r:KT H kvs xs) (k:List Key) {y:V} {u:Value} (ry:RelV y u) :
    KT H (kvs.map fun kv=>if kv.1=k then (kv.1,y) else kv) (xs.map (putAt k u)):=by
  induction r with
  | nil=>exact .nil
  | @cons p q ps qs h t ih =>
    rw [Dq,Dq]
    refine .cons ?_ ih
    obtain ⟨h1,h2,h3⟩:=h
    unfold putAt
    by_cases e:p.1=k
    · rw [if_pos e,if_pos (h1.symm.trans e)];exact ⟨h1,h2,ry⟩
    · rw [if_neg e,if_neg (fun z=>e (h1.trans z))];exact ⟨h1,h2,h3⟩
theorem KT.put {H:Hp} {kvs:List (List Key × V)} {xs:List (List Key × Addr × Value)} (r:KT H kvs xs) (k:List Key) {b:Addr} {y:V} {u:Value} (hb:H b=some (.tup (k.map kV))) (ry:RelV y u) :
    KT H (gT kvs k y) (storedH xs k b u):=by
  have e:(kvs.any fun kv=>decide (kv.1=k))=(atKey xs k).isSome:=by
    rw [pQ,(r.val k).isSome_eq,Option.isSome_map]
  unfold gT storedH
  rw [e]
  by_cases q:(atKey xs k).isSome=true
  · rw [if_pos q,if_pos q];exact r.repl k ry
  · rw [if_neg q,if_neg q];exact Paired.snoc r ⟨rfl,hb,ry⟩
theorem KT.keeps {H H':Hp} {kvs:List (List Key × V)} {xs:List (List Key × Addr × Value)} (r:KT H kvs xs) (ht:∀ b ys,H b=some (.tup ys)->H' b=some (.tup ys)):KT H' kvs xs :=
  Paired.mapP r fun _ _ z=>⟨z.1,ht _ _ z.2.1,z.2.2⟩
section
variable {P:Program} {w:World} {H:Hp} {h:Heap} {a:Addr}
theorem AW {u:HO} (ok:HOk P w H h) (e:Rd H a u):ObjOk P w H h a u:=e.ok ok
theorem ym {kvs:List (Key × V)} (ok:HOk P w H h) (e:Rd H a (.dK kvs)):kvs.length<=sizeLine/\(a == sysModules)=false/\∃ vs,KV kvs vs/\DictOfE (bH P w) h a vs :=
  show ObjOk P w H h a (.dK kvs) from AW ok e
theorem Bb {kvs:List (Key × V)} (ok:HOk P w H h) (e:Rd H a (.dK kvs)):kvs.length<=sizeLine/\(a == sysModules)=false/\∃ vs,KV kvs vs/\h.DictOf (bH P w) a vs:=let ⟨z,y,vs,r,d⟩:=ym ok e;⟨z,y,vs,r,d.of⟩
theorem o9 {ks:List Key} (ok:HOk P w H h) (e:H a=some (.tup (ks.map kV))):(tupleKind (bH P w)).is h ks a:=by
  obtain ⟨_,its,r,o,h1,h2,n,h3⟩:=(show ObjOk P w H h a (.tup (ks.map kV)) from ok a _ e)
  exact ⟨o,its.toArray,n,h1,h2,congrArg Prod.fst h3,by simpa using og r⟩
theorem sN {kvs:List (List Key × V)} (ok:HOk P w H h) (e:Rd H a (.dT kvs)):kvs.length<=sizeLine/\(a == sysModules)=false /\
    ∃ xs,KT H kvs xs/\DictOfHE (tupleKind (bH P w)) h a xs:=by
  obtain ⟨z,y,xs,r,o,es,ep,h1,h2,h3,h4,h5⟩:=(show ObjOk P w H h a (.dT kvs) from AW ok e)
  refine ⟨z,y,xs,r,o,es,ep,h1,h2,h3,h4,fun x hx=>?_,h5⟩
  have all:∀ {l:List (List Key × V)} {m:List (List Key × Addr × Value)},KT H l m->∀ x ∈ m,(tupleKind (bH P w)).is h x.1 x.2.1:=by
    intro l m q
    induction q with
    | nil=>intro x hx;exact nomatch hx
    | @cons p q ps qs hq t ih =>
      intro x hx
      rcases Db.mp hx with e | hx
      · subst e
        exact o9 ok (by rw [<- hq.1];exact hq.2.1)
      · exact ih x hx
  exact all r x hx
theorem Ba {kvs:List (List Key × V)} (ok:HOk P w H h) (e:Rd H a (.dT kvs)):kvs.length<=sizeLine/\(a == sysModules)=false /\
    ∃ xs,KT H kvs xs/\h.DictOfH (tupleKind (bH P w)) a xs:=let ⟨z,y,xs,r,d⟩:=sN ok e;⟨z,y,xs,r,d.of⟩
end
noncomputable def DGet (H:Hp) (a:Addr) (y:V) (r:Option V):Prop :=
  (∃ kvs k,Rd H a (.dK kvs)/\y=kV k/\r=lc kvs k)\/∃ kvs k b,Rd H a (.dT kvs)/\y=.ref b/\H b=some (.tup (k.map kV))/\r=lc kvs k
noncomputable def DPut (H:Hp) (a:Addr) (y v:V) (H':Hp):Prop :=
  (∃ kvs k,H a=some (.dK kvs)/\y=kV k/\kvs.length < sizeLine/\H'=upd H a (.dK (gT kvs k v))) \/
  ∃ kvs k b,H a=some (.dT kvs)/\y=.ref b/\H b=some (.tup (k.map kV))/\kvs.length < sizeLine/\H'=upd H a (.dT (gT kvs k v))
theorem DGet.t {H:Hp} {a b:Addr} {kvs:List (List Key × V)} {k:List Key} (e:H a=some (.dT kvs)) (eb:H b=some (.tup (k.map kV))):DGet H a (.ref b) (lc kvs k):=.inr ⟨kvs,k,b,.inl e,rfl,eb,rfl⟩
theorem DPut.t {H:Hp} {a b:Addr} {kvs:List (List Key × V)} {k:List Key} {v:V} (e:H a=some (.dT kvs)) (eb:H b=some (.tup (k.map kV))) (hl:kvs.length < sizeLine) :
    DPut H a (.ref b) v (upd H a (.dT (gT kvs k v))):=.inr ⟨kvs,k,b,e,rfl,eb,hl,rfl⟩
section
variable {X:Cx} {pins:List (Addr × Obj)} {σ:St} {H:Hp} {s:Shared} {a:Addr} {y v:V} {u r:Value} {o:Option V} {A:Around} {E:Value->Shared->Prop}
theorem Inv.big (I:Inv X pins σ H s):sysModules < s.heap.objs.size:=by
  have h:mainGlobals < s.heap.objs.size:=(I.mod.glob.keeps I.bk).lt
  exact Nat.lt_trans (by decide) h
theorem vK {Q:Value->Shared->Prop} (hu:A.units+1 < cLine) (I:Inv X pins σ H s) (g:DGet H a y (some v)) (ry:RelV y u) (h:∀ w' s',Inv X pins σ H s'->RelV v w'->Q w' s') :
    wpAny (model X.prog X.w) A (getItem (.ref a) u) Q E s:=by
  rcases g with ⟨kvs,k,e,ey,l⟩ | ⟨kvs,k,b,e,ey,eb,l⟩
  · subst ey
    obtain ⟨z,hd,vs,rel,dd⟩:=Bb I.hok e
    obtain ⟨w',hw,rw'⟩:=RelO.some_of (v:=v) (o:=valueAt vs k) (by rw [l];exact rel.val k)
    exact wpAny_getItem_of (xX ry) dd.mapOf hw (h w' _ (I.tok _) rw')
  · subst ey
    cases (show u=Value.ref b from ry)
    obtain ⟨z,hd,xs,rel,dd⟩:=Ba I.hok e
    obtain ⟨w',hw,rw'⟩:=RelO.some_of (v:=v) (o:=(atKey xs k).map (·.2)) (by rw [l];exact rel.val k)
    obtain ⟨p,hp,hp2⟩:=C8.mp hw
    refine wpAny_getItem_heap (tupleKind_room_in1 hu) (o9 I.hok eb) dd hp ?_
    rw [hp2]
    exact h w' _ (I.tok _) rw'
theorem ut {h':Heap} {t':Nat} {ob:HO} (I:Inv X pins σ H s) (mu:Mut (H a)) (hs:Heap.SameBut a s.heap h') (he:∃ q,h'.get? a=some q) (new:ObjOk X.prog X.w (upd H a ob) h' a ob) :
    Inv X pins σ (upd H a ob) { s with heap:=h',toks:=t' } :=
  I.write (x:=a) (e:=a) mu (.inl rfl) (fun b q hb z=>(hs.2 b hb).trans z) he new
theorem CM {P:Program} {w:World} {H':Hp} {h':Heap} {kvs:List (Key × V)} {vs:List (Key × Value)} (z:kvs.length<=sizeLine) (hd:(a == sysModules)=false) (rel:KV kvs vs) (dd:DictOfE (bH P w) h' a vs) :
    ObjOk P w H' h' a (.dK kvs):=⟨z,hd,vs,rel,dd⟩
theorem vJ {H':Hp} {Q:Unit->Shared->Prop} (hu:A.units+1 < cLine) (I:Inv X pins σ H s) (g:DPut H a y v H') (ry:RelV y u) (rv:RelV v r) (h:∀ s',Inv X pins σ H' s'->Q () s') :
    wpAny (model X.prog X.w) A (setItem (.ref a) u r) Q E s:=by
  rcases g with ⟨kvs,k,e,ey,l,eH⟩ | ⟨kvs,k,b,e,ey,eb,l,eH⟩
  · subst ey eH
    obtain ⟨z,hd,vs,rel,dd⟩:=ym I.hok (.inl e)
    have hz:vs.length<=sizeLine:=by rw [<- rel.length];exact z
    have hl:(gT kvs k v).length<=sizeLine:=by have:=k6 kvs k v;omega
    refine lS (hsz:=hz) (xX ry) dd fun h' dd' hs=>h _ ?_
    have he:∃ q,h'.get? a=some q:=let ⟨q,_,_,hq,_⟩:=dd';⟨q,hq⟩
    exact ut I (by rw [e];exact True.intro) hs he (CM hl hd (rel.put k rv) dd')
  · subst ey eH
    cases (show u=Value.ref b from ry)
    obtain ⟨z,hd,xs,rel,dd⟩:=sN I.hok (.inl e)
    have hz:xs.length<=sizeLine:=by rw [<- Paired.length rel];exact z
    have hl:(gT kvs k v).length<=sizeLine:=by have:=k6 kvs k v;omega
    refine m5 (hsz:=hz) (tupleKind_room_in1 hu) (o9 I.hok eb) dd fun h' dd' hs=>h _ ?_
    obtain ⟨q,es,ep,hq,h2,h3,h4,_,h5⟩:=dd'
    refine ut I (by rw [e];exact True.intro) hs ⟨q,hq⟩ ⟨hl,hd,_,(rel.put k eb rv).keeps fun c ys ec=>?_,q,es,ep,hq,h2,h3,h4,h5⟩
    rw [aR (ne_of ec e (fun z=>nomatch z))]
    exact ec
end
theorem qR {X:Cx} {pins:List (Addr × Obj)} {σ:St} {H:Hp} {s:Shared} {a:Addr} {y:V} {o:Option V} (I:Inv X pins σ H s) (g:DGet H a y o):s.TypeIs (.ref a) "dict":=by
  rcases g with ⟨kvs,k,e,_,_⟩ | ⟨kvs,k,b,e,_,_,_⟩
  · obtain ⟨_,_,vs,_,dd⟩:=Bb I.hok e
    exact dd.typeIs
  · obtain ⟨_,_,xs,_,dd⟩:=Ba I.hok e
    exact dd.typeIs
theorem yk {P:Program} {w:World} {H:Hp} (h:Heap) (hb:sysModules < h.objs.size):ObjOk P w H (h.push { cls:=.type "dict",data:=.dict #[] }) h.objs.size (.dT []) :=
  ⟨Nat.zero_le _,beq_eq_false_iff_ne.mpr (Ne.symm (Do hb)),[],.nil,_,#[],0,Df _ rfl,⟨rfl,rfl,rfl⟩,rfl,rfl,List.nodup_nil,rfl⟩
noncomputable def BB:TE:=fun _ H Q=>∀ p,H p=none->Q (.ref p) (upd H p (.dT []))
section
variable {X:Cx} {pos:Pos}
theorem xo:PE X (.Dict [] [] pos) BB:=fun pins s σ H Q I h =>
  wpAny_Dict_empty ⟨.ref s.heap.objs.size,_,I.laid (a:=s.heap.objs.size) (o:=.dT []) (t':=s.toks) (fun _ _ q=>C7 _ q) (Dm _) (yk s.heap I.big),rfl,h _ (I.hok.fresh (Dm _))⟩
end
end L2
namespace L2
open PySem PySem.Spec PyProof.Rows
end L2
end
section
namespace L2
open PySem PySem.Spec PyProof.Rows
noncomputable def lr (cells:List (Str × Addr)) (cs:List (Str × Addr)) (x:Str × NameKind):List (Str × Addr) :=
  if x.2 == .free then (match cells.lookup x.1 with | some c=>(x.1,c) :: cs | none=>cs) else cs
noncomputable def clo (cells:List (Str × Addr)) (names:List (Str × NameKind)):List (Str × Addr):=names.foldl (lr cells) []
theorem mM {α β:Type} {f:α->β->Sem (ForInStep β)} {g:β->α->β}:∀ {l:List α} {c:β},(∀ x ∈ l,∀ c,f x c=pure (.yield (g c x)))->forIn l c f=pure (l.foldl g c)
  | [],c,_=>rfl
  | x :: l,c,h=>by
    rw [List.forIn_cons,h x C5,pure_bind]
    exact mM fun y hy=>h y (C6 _ hy)
theorem i9 {scope:Scope} {env:Env} (h:∀ x ∈ scope.names,x.2=.free->∃ c,env.cells.lookup x.1=some c):closureFor scope env=pure (clo env.cells scope.names):=by
  simp only [closureFor]
  rw [mM (g:=lr env.cells) (fun x hx c=>by
    obtain ⟨n,kind⟩:=x
    unfold lr
    by_cases hk:kind=.free
    · subst hk
      obtain ⟨a,e⟩:=h _ hx rfl
      have e':env.cells.lookup n=some a:=e
      simp [cellOf,e']
    · have hb:(kind == NameKind.free)=false:=by simpa using hk
      simp [hb])]
  rfl
theorem oh {cells:List (Str × Addr)} {x:Str} {c:Addr}:∀ {l:List (Str × NameKind)} {cs:List (Str × Addr)},(∀ y d,cs.lookup y=some d->cells.lookup y=some d)->(l.foldl (lr cells) cs).lookup x=some c->cells.lookup x=some c
  | [],cs,h,e=>h x c e
  | y :: l,cs,h,e=>by
    refine oh (l:=l) (cs:=lr cells cs y) (fun z d q=>?_) e
    unfold lr at q
    split at q
    · cases e2:cells.lookup y.1 with
      | none=>rw [e2] at q;exact h z d q
      | some a =>
        rw [e2] at q
        simp only [List.lookup_cons] at q
        cases hz:z == y.1 with
        | true=>rw [hz] at q;have:=eq_of_beq hz;subst this;rw [e2];exact q
        | false=>rw [hz] at q;exact h z d q
    · exact h z d q
theorem pv {cells:List (Str × Addr)} {l:List (Str × NameKind)} {x:Str} {c:Addr} (e:(clo cells l).lookup x=some c):cells.lookup x=some c:=oh (fun _ _ q=>by simp at q) e
theorem mN {cells:List (Str × Addr)} {x:Str} {c:Addr} (hc:cells.lookup x=some c):∀ {l:List (Str × NameKind)} {cs:List (Str × Addr)},cs.lookup x=some c->(l.foldl (lr cells) cs).lookup x=some c
  | [],_,e=>e
  | y :: l,cs,e=>by
    refine mN hc (l:=l) (cs:=lr cells cs y) ?_
    unfold lr
    split
    · cases e2:cells.lookup y.1 with
      | none=>exact e
      | some a =>
        simp only [List.lookup_cons]
        cases hz:x == y.1 with
        | true=>have:=eq_of_beq hz;subst this;rw [hc] at e2;exact e2.symm
        | false=>exact e
    · exact e
theorem oi {cells:List (Str × Addr)} {x:Str} {c:Addr} (hc:cells.lookup x=some c):∀ {l:List (Str × NameKind)} {cs:List (Str × Addr)},(x,NameKind.free) ∈ l->(l.foldl (lr cells) cs).lookup x=some c
  | [],_,m=>by simp at m
  | y :: l,cs,m=>by
    rcases Db.mp m with rfl | m
    · refine mN hc (l:=l) ?_
      simp [lr,hc]
    · exact oi hc (l:=l) (cs:=lr cells cs y) m
theorem uu {cells:List (Str × Addr)} {l:List (Str × NameKind)} {x:Str} {c:Addr} (hc:cells.lookup x=some c) (m:(x,NameKind.free) ∈ l):(clo cells l).lookup x=some c:=oi hc m
theorem jZ {env:Env}:∀ {names:List (Str × NameKind)} {x:Str},names.lookup x=some .free ->
    (names.map fun (n,k)=>if (k == NameKind.free && env.scope.kind == .function && env.kindOf n == some .cell) then (n,NameKind.cell) else (n,k)).lookup x=some .cell \/
    (names.map fun (n,k)=>if (k == NameKind.free && env.scope.kind == .function && env.kindOf n == some .cell) then (n,NameKind.cell) else (n,k)).lookup x=some .free
  | [],_,h=>by simp at h
  | (n,k) :: r,x,h=>by
    have ih:=@jZ env r x
    show List.lookup x ((if (k == NameKind.free && env.scope.kind == .function && env.kindOf n == some .cell)=true then (n,NameKind.cell) else (n,k)) :: _)=_ \/
      List.lookup x ((if (k == NameKind.free && env.scope.kind == .function && env.kindOf n == some .cell)=true then (n,NameKind.cell) else (n,k)) :: _)=_
    cases hx:x == n with
    | true =>
      simp only [List.lookup_cons,hx] at h
      cases h
      split
      · left;simp [List.lookup_cons,hx]
      · right;simp [List.lookup_cons,hx]
    | false =>
      simp only [List.lookup_cons,hx] at h
      split
      · simp only [List.lookup_cons,hx];exact ih h
      · simp only [List.lookup_cons,hx];exact ih h
theorem md {env:Env}:∀ {names:List (Str × NameKind)} {x:Str},(∀ y ∈ names,y.2 ≠ .cell) ->
    ((names.map fun (n,k)=>if (k == NameKind.free && env.scope.kind == .function && env.kindOf n == some .cell) then (n,NameKind.cell) else (n,k)).lookup x=some .cell \/
    (names.map fun (n,k)=>if (k == NameKind.free && env.scope.kind == .function && env.kindOf n == some .cell) then (n,NameKind.cell) else (n,k)).lookup x=some .free)->(x,NameKind.free) ∈ names
  | [],_,_,h=>by simp at h
  | (n,k) :: r,x,hc,h=>by
    have ih:=@md env r x (fun y hy=>hc y (C6 _ hy))
    have hk:=hc (n,k) C5
    have h':List.lookup x ((if (k == NameKind.free && env.scope.kind == .function && env.kindOf n == some .cell)=true then (n,NameKind.cell) else (n,k)) :: (r.map fun (n,k)=>if (k == NameKind.free && env.scope.kind == .function && env.kindOf n == some .cell) then (n,NameKind.cell) else (n,k)))=some .cell \/
      List.lookup x ((if (k == NameKind.free && env.scope.kind == .function && env.kindOf n == some .cell)=true then (n,NameKind.cell) else (n,k)) :: (r.map fun (n,k)=>if (k == NameKind.free && env.scope.kind == .function && env.kindOf n == some .cell) then (n,NameKind.cell) else (n,k)))=some .free:=h
    cases hx:x == n with
    | true =>
      have e:=eq_of_beq hx
      subst e
      by_cases hf:k=.free
      · subst hf;exact C5
      · exfalso
        have hb:(k == NameKind.free)=false:=by simpa using hf
        simp [hb,List.lookup_cons] at h'
        rcases h' with q | q
        · exact hk q
        · exact hf q
    | false =>
      refine C6 _ (ih ?_)
      split at h'
      · simpa only [List.lookup_cons,hx] using h'
      · simpa only [List.lookup_cons,hx] using h'
noncomputable def bx (X:Cx) (NY:List Str) (scope:Scope) (s:Shared) (H:Hp) (C:Addr) (fp:List Addr):Cx where
  prog:=X.prog
  w:=X.w
  K:=X.K
  mg:=X.mg
  base:=X.base
  A:=X.A
  N:=NY
  s₀:=s
  H₀:=H
  env:=compEnvC scope (clo X.env.cells scope.names) C X.env
  outer:=X.stack
  stack:=X.stack
  ex:=fp
  fn:=fun _=>false
  calm:=X.calm
  pn:=[]
  xe:=fun _ _=>False
noncomputable def cap (ix:List (Option Nat)) (σ:St):St:=ix.map fun o=>match o with | some i=>(σ[i]?).getD none | none=>none
noncomputable def kI (sc:Scope) (XN:List Str) (Xsc:Scope) (NY:List Str) (ix:List (Option Nat)):Bool :=
  sc.kind == .function && sc.names.all (fun y=>y.2 != .cell) && sc.names.all (fun y=>y.2 != .local || sc.names.lookup y.1 == some .local) && sc.names.all (fun y=>y.2 != .free || sc.names.lookup y.1 == some .free)
    && sc.names.all (fun y=>y.2 != .free || (Xsc.names.lookup y.1 == some .cell || Xsc.names.lookup y.1 == some .free))
    && ix.length == NY.length && (NY.zip ix).all fun p=>match p.2 with | none=>true | some i=>(XN[i]? == some p.1) && sc.names.contains (p.1,NameKind.free)
structure CompOk (sc:Scope) (XN:List Str) (Xsc:Scope) (NY:List Str) (ix:List (Option Nat)):Prop where
  kind:sc.kind=.function
  nocell:∀ y ∈ sc.names,y.2 ≠ .cell
  loc:∀ y ∈ sc.names,y.2=.local->sc.names.lookup y.1=some .local
  fre:∀ y ∈ sc.names,y.2=.free->sc.names.lookup y.1=some .free
  out:∀ y ∈ sc.names,y.2=.free->Xsc.names.lookup y.1=some .cell\/Xsc.names.lookup y.1=some .free
  len:ix.length=NY.length
  cap:∀ (j:Nat) x i,NY[j]?=some x->ix[j]?=some (some i)->XN[i]?=some x/\(x,NameKind.free) ∈ sc.names
theorem CompOk.of {sc:Scope} {XN:List Str} {Xsc:Scope} {NY:List Str} {ix:List (Option Nat)} (h:kI sc XN Xsc NY ix=true):CompOk sc XN Xsc NY ix:=by
  simp only [kI,Bool.and_eq_true,List.all_eq_true,beq_iff_eq] at h
  obtain ⟨⟨⟨⟨⟨⟨h1,h2⟩,h3⟩,h4⟩,h5⟩,h6⟩,h7⟩:=h
  refine ⟨h1,fun y hy=>by simpa using h2 y hy,fun y hy e=>?_,fun y hy e=>?_,fun y hy e=>?_,h6,fun j x i e1 e2=>?_⟩
  · have:=h3 y hy;rw [e] at this;simpa using this
  · have:=h4 y hy;rw [e] at this;simpa using this
  · have:=h5 y hy;rw [e] at this;simpa using this
  · have m:(x,some i) ∈ NY.zip ix:=by
      refine Di (i:=j) ?_
      rw [List.getElem?_zip_eq_some]
      exact ⟨e1,e2⟩
    have:=h7 _ m
    simpa using this
section
variable {X:Cx}
theorem FpOk.of_upd {pins:List (Addr × Obj)} {H:Hp} {b D:Addr} {o:HO} (f:FpOk X pins H b) (h:b ≠ D):FpOk X pins (upd H D o) b:=⟨by rw [aR h];exact f.1,f.2⟩
theorem HOk.track {P:Program} {w:World} {H:Hp} {h:Heap} {a:Addr} {o:HO} (x:HOk P w H h) (hn:H a=none) (new:ObjOk P w (upd H a o) h a o):HOk P w (upd H a o) h:=fun b u e=>by
  by_cases hb:b=a
  · subst hb;rw [bC] at e;cases e;exact new
  · rw [aR hb] at e
    exact (x b u e).stay (fun c v _ q=>q) (fun c q=>by rw [aR (bP q hn)];exact q) fun c xs q=>by rw [aR (bP q hn)];exact q
noncomputable def PTs (Y:Cx) (ifs:List Expr) (t:TT):Prop :=
  ∀ (pins:List (Addr × Obj)) (s:Shared) (σ:St) (H:Hp) (Q:Bool->Hp->Prop),Inv Y pins σ H s->t σ H Q ->
    wpAny (model Y.prog Y.w) Y.A (forIn ifs true fun c r=>if r=true then do let ok <- isTrue c Y.env (eval c Y.env);pure (ForInStep.yield ok) else pure (ForInStep.yield r)) (TP Y pins σ Q) Y.xe s
noncomputable def tYes:TT:=fun _ H Q=>Q true H
theorem zA {Y:Cx}:PTs Y [] tYes:=fun pins s σ H Q I h=>wpAny_tests_nil ⟨H,I,h⟩
theorem zz {Y:Cx} {c:Expr} {t:TT} (h:PT Y c t):PTs Y [c] t:=fun pins s σ H Q I q=>wpAny_tests_one (h pins s σ H Q I q)
noncomputable def rA (J:It) (g:TG) (tc:TT) (te:TE) (Z:List V->Hp->Prop) (τ0:St) (H1:Hp):Prop :=
  ∃ W:Nat->Nat->List V->St->Hp->Prop,(∃ m,W 0 m [] τ0 H1)/\∀ i m ys τ H,W i m ys τ H->ys.length < sizeLine /\
    ((J.stop i H/\Z ys H)\/(J.go i H/\∃ N:List V->St->Hp->Prop,(∀ ys' τ' H',N ys' τ' H'->∃ m',m' < m/\W (i+1) m' ys' τ' H')/\∀ x H',J.yld i H x H'->g x τ H' fun τ2 H2=>tc τ2 H2 fun b H3 =>
      if b=true then te τ2 H3 fun y H4=>N (ys ++ [y]) τ2 H4 else N ys τ2 H3))
noncomputable def AR (wi:TI) (g:TG) (tc:TT) (te:TE) (ix:List (Option Nat)):TE:=fun σ H Q =>
  wi σ H fun J H1=>rA J g tc te (fun ys H2=>∀ p,H2 p=none->Q (.ref p) (upd H2 p (.lst ys))) (cap ix σ) H1
theorem sO {NY:List Str} {scope:Scope} {ix:List (Option Nat)} {pins:List (Addr × Obj)} {σ:St} {H:Hp} {s s4:Shared} {fp:List Addr} {C:Addr} (ck:CompOk scope X.N X.env.scope NY ix)
    (I:Inv X pins σ H s) (f:∀ b ∈ fp,FpOk X pins H b) (hC:s.heap.objs.size<=C) (hfp:∀ b ∈ fp,b < s.heap.objs.size) (h4:s4.os=s.os) (hg:s4.gens=s.gens) (keep:∀ b o,s.heap.get? b=some o->s4.heap.get? b=some o)
    (ns:s4.heap.Ns C fun _=>none):Inv (bx X NY scope s H C fp) [] (cap ix σ) H s4:=by
  have fC:FpOk X pins H C:=I.fpOk hC (I.hok.fresh hC)
  have cls:∀ x c,(clo X.env.cells scope.names).lookup x=some c->X.env.cells.lookup x=some c:=fun x c e=>pv e
  have hset:∀ x,(x,NameKind.free) ∈ scope.names->∃ c,X.env.cells.lookup x=some c:=fun x m=>by
    rcases ck.out _ m rfl with q | q
    · exact I.ok.has x (.inl q)
    · exact I.ok.has x (.inr q)
  refine ⟨⟨I.ok.mod,ck.kind,I.ok.glob,I.ok.blt,hC,fun x y c e1 e2=>I.ok.inj x y c (cls x c e1) (cls y c e2),fun x hx=>?_,fun x c e _=>(Dn e).elim,fun e=>I.ok.hd e,I.ok.frames,.inl rfl,fun b hb=>⟨Do (Dt (hfp b hb) hC),fun x c e=>(f b hb).2.2.2.2.1 x c (cls x c e)⟩,
    I.bs,DI I.ok.bsz I.sz,fun b o e hb=>?_,fun b hb hz=>?_,I.stack,I.stkFree⟩,h4,by rw [hg];exact I.bare,Un.kept keep,⟨_,ns,fun i x v e1 e2 e3=>?_⟩,fun x c e=>?_,fC.1,fun x c e=>I.freeC x c (cls x c e),fun p hp=>absurd (show p ∈ ([]:List (Addr × Obj)) from hp) (by simp),I.hok.kept keep,?_⟩
  · have m:(x,NameKind.free) ∈ scope.names:=md ck.nocell hx
    obtain ⟨c,e⟩:=hset x m
    exact ⟨c,uu e m⟩
  · rcases (f b hb).2.2.2.1 with z | z
    · exact I.ok.noex b o e z
    · exact absurd (Dt (Dd e) (DI I.ok.bsz z)) (Nat.lt_irrefl _)
  · rcases Db.mp (I.stkSub b hz) with e | e
    · exact (f b hb).2.1 e
    · exact (f b hb).2.2.1 e
  · -- a captured name
    have q:∃ k,ix[i]?=some (some k)/\σ[k]?=some (some v):=by
      unfold cap at e2
      rw [Dl] at e2
      cases e:ix[i]? with
      | none=>rw [e] at e2;simp at e2
      | some o =>
        rw [e] at e2
        cases o with
        | none=>simp at e2
        | some k =>
          refine ⟨k,rfl,?_⟩
          simp only [Dz,Option.some.injEq] at e2
          cases e':σ[k]? with
          | none=>rw [e'] at e2;simp at e2
          | some o'=>rw [e'] at e2;simp at e2;rw [e2]
    obtain ⟨k,ek,ev⟩:=q
    obtain ⟨eN,m⟩:=ck.cap i x k e1 ek
    obtain ⟨mX,hnX,hl⟩:=I.loc
    have hv:Vis X.env.scope x:=by
      rcases ck.out _ m rfl with q | q
      · exact .inr (.inl q)
      · exact .inr (.inr q)
    obtain ⟨u,r,l⟩:=hl k x v eN ev hv
    refine ⟨u,r,.inr ?_⟩
    rcases l with ⟨kl,_⟩ | ⟨_,c,ec,hc⟩
    · exfalso
      rcases ck.out _ m rfl with q | q
      · have:=kl.symm.trans q;cases this
      · have:=kl.symm.trans q;cases this
    · obtain ⟨o,ho,hd⟩:=hc
      exact ⟨jZ (ck.fre _ m rfl),c,uu ec m,o,keep c o ho,hd⟩
  · obtain ⟨v,o,ho,hd⟩:=I.cell x c (cls x c e)
    exact ⟨v,o,keep c o ho,hd⟩
  · show (cap ix σ).length=NY.length
    unfold cap
    rw [Dg]
    exact ck.len
set_option tactic.hygienic true in
theorem i8 {prog:Program} {w:World} {A:Around} {R:Result->Shared->Prop} {s:Shared} {elt target iter:Expr} {ifs:List Expr} {scope:Scope} {pos:Pos} {it acc:Value} {env:Env} (I:Nat->Shared->Prop)
    (turn:∀ n s,I n s->wpAny (model prog w) A (pyNext it) (fun r s₁=>match r with
      | none=>R (.ok .next) s₁
      | some v=>wpAny (model prog w) A (letOwnedTupleGo target it v) (fun _ s₁'=>wpAny (model prog w) A (assign target env v) (fun _ s₂ =>
          wpAny (model prog w) A (forIn ifs true fun c r=>if r=true then do let ok <- isTrue c env (eval c env);pure (ForInStep.yield ok) else pure (ForInStep.yield r)) (fun ok s₃ =>
            if ok=true then wpAny (model prog w) A (eval elt env) (fun x s₄ =>
              wpAny (model prog w) A (call (.builtin "list.append") [acc,x]) (fun _ s₅=>∃ m,m < n/\I m s₅) (fun _ _=>False) s₄) (fun _ _=>False) s₃
            else ∃ m,m < n/\I m s₃) (fun _ _=>False) s₂) (fun _ _=>False) s₁') (fun _ _=>False) s₁) (fun _ _=>False) s)
    (n:Nat) (h:I n s) :
    codeAny (model prog w) A (.compLoop (.ListComp elt [⟨target,iter,ifs,0⟩] scope pos) 0 it acc env) R s:=by
  refine codeAny_loop rfl I (fun n s hI=>?_) n h
  show wpAny _ A ((compTurn (.ListComp elt [⟨target,iter,ifs,0⟩] scope pos) 0 it acc env).onRaise (fun x=>do noteFrame x env;theTreesLotGoes x)) _ _ s
  refine wpAny_noted ?_
  rw [compTurn_list]
  refine C2 (wpAny_standAt (C2 (wpAny_mono (turn n s hI) (fun r s₁ h₁=>?_) fun _ _ h'=>h'.elim)))
  cases r with
  | none=>exact C3 h₁
  | some v =>
    refine C2 (wpAny_mono h₁ (fun _ s₁' h₁'=>?_) fun _ _ h'=>h'.elim)
    refine C2 (wpAny_mono h₁' (fun _ s₂ h₂=>C2 (wpAny_mono h₂ (fun ok s₃ h₃=>?_) fun _ _ h'=>h'.elim)) fun _ _ h'=>h'.elim)
    cases ok with
    | false=>exact C3 ⟨rfl,h₃⟩
    | true =>
      exact C2 (C2 (wpAny_mono h₃ (fun x s₄ h₄=>C2 (wpAny_mono h₄ (fun _ s₅ h₅=>C3 (C3 ⟨rfl,h₅⟩)) fun _ _ h'=>h'.elim)) fun _ _ h'=>h'.elim))
set_option tactic.hygienic true in
theorem qU {elt tg iter:Expr} {ifs:List Expr} {NY:List Str} {scope:Scope} {ix:List (Option Nat)} {pos:Pos} {pins:List (Addr × Obj)} {σ:St} {H:Hp} {s:Shared} {fp:List Addr} {it:Addr} {tn:Nat->Heap->Prop} {J:It} {g:TG} {tc:TT} {te:TE} {Z:List V->Hp->Prop} {E:Value->Shared->Prop}
    {RR:Value->Addr->Result->Shared->Prop} (hc:X.calm=true) (ck:CompOk scope X.N X.env.scope NY ix)
    (hg:∀ s H C fp,PG (bx X NY scope s H C fp) tg g) (ht:∀ s H C fp,PTs (bx X NY scope s H C fp) ifs tc) (he:∀ s H C fp,PE (bx X NY scope s H C fp) elt te)
    (I:Inv X pins σ H s) (T:Turn X.prog X.w X.K tg J fp it tn) (st:tn 0 s.heap) (f:∀ b ∈ fp,FpOk X pins H b) (hW:rA J g tc te Z (cap ix σ) H)
    (hRR:∀ D C s' ys H' m,s'.heap.Ns C m->H' D=none->FpOk X pins (upd H' D (.lst ys)) C->Inv X pins σ (upd H' D (.lst ys)) s'->Z ys H'->RR (.ref D) C (.ok .next) s') :
    wpAny (model X.prog X.w) X.A (newList []) (fun acc s₃=>wpAny (model X.prog X.w) X.A (newFunctionEnv scope X.env.globals (clo X.env.cells scope.names) [] X.env.qual none .none (some X.env)) (fun cenv s₄ =>
      codeAny (model X.prog X.w) X.A (.compStart (.ListComp elt [⟨tg,iter,ifs,0⟩] scope pos) 0 (.ref it) acc { cenv with scope:=relabel scope X.env }) (RR acc cenv.locals) s₄) E s₃) E s:=by
  obtain ⟨W,⟨m0,w0⟩,turn⟩:=hW
  refine wpAny_newObj_type (wpAny_newFunctionEnv ck.nocell (by intro y hy;simp at hy) (fun h₁ hns₁ hsb₁=>?_) ck.kind)
  dsimp only at hns₁ hsb₁ ⊢
  generalize hH2:s.heap.push { cls:=.type "list",dict:=none,data:=.seq ([]:List Value).toArray }=H2 at hns₁ hsb₁ ⊢
  have hCs:H2.objs.size=s.heap.objs.size+1:=by rw [<- hH2,DG]
  have hDC:s.heap.objs.size ≠ H2.objs.size:=by rw [hCs];exact Do (Nat.lt_succ_self _)
  have hCle:s.heap.objs.size<=H2.objs.size:=by rw [hCs];exact Nat.le_succ _
  generalize hD:s.heap.objs.size=D at *
  generalize hC:H2.objs.size=C at *
  have below:∀ b o,s.heap.get? b=some o->b < D:=fun b o e=>by rw [<- hD];exact Dd e
  have old:∀ b o,s.heap.get? b=some o->h₁.get? b=some o:=fun b o e=>hsb₁.extBut b o (Do (Dt (below b o e) hCle)) (C7 _ (hH2 ▸ C7 _ e))
  have hacc0:H2.get? D=some { cls:=.type "list",dict:=none,data:=.seq ([]:List Value).toArray }:=by
    rw [<- hH2,<- hD];exact Df _ rfl
  have hacc:h₁.PlainList D #[]:=⟨_,hsb₁.extBut _ _ hDC (C7 _ hacc0)⟩
  have hfp:∀ b ∈ fp,b < s.heap.objs.size:=fun b hb=>by
    obtain ⟨o,e,_⟩:=T.obj 0 _ st b hb
    exact Dd e
  have hfpD:∀ b ∈ fp,b < D:=fun b hb=>by rw [<- hD];exact hfp b hb
  have IY:Inv (bx X NY scope s H C fp) [] (cap ix σ) H { s with heap:=h₁,toks:=s.toks+([]:List (Str × Value)).length } :=
    sO ck I f (by rw [hD];exact hCle) hfp rfl rfl old hns₁
  have HDn:H D=none:=I.hok.fresh (by rw [hD];exact Dm _)
  have stackLt:∀ b ∈ frs X.stack,b < D:=fun b hb=>by
    obtain ⟨_,o,ho,_⟩:=I.stack.mem hb
    exact below b o ho
  have loop:∀ s₃:Shared,s₃ = { s with heap:=h₁,toks:=s.toks+([]:List (Str × Value)).length } ->
      codeAny (model X.prog X.w) X.A (.compLoop (.ListComp elt [⟨tg,iter,ifs,0⟩] scope pos) 0 (.ref it) (.ref D) (bx X NY scope s H C fp).env) (RR (.ref D) C) s₃:=by
    rintro s₃ rfl
    refine i8 (fun n s'=>∃ i ys τ H' its,Inv (bx X NY scope s H C fp) [] τ H' s'/\H' D=none/\s'.heap.PlainList D its/\Vals ys its.toList/\tn i s'.heap/\(∀ b ∈ fp,H' b=none)/\W i n ys τ H') ?_ m0
      ⟨0,[],cap ix σ,H,#[],IY,HDn,hacc,.nil,T.keep _ _ _ st fun b _ o e=>old b o e,fun b hb=>(f b hb).1,w0⟩
    rintro n s3 ⟨i,ys,τ,H3,its,I3,d3,l3,v3,st3,fr3,w3⟩
    obtain ⟨nl,e3⟩:=id l3
    have I3p:Inv (bx X NY scope s H C fp) [(D,{ cls:=.type "list",data:=.seq its nl })] τ H3 s3:=I3.pins_of fun p hp=>by
      have e:p=(D,{ cls:=.type "list",data:=.seq its nl }):=by simpa using hp
      subst e
      exact ⟨e3,d3,hDC,fun z=>Nat.lt_irrefl _ (stackLt D z),fun v z=>by cases z⟩
    have fpo:∀ {H':Hp} {pl:List (Addr × Obj)},(∀ b ∈ fp,H' b=none)->(∀ p ∈ pl,p.1=D)->∀ b ∈ fp,FpOk (bx X NY scope s H C fp) pl H' b:=fun hn hp b hb =>
      ⟨hn b hb,Do (Dt (hfpD b hb) hCle),fun z=>by
        rcases Db.mp (I.stkSub b z) with e | e
        · exact (f b hb).2.1 e
        · exact (f b hb).2.2.1 e,.inl hb,fun x c e=>(f b hb).2.2.2.2.1 x c (pv e),fun p hp'=>by
        have e:p.1=D:=hp p ((De.mp hp').elim (fun z=>absurd (show p ∈ ([]:List (Addr × Obj)) from z) (by simp)) fun z=>z)
        rw [e]
        exact Nat.ne_of_gt (hfpD b hb)⟩
    obtain ⟨zl,step⟩:=turn i n ys τ H3 w3
    have single:∀ p ∈ [(D,({ cls:=.type "list",data:=.seq its nl }:Obj))],p.1=D:=fun p hp=>by
      have e:p=(D,{ cls:=.type "list",data:=.seq its nl }):=by simpa using hp
      rw [e]
    rcases step with ⟨stop,qn⟩ | ⟨go,N,hN,step⟩
    · refine wpAny_mono (T.done (bx X NY scope s H C fp) rfl rfl rfl hc i _ s3 τ H3 (fun _ _=>False) I3p (fpo fr3 single) st3 stop) (fun r s4 ⟨hr,I4⟩=>?_) fun _ _ e=>e
      subst hr
      obtain ⟨mC,hnC,_⟩:=id I4.loc
      obtain ⟨e4,d4,_⟩:=I4.pin (D,{ cls:=.type "list",data:=.seq its nl }) (by simp [bx])
      have lt4:∀ b o,s.heap.get? b=some o->b ≠ D:=fun b o e=>Do (below b o e)
      have u4:=I4.base
      refine hRR D C s4 ys H3 mC hnC d4 ?_ ?_ qn
      · exact (I.fpOk (by rw [hD];exact hCle) (by exact I4.free)).of_upd (Ne.symm hDC)
      · refine I.call' (ch:=fp) I4.os (H':=upd H3 D (.lst ys)) ⟨u4.keep,u4.slot,fun b o e n hx=>?_,u4.there,fun b xs e=>?_,fun b o u e=>?_,fun b ps e=>?_⟩ ?_ I4.bare fun b hb=>?_
        · rw [aR (lt4 b o e)];exact u4.free b o e n hx
        · have q:=u4.tups b xs e;rw [aR (bP q d4)];exact q
        · have q:=u4.frzs b o u e;rw [aR (bP q d4)];exact q
        · obtain ⟨more,q⟩:=u4.tbls b ps e;exact ⟨more,by rw [aR (bP q d4)];exact q⟩
        · exact I4.hok.track d4 ⟨Nat.le_of_lt zl,its.toList,nl,v3,by simpa using e4⟩
        · exact ⟨(f b hb).2.2.2.1,(f b hb).2.1,(f b hb).2.2.2.2.1,(f b hb).2.2.2.2.2⟩
    · refine wpAny_mono (T.item (bx X NY scope s H C fp) rfl rfl rfl hc i _ s3 τ H3 (fun _ _=>False) I3p (fpo fr3 single) st3 go) (fun r s4 ⟨u,hr,h4⟩=>?_) fun _ _ e=>e
      subst hr
      refine wpAny_mono h4 (fun _ s5 ⟨x,H5,I5,r5,y5,st5,fr5⟩=>?_) fun _ _ e=>e
      have I5':=I5.pinned (fpo fr5 single) (T.obj _ _ st5)
      refine wpAny_mono (hg s H C fp _ s5 τ H5 x u _ I5' r5 (step x H5 y5)) (fun _ s6 ⟨τ6,H6,I6,q6⟩=>?_) fun _ _ e=>e
      refine wpAny_mono (ht s H C fp _ s6 τ6 H6 _ I6 q6) (fun b s7 ⟨H7,I7,q7⟩=>?_) fun _ _ e=>e
      have after:∀ {s':Shared} {H':Hp},Inv (bx X NY scope s H C fp) ([(D,{ cls:=.type "list",data:=.seq its nl })] ++ mj fp s5.heap) τ6 H' s'->tn (i+1) s'.heap/\(∀ b ∈ fp,H' b=none)/\H' D=none/\s'.heap.PlainList D its:=fun {s' H'} I' =>
        ⟨T.keep _ _ _ st5 fun b hb o e=>(I'.pin (b,o) (Da _ (Da _ (gU hb e)))).1,fun b hb=>by
          obtain ⟨o,e,d⟩:=T.obj _ _ st5 b hb
          exact (I'.pin (b,o) (Da _ (Da _ (gU hb e)))).2.1,(I'.pin (D,_) (Da _ (C9 _ (DB.mpr rfl)))).2.1,
          nl,(I'.pin (D,_) (Da _ (C9 _ (DB.mpr rfl)))).1⟩
      cases b with
      | false =>
        rw [if_neg Dn]
        rw [if_neg Dn] at q7
        obtain ⟨m',hm,w7⟩:=hN _ _ _ q7
        obtain ⟨a1,a2,a3,a4⟩:=after I7
        exact ⟨m',hm,i+1,ys,τ6,H7,its,I7.pins_of (fun _ z=>absurd z (by simp)),a3,a4,v3,a1,a2,w7⟩
      | true =>
        rw [if_pos rfl]
        rw [if_pos rfl] at q7
        refine wpAny_mono (he s H C fp _ s7 τ6 H7 _ I7 q7) (fun y s8 ⟨yv,H8,I8,r8,n8⟩=>?_) fun _ _ e=>e
        obtain ⟨m',hm,w8⟩:=hN _ _ _ n8
        obtain ⟨a1,a2,a3,a4⟩:=after I8
        have hsz0:ys.length=its.size:=by simpa using v3.length
        have hsz:its.size<=sizeLine:=by omega
        refine wpAny_list_append_plain (hsz:=hsz) a4 fun h9 l9 sb9=>?_
        have I9:Inv (bx X NY scope s H C fp) [] τ6 H8 { s8 with heap:=h9,toks:=s8.toks }:=(I8.pins_of (pins':=[]) fun _ z=>absurd z (by simp)).turned (it:=D) (fun b o hb e=>(sb9.2 b hb).trans e) a3 hDC (.inr (by show s.heap.objs.size<=D;rw [hD];exact Dm _)) (fun x c e z=>?_) fun p z=>absurd (show p ∈ ([]:List (Addr × Obj)) from z) (by simp)
        · refine ⟨m',hm,i+1,ys ++ [yv],τ6,H8,its.push y,I9,a3,l9,?_,T.keep _ _ _ a1 fun b hb o e=>(sb9.2 b (Do (hfpD b hb))).trans e,a2,w8⟩
          rw [Array.toList_push]
          exact v3.append (.cons r8 .nil)
        · obtain ⟨v,o,ho,_⟩:=I.cell x c (pv e)
          exact Nat.lt_irrefl _ (z ▸ below c o ho)
  exact codeAny_compStart_list (loop _ rfl) (T.self X.A 0 _ _ _ (T.keep _ _ _ st fun b _ o e=>old b o e) (loop _ rfl))
theorem zL {elt tg iter:Expr} {ifs:List Expr} {scope:Scope} {pos:Pos} {wi:TI} {g:TG} {tc:TT} {te:TE} (NY:List Str) (ix:List (Option Nat)) (hc:X.calm=true) (hi:PI X tg iter wi)
    (hg:∀ s H C fp,PG (bx X NY scope s H C fp) tg g) (ht:∀ s H C fp,PTs (bx X NY scope s H C fp) ifs tc) (he:∀ s H C fp,PE (bx X NY scope s H C fp) elt te)
    (ck:kI scope X.N X.env.scope NY ix=true) (hs:∀ x,foldedSetIterable iter X.env x=pure x:=by intro _;rfl):PE X (.ListComp elt [⟨tg,iter,ifs,0⟩] scope pos) (AR wi g tc te ix):=by
  intro pins s σ H Q I h
  have ck:=CompOk.of ck
  rw [eval_ListComp]
  refine wpAny_comprehension_free (use:=none) rfl hs (i9 (scope:=scope) (env:=X.env) fun x m e=>?_) ck.kind ck.loc (thn (hi pins s σ H _ I h) fun v s1 h1=>thn h1 fun itv s2 h2=>?_)
  · rcases ck.out x m e with q | q
    · exact I.ok.has x.1 (.inl q)
    · exact I.ok.has x.1 (.inr q)
  · obtain ⟨it,fp,tn,J,H2,e,I2,T,st2,f2,hW⟩:=h2
    subst e
    refine qU (RR:=fun acc C=>compPost (model X.prog X.w) X.A X.xe none (EP X pins σ Q) acc C) hc ck hg ht he I2 T st2 f2 hW ?_
    intro D C s' ys H' m hn hD fC I' hZ
    obtain ⟨f0,f1,f2,f3,f4,f5⟩:=fC
    exact ⟨m,hn,fun h' sb=>⟨.ref D,_,I'.turned (t':=s'.toks) (fun b o hb e=>(sb.2 b hb).trans e) f0 f1 f3 f4 f5,rfl,hZ D hD⟩⟩
noncomputable def AU (i:Nat) (wi:TI) (g:TG) (tc:TT) (te:TE) (ix:List (Option Nat)):TS:=fun D σ H =>
  wi σ H fun J H1=>rA J g tc te (fun ys H2=>∀ p,H2 p=none->D.nx (σ.set i (some (.ref p))) (upd H2 p (.lst ys))) (cap ix σ) H1
set_option tactic.hygienic true in
theorem r6 {i:Nat} {y:Str} {py spos:Pos} {elt tg iter:Expr} {ifs:List Expr} {scope:Scope} {pos:Pos} {wi:TI} {g:TG} {tc:TT} {te:TE} (hN:X.N.Nodup) (hy:X.N[i]?=some y) (hx:Loc X.env.scope y) (NY:List Str) (ix:List (Option Nat)) (hc:X.calm=true) (hi:PI X tg iter wi)
    (hg:∀ s H C fp,PG (bx X NY scope s H C fp) tg g) (ht:∀ s H C fp,PTs (bx X NY scope s H C fp) ifs tc) (he:∀ s H C fp,PE (bx X NY scope s H C fp) elt te)
    (ck:kI scope X.N X.env.scope NY ix=true)
    (hsw:swapsWith (.ListComp elt [⟨tg,iter,ifs,0⟩] scope pos) (some (.Name y py)) spos.line X.env=pure true:=by rfl)
    (hf:X.fn y=true\/X.env.scope.names.lookup y=some .local:=by first | exact .inl rfl | exact .inr rfl | assumption)
    (hs:∀ x,foldedSetIterable iter X.env x=pure x:=by intro _;rfl):PS X (.Assign [.Name y py] (.ListComp elt [⟨tg,iter,ifs,0⟩] scope pos) spos) (AU i wi g tc te ix):=by
  intro pins s σ H D I h
  have ck:=CompOk.of ck
  rw [exec_Assign_Name_used _ _ _ _ hsw]
  refine C2 (wpAny_standAt (C2 ?_))
  show wpAny _ X.A (do let _ <- comprehension (.ListComp elt [⟨tg,iter,ifs,0⟩] scope pos) scope X.env _ (newList []) false (eval iter X.env) (some (assign (.Name y py) X.env))) _ _ s
  refine C2 (wpAny_mono (wpAny_comprehension_free (use:=some (assign (.Name y py) X.env)) (Q:=fun _ s'=>SP X pins D .next s') rfl hs (i9 (scope:=scope) (env:=X.env) fun x m e=>?_) ck.kind ck.loc
    (thn (hi pins s σ H _ I h) fun v s1 h1=>thn h1 fun itv s2 h2=>?_)) (fun _ s' hq=>C3 (C3 hq)) fun _ _ e=>e)
  · rcases ck.out x m e with q | q
    · exact I.ok.has x.1 (.inl q)
    · exact I.ok.has x.1 (.inr q)
  · obtain ⟨it,fp,tn,J,H2,e,I2,T,st2,f2,hW⟩:=h2
    subst e
    refine qU (RR:=fun acc C=>compPost (model X.prog X.w) X.A X.xe (some (assign (.Name y py) X.env)) (fun _ s'=>SP X pins D .next s') acc C) hc ck hg ht he I2 T st2 f2 hW ?_
    intro D' C s' ys H' m hn hD fC I' hZ
    obtain ⟨f0,f1,f2,f3,f4,f5⟩:=fC
    show wpAny _ X.A (assign (.Name y py) X.env (.ref D')) _ _ _
    refine wpAny_assign_Name (nJ I' hN hy hx (v:=.ref D') rfl (fun s'' I'' ⟨a,sb,ha⟩=>?_) hf)
    have hCa:C ≠ a:=by
      rcases ha with e | e
      · rw [e];exact f1
      · exact fun z=>f4 y a e z.symm
    exact ⟨m,hn.sameBut sb hCa,fun h' sb'=>⟨_,_,I''.turned (t':=s''.toks) (fun b o hb e=>(sb'.2 b hb).trans e) f0 f1 f3 f4 f5,hZ D' hD⟩⟩
end
end L2
end
section
namespace L2
open PySem PySem.Spec PyProof.Rows
section
variable {X:Cx}
inductive KindOf (K:FG) (H:Hp):V->String->Prop
  | int (i:Int):KindOf K H (.int i) "int"
  | bool (b:Bool):KindOf K H (.bl b) "bool"
  | str (x:Str):KindOf K H (.str x) "str"
  | non:KindOf K H .non "NoneType"
  | tuple {a:Addr} {xs:List V}:SqT K H a xs->KindOf K H (.ref a) "tuple"
  | list {a:Addr} {xs:List V}:SqL K H a xs->KindOf K H (.ref a) "list"
  | dK {a:Addr} {kvs}:H a=some (.dK kvs)->KindOf K H (.ref a) "dict"
  | dT {a:Addr} {kvs}:H a=some (.dT kvs)->KindOf K H (.ref a) "dict"
noncomputable def qI (k t:String):Bool:=k == t || (k == "bool" && t == "int")
theorem Inv.clsK {pins:List (Addr × Obj)} {s:Shared} {σ:St} {H:Hp} {a:Addr} {k:String} (I:Inv X pins σ H s) (h:KindOf X.K H (.ref a) k):∃ o,s.heap.get? a=some o/\o.cls=.type k:=by
  cases h with
  | tuple h=>obtain ⟨its,_,⟨o,e,c,_⟩,_⟩:=I.tuple h;exact ⟨o,e,c⟩
  | list h=>obtain ⟨its,_,⟨o,n,e,c,_⟩,_⟩:=I.list h;exact ⟨o,e,c⟩
  | dK h=>obtain ⟨_,_,_,_,o,_,_,e,c,_⟩:=I.hok a _ h;exact ⟨o,e,c.1⟩
  | dT h=>obtain ⟨_,_,_,_,o,_,_,e,c,_⟩:=I.hok a _ h;exact ⟨o,e,c.1⟩
theorem pw:CallR X (.builtin "isinstance") (fun xs H Q=>∃ x k,xs=[x,.ty "int"]/\KindOf X.K H x k/\Q (.bl (qI k "int")) H):=by
  intro pins s σ H xs us Q I r h
  obtain ⟨x,k,rfl,hk,q⟩:=h
  obtain ⟨u,v,rfl,ru,rv⟩:=nE r
  cases (show v=Value.type "int" from rv)
  cases hk with
  | int i=>obtain ⟨tk,rfl⟩:=ru;exact IsiPair.int_int ⟨.bl true,H,I,rfl,q⟩
  | bool b=>cases (show u=Value.bool b from ru);exact IsiPair.bool_int ⟨.bl true,H,I,rfl,q⟩
  | str z=>obtain ⟨tk,rfl⟩:=ru;exact IsiPair.str_int ⟨.bl false,H,I.tok _,rfl,q⟩
  | non=>cases (show u=Value.none from ru);exact IsiPair.NoneType_int ⟨.bl false,H,I.tok _,rfl,q⟩
  | tuple hh=>cases ru;obtain ⟨o,e,c⟩:=I.clsK (.tuple hh);exact IsiPair.tuple_int e c ⟨.bl false,H,I.tok _,rfl,q⟩
  | list hh=>cases ru;obtain ⟨o,e,c⟩:=I.clsK (.list hh);exact IsiPair.list_int e c ⟨.bl false,H,I.tok _,rfl,q⟩
  | dK hh=>cases ru;obtain ⟨o,e,c⟩:=I.clsK (.dK hh);exact IsiPair.dict_int e c ⟨.bl false,H,I.tok _,rfl,q⟩
  | dT hh=>cases ru;obtain ⟨o,e,c⟩:=I.clsK (.dT hh);exact IsiPair.dict_int e c ⟨.bl false,H,I.tok _,rfl,q⟩
theorem nq:CallR X (.builtin "isinstance") (fun xs H Q=>∃ x k,xs=[x,.ty "bool"]/\KindOf X.K H x k/\Q (.bl (qI k "bool")) H):=by
  intro pins s σ H xs us Q I r h
  obtain ⟨x,k,rfl,hk,q⟩:=h
  obtain ⟨u,v,rfl,ru,rv⟩:=nE r
  cases (show v=Value.type "bool" from rv)
  cases hk with
  | int i=>obtain ⟨tk,rfl⟩:=ru;exact IsiPair.int_bool ⟨.bl false,H,I.tok _,rfl,q⟩
  | bool b=>cases (show u=Value.bool b from ru);exact IsiPair.bool_bool ⟨.bl true,H,I,rfl,q⟩
  | str z=>obtain ⟨tk,rfl⟩:=ru;exact IsiPair.str_bool ⟨.bl false,H,I.tok _,rfl,q⟩
  | non=>cases (show u=Value.none from ru);exact IsiPair.NoneType_bool ⟨.bl false,H,I.tok _,rfl,q⟩
  | tuple hh=>cases ru;obtain ⟨o,e,c⟩:=I.clsK (.tuple hh);exact IsiPair.tuple_bool e c ⟨.bl false,H,I.tok _,rfl,q⟩
  | list hh=>cases ru;obtain ⟨o,e,c⟩:=I.clsK (.list hh);exact IsiPair.list_bool e c ⟨.bl false,H,I.tok _,rfl,q⟩
  | dK hh=>cases ru;obtain ⟨o,e,c⟩:=I.clsK (.dK hh);exact IsiPair.dict_bool e c ⟨.bl false,H,I.tok _,rfl,q⟩
  | dT hh=>cases ru;obtain ⟨o,e,c⟩:=I.clsK (.dT hh);exact IsiPair.dict_bool e c ⟨.bl false,H,I.tok _,rfl,q⟩
theorem dZ:CallR X (.builtin "isinstance") (fun xs H Q=>∃ x k,xs=[x,.ty "tuple"]/\KindOf X.K H x k/\Q (.bl (qI k "tuple")) H):=by
  intro pins s σ H xs us Q I r h
  obtain ⟨x,k,rfl,hk,q⟩:=h
  obtain ⟨u,v,rfl,ru,rv⟩:=nE r
  cases (show v=Value.type "tuple" from rv)
  cases hk with
  | int i=>obtain ⟨tk,rfl⟩:=ru;exact IsiPair.int_tuple ⟨.bl false,H,I.tok _,rfl,q⟩
  | bool b=>cases (show u=Value.bool b from ru);exact IsiPair.bool_tuple ⟨.bl false,H,I.tok _,rfl,q⟩
  | str z=>obtain ⟨tk,rfl⟩:=ru;exact IsiPair.str_tuple ⟨.bl false,H,I.tok _,rfl,q⟩
  | non=>cases (show u=Value.none from ru);exact IsiPair.NoneType_tuple ⟨.bl false,H,I.tok _,rfl,q⟩
  | tuple hh=>cases ru;obtain ⟨o,e,c⟩:=I.clsK (.tuple hh);exact IsiPair.tuple_tuple e c ⟨.bl true,H,I,rfl,q⟩
  | list hh=>cases ru;obtain ⟨o,e,c⟩:=I.clsK (.list hh);exact IsiPair.list_tuple e c ⟨.bl false,H,I.tok _,rfl,q⟩
  | dK hh=>cases ru;obtain ⟨o,e,c⟩:=I.clsK (.dK hh);exact IsiPair.dict_tuple e c ⟨.bl false,H,I.tok _,rfl,q⟩
  | dT hh=>cases ru;obtain ⟨o,e,c⟩:=I.clsK (.dT hh);exact IsiPair.dict_tuple e c ⟨.bl false,H,I.tok _,rfl,q⟩
theorem wa {bs:List Bool}:((List.range bs.length).all fun i=>bs.getD i false)=bs.all id:=by
  rw [Bool.eq_iff_iff]
  simp only [List.all_eq_true,List.mem_range,id]
  constructor
  · intro h b hb
    obtain ⟨i,hi,rfl⟩:=List.mem_iff_getElem.mp hb
    simpa [List.getD,hi] using h i hi
  · intro h i hi
    simpa [List.getD,hi] using h _ (List.getElem_mem hi)
theorem eU (hc:X.calm=true):CallR X (.builtin "all") (fun xs H Q=>∃ (a:Addr) (bs:List Bool),xs=[.ref a]/\SqL X.K H a (bs.map V.bl)/\Q (.bl (bs.all id)) H):=by
  intro pins s σ H xs us Q I r h
  obtain ⟨a,bs,rfl,hq,q⟩:=h
  obtain ⟨u,rfl,ru⟩:=lP r
  cases ru
  obtain ⟨its,rv,p,hz⟩:=I.list hq
  have hl:=rv.length
  rw [Dg] at hl
  have hlt:a < s.heap.objs.size:=by obtain ⟨o,_,e,_⟩:=id p;exact Dd e
  refine call_all_walk (wpAny_pyIter_list p.isList ?_)
  refine ⟨s.heap.objs.size,_,_,_,_,_,fun i=>bs.getD i false,rfl,Walks.list (show X.A.in1.handled=none from I.ok.hd hc) s.heap.objs.size a (Do hlt) its.toArray,⟨⟨_,Df _ rfl,rfl,rfl⟩,p.isList.at fun o e=>C7 _ e⟩,?_,?_⟩
  · intro i v s' Q' E' hv hQ'
    have hv':its[i]?=some v:=by simpa using hv
    have hi:i < bs.length:=by
      have:=(Dh.mp hv').1
      omega
    obtain ⟨u,hu,ru⟩:=rv.get (i:=i) (x:=V.bl (bs[i])) (by simp [hi])
    rw [hv'] at hu
    cases hu
    cases (show v=Value.bool bs[i] from ru)
    refine DH ?_
    have e:bs.getD i false=bs[i]:=by simp [List.getD,hi]
    have hQ2:Q' (bs.getD i false) s':=hQ'
    rw [e] at hQ2
    exact hQ2
  · intro h' tk hk
    have I1:Inv X pins σ H { s with heap:=h',toks:=tk }:=I.kept fun b o e=>hk b o (by
      intro hm
      have e':b=s.heap.objs.size:=by simpa using hm
      exact absurd (e' ▸ Dd e) (Nat.lt_irrefl _)) (C7 _ e)
    refine ⟨.bl (bs.all id),H,I1,?_,q⟩
    show Value.bool _=Value.bool _
    rw [Dp,<- hl,wa]
end
end L2
end
section
namespace L2
open PySem PySem.Spec PyProof.Rows
structure Callee (P:Program) (w:World) (K:FG) (mg:Str->Option Value) (base:Heap) (x:Str) (k:Nat) (ps:List Str) (sp:Sp):Prop where
  ex:∃ (f:Addr) (fd:FuncData),FnOk P w K mg base CX0 k f fd ps sp/\mg x=some (.ref f)/\PySem.W.keepIn K (.ref f)=true/\Binds K fd ps []
structure DefAt (K:FG) (mg:Str->Option Value) (x:Str) (st:Stmt) (f:Addr) (fd:FuncData):Prop where
  fn:Fun K x x st f fd
  mg:mg x=some (.ref f)
noncomputable def Def (K:FG) (mg:Str->Option Value) (x:Str) (st:Stmt):Prop:=∃ f fd,DefAt K mg x st f fd
theorem Def.callee {P:Program} {w:World} {K:FG} {mg:Str->Option Value} {base:Heap} {x:Str} {st:Stmt} {k:Nat} {ps:List Str} {sp:Sp} (D:Def K mg x st)
    (hb:∀ (kV doc pm:Value) (an:Option Addr) (cdv ct:Value) (us:List Value),us.length=ps.length->bindArgs (PySem.W.fnOf x x (bT st) (bq st) (aj st) .none kV doc pm an cdv ct) ⟨us,[]⟩=pure (ps.zip us))
    (h:∀ f fd,Fun K x x st f fd->FnOk P w K mg base CX0 k f fd ps sp):Callee P w K mg base x k ps sp :=
  let ⟨f,fd,d⟩:=D
  ⟨f,fd,h f fd d.fn,d.mg,d.fn.kp,d.fn.binds hb⟩
section
variable {X:Cx} {x:Str} {p pos:Pos} {e:Expr} {es:List Expr} {t:TA} {k:Nat} {ps:List Str} {sp:Sp}
noncomputable def tFn (sp:Sp) (t:TA):TE:=fun σ H Q=>t σ H fun vs H1=>sp vs H1 Q E0
theorem pe_fn (c:Callee X.prog X.w X.K X.mg X.base x k ps sp) (hr:Room k X.A) (ha:PA X (e :: es) t) (hg:Gl X x:=by rfl) (hdb:(x == ("__debug__":Str))=false:=by decide)
    (he:starEach (e :: es) X.env=(false,eval e X.env) :: starEach es X.env:=by rfl) (hpl:(backTo pos (starEach es X.env)).any (·.1)=false:=by rfl):PE X (.Call (.Name x p) (e :: es) [] pos) (tFn sp t):=by
  obtain ⟨f,fd,F,hm,hk,hb⟩:=c.ex
  have h:=zN (pos:=pos) (p:=p) (dvs:=[]) (E:=E0) F hr hg hm hk hb .nil pass0 ha hdb he hpl
  intro pins s σ H Q I q
  refine h pins s σ H Q I ?_
  show t σ H fun vs H1=>sp (vs ++ []) H1 Q E0
  have q':t σ H (fun vs H1=>sp vs H1 Q E0):=q
  simpa using q'
end
noncomputable def But (p:Addr) (H H':Hp):Prop:=∀ b o,H b=some o->b ≠ p->H' b=some o
theorem But.trans {p:Addr} {H H1 H2:Hp} (a:But p H H1) (b:But p H1 H2):But p H H2:=fun c o h n=>b c o (a c o h n) n
noncomputable abbrev Pt:=Int × Int
noncomputable def aM (p q r:Pt):Int:=(q.1 - p.1) * (r.2 - p.2) - (q.2 - p.2) * (r.1 - p.1)
noncomputable def Small (p:Pt):Prop:=-(2 ^ 62) < p.1/\p.1 < 2 ^ 62/\-(2 ^ 62) < p.2/\p.2 < 2 ^ 62
noncomputable def Rising (ps:List Pt):Prop:=∀ (i j:Nat) (p q:Pt),i < j->ps[i]?=some p->ps[j]?=some q->p.1 < q.1
noncomputable def NoLine (ps:List Pt):Prop:=∀ (i j k:Nat) (p q r:Pt),i < j->j < k->ps[i]?=some p->ps[j]?=some q->ps[k]?=some r->aM p q r ≠ 0
structure GoodSh (ps:List Pt):Prop where
  pos:0 < ps.length
  most:ps.length<=24
  small:∀ p ∈ ps,Small p
  rising:Rising ps
  noline:NoLine ps
noncomputable def kW:List Pt->List (Pt × Pt)
  | []=>[]
  | p :: r=>r.map (fun q=>(p,q)) ++ kW r
theorem nX:∀ {ps:List Pt} {i j:Nat} {p q:Pt},i < j->ps[i]?=some p->ps[j]?=some q->(p,q) ∈ kW ps
  | [],_,_,_,_,_,h,_=>by simp at h
  | a :: r,0,0,_,_,h,_,_=>by omega
  | a :: r,0,j+1,p,q,_,h1,h2=>by
    simp at h1 h2;subst h1
    exact C9 _ (Dk.mpr ⟨q,Di h2,rfl⟩)
  | a :: r,i+1,0,_,_,h,_,_=>by omega
  | a :: r,i+1,j+1,p,q,h,h1,h2=>Da _ (nX (ps:=r) (i:=i) (j:=j) (by omega) (by simpa using h1) (by simpa using h2))
theorem qt:∀ {ps:List Pt} {p q:Pt},(p,q) ∈ kW ps->∃ i j:Nat,i < j/\ps[i]?=some p/\ps[j]?=some q
  | [],_,_,h=>by simp [kW] at h
  | a :: r,p,q,h=>by
    rcases De.mp h with h | h
    · obtain ⟨z,hz,e⟩:=Dk.mp h
      cases e
      obtain ⟨j,hj,e⟩:=List.mem_iff_getElem.mp hz
      exact ⟨0,j+1,by omega,rfl,by simp [hj,e]⟩
    · obtain ⟨i,j,h0,h1,h2⟩:=qt h
      exact ⟨i+1,j+1,by omega,by simpa using h1,by simpa using h2⟩
theorem nR:∀ ps:List Pt,(kW ps).length<=ps.length * ps.length
  | []=>by simp [kW]
  | a :: r=>by
    have ih:=nR r
    simp only [kW,Dw,Dg,Dx]
    have:(r.length+1) * (r.length+1)=r.length * r.length+2 * r.length+1:=by
      rw [Nat.add_mul,Nat.mul_add];omega
    omega
noncomputable def we (ps:List Pt) (z:Pt):Prop:=∀ (i j:Nat) (p q:Pt),i < j->ps[i]?=some p->ps[j]?=some q->aM p q z ≠ 0
noncomputable def above (ps:List Pt) (x y:Int):Nat:=((kW ps).filter fun pr=>decide (aM pr.1 pr.2 (x,y)<=0)).length
theorem yq {α:Type} {p q:α->Bool}:∀ {l:List α},(∀ a ∈ l,p a=true->q a=true)->(l.filter p).length<=(l.filter q).length
  | [],_=>by simp
  | a :: l,h=>by
    have ih:=yq (l:=l) fun b hb=>h b (C6 _ hb)
    have ha:=h a C5
    cases hp:p a with
    | true=>rw [List.filter_cons_of_pos hp,List.filter_cons_of_pos (ha hp)];simpa using ih
    | false =>
      rw [List.filter_cons_of_neg (by simp [hp])]
      cases hq:q a with
      | true=>rw [List.filter_cons_of_pos hq];simp;omega
      | false=>rw [List.filter_cons_of_neg (by simp [hq])];exact ih
theorem yp {α:Type} {p q:α->Bool}:∀ {l:List α} {z:α},(∀ a ∈ l,p a=true->q a=true)->z ∈ l->q z=true->p z=false->(l.filter p).length < (l.filter q).length
  | [],_,_,hz,_,_=>by simp at hz
  | a :: l,z,h,hz,h1,h2=>by
    have hl:∀ b ∈ l,p b=true->q b=true:=fun b hb=>h b (C6 _ hb)
    rcases Db.mp hz with rfl | hz
    · rw [List.filter_cons_of_neg (by simp [h2]),List.filter_cons_of_pos h1]
      have:=yq hl
      simp;omega
    · have ih:=yp hl hz h1 h2
      have ha:=h a C5
      cases hp:p a with
      | true=>rw [List.filter_cons_of_pos hp,List.filter_cons_of_pos (ha hp)];simpa using ih
      | false =>
        rw [List.filter_cons_of_neg (by simp [hp])]
        cases hq:q a with
        | true=>rw [List.filter_cons_of_pos hq];simp;omega
        | false=>rw [List.filter_cons_of_neg (by simp [hq])];exact ih
theorem uy (p q:Pt) (x y:Int):aM p q (x,y+1)=aM p q (x,y)+(q.1 - p.1):=by
  unfold aM
  have e:(q.1 - p.1) * (y+1 - p.2)=(q.1 - p.1) * (y - p.2)+(q.1 - p.1):=by
    rw [show y+1 - p.2=(y - p.2)+1 by omega,Int.mul_add,Int.mul_one]
  show (q.1 - p.1) * (y+1 - p.2) - (q.2 - p.2) * (x - p.1)=(q.1 - p.1) * (y - p.2) - (q.2 - p.2) * (x - p.1)+(q.1 - p.1)
  rw [e];omega
theorem yH {ps:List Pt} {x y:Int} (R:Rising ps) {i j:Nat} {p q:Pt} (hij:i < j) (hi:ps[i]?=some p) (hj:ps[j]?=some q) (h0:aM p q (x,y)=0):above ps x (y+1) < above ps x y:=by
  refine yp (z:=(p,q)) (fun pr hpr h=>?_) (nX hij hi hj) (by simp [h0]) ?_
  · obtain ⟨i',j',h',e1,e2⟩:=qt (p:=pr.1) (q:=pr.2) hpr
    have:=R i' j' _ _ h' e1 e2
    have h:=of_decide_eq_true h
    rw [uy] at h
    exact Dr (by omega)
  · have:=R i j _ _ hij hi hj
    show decide (aM p q (x,y+1)<=0)=false
    rw [uy,h0]
    exact Ds (by omega)
theorem yI (ps:List Pt) (x y:Int):above ps x y<=ps.length * ps.length:=DI (List.length_filter_le _ _) (nR ps)
theorem eT {α:Type} {l:List α} {z a:α} {i:Nat} (h:(l ++ [z])[i]?=some a):(l[i]?=some a/\i < l.length)\/(a=z/\i=l.length):=by
  by_cases hi:i < l.length
  · rw [DE hi] at h;exact .inl ⟨h,hi⟩
  · rw [List.getElem?_append_right (by omega)] at h
    have:i - l.length=0:=by
      cases e:i - l.length with
      | zero=>rfl
      | succ n=>rw [e] at h;simp at h
    rw [this] at h;simp at h
    exact .inr ⟨h.symm,by omega⟩
theorem Rising.snoc {ps:List Pt} {z:Pt} (R:Rising ps) (h:∀ p ∈ ps,p.1 < z.1):Rising (ps ++ [z]):=fun i j p q hij h1 h2=>by
  rcases eT h1 with ⟨a1,b1⟩ | ⟨rfl,b1⟩
  · rcases eT h2 with ⟨a2,b2⟩ | ⟨rfl,b2⟩
    · exact R i j p q hij a1 a2
    · exact h p (Di a1)
  · rcases eT h2 with ⟨a2,b2⟩ | ⟨rfl,b2⟩
    · omega
    · omega
theorem NoLine.snoc {ps:List Pt} {z:Pt} (N:NoLine ps) (F:we ps z):NoLine (ps ++ [z]):=fun i j k p q r hij hjk h1 h2 h3=>by
  rcases eT h1 with ⟨a1,b1⟩ | ⟨rfl,b1⟩
  · rcases eT h2 with ⟨a2,b2⟩ | ⟨rfl,b2⟩
    · rcases eT h3 with ⟨a3,b3⟩ | ⟨rfl,b3⟩
      · exact N i j k p q r hij hjk a1 a2 a3
      · exact F i j p q hij a1 a2
    · rcases eT h3 with ⟨a3,b3⟩ | ⟨rfl,b3⟩ <;> omega
  · rcases eT h2 with ⟨a2,b2⟩ | ⟨rfl,b2⟩ <;> omega
section InBlock
variable {X:Cx} {NY:List Str} {scope:Scope} {s:Shared} {H:Hp} {C:Addr} {fp:List Addr}
end InBlock
end L2
end
section
namespace L2
open PySem PySem.Spec PyProof.Rows
mutual
inductive DV (K:FG) (H:Hp):V->PyData->Prop
  | non:DV K H .non .none
  | bl (b:Bool):DV K H (.bl b) (.bool b)
  | int (i:Int):DV K H (.int i) (.int i)
  | str (x:Str):DV K H (.str x) (.str x)
  | tup {a:Addr} {xs:List V} {ds:List PyData}:SqT K H a xs->DVs K H xs ds->DV K H (.ref a) (.tuple ds)
  | lst {a:Addr} {xs:List V} {ds:List PyData}:SqL K H a xs->DVs K H xs ds->DV K H (.ref a) (.list ds)
inductive DVs (K:FG) (H:Hp):List V->List PyData->Prop
  | nil:DVs K H [] []
  | cons {x:V} {d:PyData} {xs:List V} {ds:List PyData}:DV K H x d->DVs K H xs ds->DVs K H (x :: xs) (d :: ds)
end
section
variable {X:Cx} {pins:List (Addr × Obj)} {σ:St} {H:Hp} {s:Shared}
mutual
theorem DV.reads (I:Inv X pins σ H s):∀ {v:V} {d:PyData} {u:Value},DV X.K H v d->RelV v u->∃ as,Reads s.heap u d as
  | _,_,u,.non,r=>by cases (show u=Value.none from r);exact ⟨_,.none⟩
  | _,_,u,.bl b,r=>by cases (show u=Value.bool b from r);exact ⟨_,.bool b⟩
  | _,_,u,.int i,r=>by obtain ⟨t,rfl⟩:=r;exact ⟨_,.int i t⟩
  | _,_,u,.str x,r=>by obtain ⟨t,rfl⟩:=r;exact ⟨_,.str x t⟩
  | _,_,u,.tup (a:=a) h rs,r=>by
    cases (show u=Value.ref a from r)
    obtain ⟨its,rv,⟨o,e,c,n,d⟩,_⟩:=I.tuple h
    obtain ⟨as,q⟩:=DVs.reads I rs rv
    exact ⟨_,.tuple e c d (by simpa using q)⟩
  | _,_,u,.lst (a:=a) h rs,r=>by
    cases (show u=Value.ref a from r)
    obtain ⟨its,rv,⟨o,n,e,c,_,d⟩,_⟩:=I.list h
    obtain ⟨as,q⟩:=DVs.reads I rs rv
    exact ⟨_,.list e c d (by simpa using q)⟩
theorem DVs.reads (I:Inv X pins σ H s):∀ {v:List V} {d:List PyData} {us:List Value},DVs X.K H v d->Vals v us->∃ as,ReadsAll s.heap us d as
  | _,_,_,.nil,.nil=>⟨_,.nil⟩
  | _,_,_,.cons h r,.cons q t=>by
    obtain ⟨as,e1⟩:=DV.reads I h q
    obtain ⟨bs,e2⟩:=DVs.reads I r t
    exact ⟨_,.cons e1 e2⟩
end
end
end L2
end
section
namespace L2
open PySem PySem.Spec PyProof.Rows
end L2
end
section
namespace L2
open PySem PySem.Spec PyProof.Rows
end L2
end
section
namespace L2
open PySem PySem.Spec PyProof.Rows
end L2
end
section
namespace L2
open PySem PySem.Spec PyProof.Rows
end L2
end
section
namespace L2
open PySem PySem.Spec PyProof.Rows
section
variable {X:Cx}
theorem pd {ns:List Int} {us:List Value} (r:Vals (ns.map V.int) us):∃ xs:Array (Int × Tok),us.toArray=intItems xs/\ns=xs.toList.map (·.1):=by
  induction ns generalizing us with
  | nil=>cases r;exact ⟨#[],by simp [intItems],rfl⟩
  | cons n ns ih =>
    cases r with
    | cons q t =>
      obtain ⟨k,rfl⟩:=q
      obtain ⟨xs,e1,e2⟩:=ih t
      refine ⟨((n,k) :: xs.toList).toArray,?_,by simp [e2]⟩
      have e3:=congrArg Array.toList e1
      simp only [intItems,List.toList_toArray,Array.toList_map] at e3
      simp [intItems,e3]
theorem kA {xs:Array (Int × Tok)} {i:Nat} (h:i < xs.size):numAt xs i ∈ xs.toList.map (·.1):=by
  have e:(xs.toList.map (·.1))[i]?=some (numAt xs i):=by simp [numAt,h]
  exact Di e
theorem kB {xs:Array (Int × Tok)} {n:Int} (h:n ∈ xs.toList.map (·.1)):∃ i,i < xs.size/\numAt xs i=n:=by
  obtain ⟨i,hi,e⟩:=List.mem_iff_getElem.mp h
  have hi':i < xs.size:=by simpa using hi
  refine ⟨i,hi',?_⟩
  rw [<- e]
  simp [numAt,hi']
theorem vR (hc:X.calm=true):CallR X (.builtin "min") (fun xs H Q=>∃ (l:Addr) (ns:List Int),xs=[.ref l]/\SqL X.K H l (ns.map V.int)/\ns ≠ []/\∀ m,m ∈ ns->(∀ n ∈ ns,m<=n)->Q (.int m) H):=by
  intro pins s σ H xs us Q I r h
  obtain ⟨l,ns,rfl,hl,hn,q⟩:=h
  obtain ⟨u,rfl,ru⟩:=lP r
  cases (show u=Value.ref l from ru)
  obtain ⟨its,rv,p,hz⟩:=I.list hl
  obtain ⟨ys,e1,e2⟩:=pd rv
  have hs:0 < ys.size:=by
    have:=List.length_pos_iff.mpr hn
    rw [e2] at this
    simpa using this
  have pl:=p.isList
  rw [e1] at pl
  refine min_intList (I.ok.hd hc) pl hs fun v h' tk hv hk=>?_
  obtain ⟨t,rfl⟩:=intItems_at hv
  obtain ⟨b1,b2⟩:=argBest_lt (numAt ys) (ys.size - 1)
  refine ⟨.int _,H,I.kept hk,⟨t,rfl⟩,q _ (by rw [e2];exact kA (by omega)) fun n hm=>?_⟩
  rw [e2] at hm
  obtain ⟨i,hi,rfl⟩:=kB hm
  exact b2 i (by omega)
end
end L2
end
section
namespace L2
open PySem PySem.Spec PyProof.Rows
noncomputable def Bc (b:Option (Int × Tok)):Array Value:=match b with | none=>#[] | some p=>#[.int p.1 p.2,.int p.1 p.2]
noncomputable def pL (xs:Array (Int × Tok)) (j:Nat) (b:Option (Int × Tok)):Prop:=match b with
  | none=>j=0
  | some p=>(∃ i,i < j/\numAt xs i=p.1)/\∀ i,i < j->numAt xs i<=p.1
section
variable {prog:Program} {w:World} {A:Around} {R:Result->Shared->Prop}
theorem vi (hh:A.handled=none) {I l S:Addr} (hIl:l ≠ I) (hSI:S ≠ I) (hSl:S ≠ l) (xs:Array (Int × Tok)) (d:Value):∀ (k j:Nat) (s:Shared) (b:Option (Int × Tok)) (c:Nat),xs.size - j=k->j<=xs.size->s.heap.IsListIter I l j->s.heap.IsList l (intItems xs) ->
    s.heap.get? S=some { cls:=.type "list",dict:=none,data:=.seq (Bc b) c,slots:=#[] }->pL xs j b ->
    (∀ v h' tk,((xs.size=0/\v=d)\/∃ p:Int × Tok,v=.int p.1 p.2/\pL xs xs.size (some p))->(∀ a o,a ≠ I->a ≠ S->s.heap.get? a=some o->h'.get? a=some o)->R (.ok (.ret v)) { s with heap:=h',toks:=tk }) ->
    codeAny (model prog w) A (.builtin "max.loop" ⟨[.ref I,.none,.ref S],[("default",d)]⟩) R s:=by
  have nm:(toString "max" ++ toString ".loop":String) = "max.loop":=by decide
  intro k
  induction k with
  | zero =>
    intro j s b c hk hj hit hl hS hb fin
    obtain rfl:j=xs.size:=by omega
    refine codeAny_builtin F.entry_max_loop ?_
    rw [Around.under_plainId F.plain_max_loop _]
    show wpAny _ A.in1 (seqItems? (.ref S) >>= _) _ _ s
    refine C2 (wpAny_seqItems hS rfl ?_)
    show wpAny _ A.in1 (tryCatch (pyNext (.ref I)) _ >>= _) _ _ s
    refine C2 (wpAny_tryCatch (wpAny_pyNext_list_end (show A.in1.handled=none from hh) hit hl (by simp [intItems]) fun h' eb=>?_))
    cases b with
    | none =>
      have h0:xs.size=0:=hb
      show wpAny _ A.in1 (rule _ >>= fun _=>ret d) _ _ _
      exact C2 (wpAny_rule (C3 (fin d h' s.toks (.inl ⟨h0,rfl⟩) fun a o ha _ e=>eb a o ha e)))
    | some p =>
      have hS':=eb S _ hSI hS
      show wpAny _ A.in1 (updateSeq S (fun _=>#[]) >>= _) _ _ _
      refine C2 (wpAny_updateSeq hS' rfl (C2 (wpAny_letGo (C3 ?_))) (hz:=by show 2<=sizeLine;decide))
      exact fin _ _ s.toks (.inr ⟨p,rfl,hb⟩) fun a o ha hs e=>(DF _ _ (Ne.symm hs)).trans (eb a o ha e)
  | succ k ih =>
    intro j s b c hk hj hit hl hS hb fin
    have hlt:j < xs.size:=by omega
    obtain ⟨x,hx⟩:∃ x,xs[j]?=some x:=⟨xs[j],by simp [hlt]⟩
    have hv:(intItems xs)[j]?=some (.int x.1 x.2):=by simp [intItems,hx]
    have hnum:numAt xs j=x.1:=by simp [numAt,hx]
    refine codeAny_builtin F.entry_max_loop ?_
    rw [Around.under_plainId F.plain_max_loop _]
    show wpAny _ A.in1 (seqItems? (.ref S) >>= _) _ _ s
    refine C2 (wpAny_seqItems hS rfl ?_)
    show wpAny _ A.in1 (tryCatch (pyNext (.ref I)) _ >>= _) _ _ s
    refine C2 (wpAny_tryCatch (wpAny_pyNext_list_item hit hl hv fun h' hit' sb=>?_))
    have hS':h'.get? S=_:=(sb.2 S hSI).trans hS
    have hl':h'.IsList l (intItems xs):=hl.at fun o e=>(sb.2 l hIl).trans e
    have on:∀ (h2:Heap) (tk:Nat) (b':Option (Int × Tok)) (c':Nat),(∀ a o,a ≠ S->h'.get? a=some o->h2.get? a=some o)->h2.get? S=some { cls:=.type "list",dict:=none,data:=.seq (Bc b') c',slots:=#[] }->pL xs (j+1) b' ->
        codeAny (model prog w) A (.builtin "max.loop" ⟨[.ref I,.none,.ref S],[("default",d)]⟩) R { s with heap:=h2,toks:=tk }:=fun h2 tk b' c' k2 hS2 hb' =>
      ih (j+1) _ b' c' (by omega) hlt (hit'.at fun o e=>k2 I o (Ne.symm hSI) e) (hl'.at fun o e=>k2 l o (Ne.symm hSl) e) hS2 hb' fun v h3 tk' hv' k3=>fin v h3 tk' hv' fun a o ha hs e=>k3 a o ha hs (k2 a o hs ((sb.2 a ha).trans e))
    cases b with
    | none =>
      have h0:j=0:=hb
      show wpAny _ A.in1 (updateSeq S (fun _=>#[.int x.1 x.2,.int x.1 x.2]) >>= _) _ _ _
      refine C2 (wpAny_updateSeq hS' rfl ?_)
      rw [nm]
      refine C3 ⟨plainId_quiet F.plain_max_loop _,on _ s.toks (some x) _ (fun a o ha e=>(DF _ _ (Ne.symm ha)).trans e) (Dv _ hS' rfl) ⟨⟨j,by omega,hnum⟩,fun i hi=>?_⟩⟩
      obtain rfl:i=j:=by omega
      omega
    | some p =>
      obtain ⟨⟨i0,hi0,e0⟩,hle⟩:=hb
      show wpAny _ A.in1 (tryCatch (holding [.int x.1 x.2,.int x.1 x.2] (richCompare .Gt (.int x.1 x.2) (.int p.1 p.2) >>= _)) _ >>= _) _ _ _
      refine C2 (wpAny_tryCatch (C4 (C2 ?_)))
      refine (gt_int (a:=x.1) (b:=p.1) ?_:wpAny (model prog w) A.in1 (compareOp .Gt (.int x.1 x.2) (.int p.1 p.2)) _ _ _)
      refine C2 (C4 (DH (C2 (wpAny_letGo (C3 ?_)))))
      by_cases hgt:p.1 < x.1
      · rw [Dr hgt,if_pos rfl]
        refine C2 (wpAny_updateSeq hS' rfl (C2 (wpAny_letGo ?_)) (hz:=by show 2<=sizeLine;decide))
        rw [nm]
        refine C3 ⟨plainId_quiet F.plain_max_loop _,on _ s.toks (some x) _ (fun a o ha e=>(DF _ _ (Ne.symm ha)).trans e) (Dv _ hS' rfl) ⟨⟨j,by omega,hnum⟩,fun i hi=>?_⟩⟩
        by_cases hij:i=j
        · subst hij;omega
        · have:=hle i (by omega);omega
      · rw [Ds hgt,if_neg Dn]
        refine C2 (wpAny_letGo ?_)
        rw [nm]
        refine C3 ⟨plainId_quiet F.plain_max_loop _,on h' s.toks (some p) c (fun a o _ e=>e) hS' ⟨⟨i0,by omega,e0⟩,fun i hi=>?_⟩⟩
        by_cases hij:i=j
        · subst hij;omega
        · exact hle i (by omega)
end
end L2
end
section
namespace L2
open PySem PySem.Spec PyProof.Rows
section
variable {prog:Program} {w:World} {A:Around} {E:Value->Shared->Prop} {s:Shared} {l:Addr} {xs:Array (Int × Tok)}
theorem u8 {t:Addr} {h':Heap} (hk:∀ b o,b ∉ [s.heap.objs.size]->(s.heap.push { cls:=.type "tuple_iterator",data:=.fields #[.ref t,.int 0 0] }).get? b=some o->h'.get? b=some o) :
    ∀ b o,s.heap.get? b=some o->h'.get? b=some o:=fun b o e=>by
  refine hk b o (fun hm=>?_) (C7 _ e)
  rcases Db.mp hm with e1 | hm
  · exact absurd (e1 ▸ Dd e) (Nat.lt_irrefl _)
  · cases hm
theorem nk {t:Addr} {items:Array Value} {Q:Value->Shared->Prop} (ht:s.heap.IsTuple t items)
    (h:∀ s₂:Shared,s₂ = { s with heap:=s.heap.push { cls:=.type "tuple_iterator",data:=.fields #[.ref t,.int 0 0] } } ->
      (s₂.heap.IsTupleIter s.heap.objs.size t 0/\s₂.heap.IsTuple t items)->(∀ b ∈ [s.heap.objs.size,t],b < s₂.heap.objs.size)->t ≠ s.heap.objs.size->Q (.ref s.heap.objs.size) s₂) :
    wpAny (model prog w) A (pyIter (.ref t)) Q E s:=by
  have hlt:t < s.heap.objs.size:=by obtain ⟨_,e,_⟩:=ht;exact Dd e
  refine wpAny_pyIter_tuple ht (h _ rfl ⟨⟨_,Df _ rfl,rfl,rfl⟩,ht.push _⟩ (fun b hb=>?_) (Do hlt))
  show b < (s.heap.push _).objs.size
  rw [DG]
  rcases Db.mp hb with rfl | hb
  · exact Nat.lt_succ_self _
  · rcases Db.mp hb with rfl | hb
    · exact Nat.lt_succ_of_lt hlt
    · cases hb
theorem oZ {t:Addr} {Q:Value->Shared->Prop} (hh:A.handled=none) (hl:s.heap.IsTuple t (intItems xs)) (hne:0 < xs.size)
    (h:∀ v h' tk,(intItems xs)[argBest (fun i j=>decide (numAt xs i < numAt xs j)) (xs.size - 1)]?=some v->(∀ b o,s.heap.get? b=some o->h'.get? b=some o)->Q v { s with heap:=h',toks:=tk }) :
    wpAny (model prog w) A (call (.builtin "min") [.ref t]) Q E s:=by
  refine call_min_walk (nk hl fun s₂ e st hfp hlI=>?_)
  subst e
  refine ⟨_,_,_,_,_,_,_,rfl,Walks.tuple (A:=A.in1) hh _ t hlI (intItems xs),st,hfp,by simpa [intItems] using hne,CmpOf.ints_lt (numAt xs) (fun _ _=>intItems_at),fun v h' tk hP hk=>?_⟩
  exact h v h' tk (by simpa [intItems] using hP) (u8 hk)
end
section
variable {X:Cx}
theorem vP (hc:X.calm=true):CallR X (.builtin "min") (fun xs H Q=>∃ (l:Addr) (ns:List Int),xs=[.ref l]/\SqT X.K H l (ns.map V.int)/\ns ≠ []/\∀ m,m ∈ ns->(∀ n ∈ ns,m<=n)->Q (.int m) H):=by
  intro pins s σ H xs us Q I r h
  obtain ⟨l,ns,rfl,hl,hn,q⟩:=h
  obtain ⟨u,rfl,ru⟩:=lP r
  cases (show u=Value.ref l from ru)
  obtain ⟨its,rv,p,hz⟩:=I.tuple hl
  obtain ⟨ys,e1,e2⟩:=pd rv
  have hs:0 < ys.size:=by
    have:=List.length_pos_iff.mpr hn
    rw [e2] at this
    simpa using this
  have pl:s.heap.IsTuple l its.toArray:=p
  rw [e1] at pl
  refine oZ (I.ok.hd hc) pl hs fun v h' tk hv hk=>?_
  obtain ⟨t,rfl⟩:=intItems_at hv
  obtain ⟨b1,b2⟩:=argBest_lt (numAt ys) (ys.size - 1)
  refine ⟨.int _,H,I.kept hk,⟨t,rfl⟩,q _ (by rw [e2];exact kA (by omega)) fun n hm=>?_⟩
  rw [e2] at hm
  obtain ⟨i,hi,rfl⟩:=kB hm
  exact b2 i (by omega)
end
end L2
end
section
namespace L2
open PySem PySem.Spec PyProof.Rows
end L2
end
section
namespace L2
open PySem PySem.Spec PyProof.Rows
section
variable {prog:Program} {w:World} {A:Around} {E:Value->Shared->Prop} {s:Shared}
theorem jy {id:String} {b:Builtin} {args:List Value} {kw:List (Str × Value)} {Q:Value->Shared->Prop} (hk:builtinKind id=none) (hp:plainId id=true)
    (hb:entryFor table id=some b) (ha:argsOk id ⟨args,kw⟩)
    (hc:wpAny (model prog w) A.in1 (b ⟨args,kw⟩) (fun fin s'=>match fin with
      | .done f=>(match (Except.ok f:Result) with | .ok (.ret v)=>Q v s' | .ok _=>False | .error e=>E e s')
      | .again c'=>c'.quiet=true/\codeAny (model prog w) A c' (fun r s'=>match r with | .ok (.ret v)=>Q v s' | .ok _=>False | .error e=>E e s') s') E s) :
    wpAny (model prog w) A (call (.builtin id) args kw) Q E s:=by
  refine wpAny_call (codeAny_call_builtin hp hb ?_)
  simp only [checkBuiltinCall,hk]
  cases hsig:Manifest.signature? id with
  | none=>exact C3 hc
  | some sig =>
    simp only [argsOk,hsig] at ha
    have h2:Bind.checkArgs id sig ⟨args,kw⟩=pure ():=ha
    show wpAny _ A.in1 (Bind.checkArgs id sig ⟨args,kw⟩) _ _ s
    rw [h2];exact C3 hc
theorem vZ (a d:Value):argsOk "max" ⟨[a],[("default",d)]⟩:=by unfold argsOk;kernel_rfl
theorem vU {l:Addr} {xs:Array (Int × Tok)} {d:Value} {Q:Value->Shared->Prop} (hh:A.handled=none) (hl:s.heap.IsList l (intItems xs))
    (h:∀ v h' tk,((xs.size=0/\v=d)\/∃ p:Int × Tok,v=.int p.1 p.2/\pL xs xs.size (some p))->(∀ b o,s.heap.get? b=some o->h'.get? b=some o)->Q v { s with heap:=h',toks:=tk }) :
    wpAny (model prog w) A (call (.builtin "max") [.ref l] [("default",d)]) Q E s:=by
  have hname:(toString "max" ++ toString ".loop":String) = "max.loop":=by decide
  refine jy F.kind_max F.plain_max F.entry_max (vZ _ _) ?_
  show wpAny _ A.in1 (Builtin.Builtins.bindParams "max" ["key","default"] 0 ⟨[],[("default",d)]⟩ >>= _) _ _ s
  refine C2 (wpAny_of_eq (show Builtin.Builtins.bindParams "max" ["key","default"] 0 ⟨[],[("default",d)]⟩=pure [none,some d] from rfl) ?_)
  refine C2 (C3 ?_)
  refine C2 (iter_intList hl fun s₂ e st hfp hlI=>?_)
  subst e
  refine C2 (wpAny_newObj_type ?_)
  rw [hname]
  have hlt:l < s.heap.objs.size:=by obtain ⟨_,e,_⟩:=hl;exact Dd e
  have hsz:(s.heap.push { cls:=.type "list_iterator",data:=.fields #[.ref l,.int 0 0] }).objs.size=s.heap.objs.size+1:=DG _ _
  have a1:(s.heap.push { cls:=.type "list_iterator",data:=.fields #[.ref l,.int 0 0] }).objs.size ≠ s.heap.objs.size:=by rw [hsz];exact Nat.succ_ne_self _
  have a2:(s.heap.push { cls:=.type "list_iterator",data:=.fields #[.ref l,.int 0 0] }).objs.size ≠ l:=by rw [hsz];exact Nat.ne_of_gt (Nat.lt_succ_of_lt hlt)
  refine C3 ⟨plainId_quiet F.plain_max_loop _,vi (A:=A) hh hlI a1 a2 xs d xs.size 0 _ none 0 (by omega) (by omega)
    (st.1.at fun o e=>C7 _ e) (st.2.at fun o e=>C7 _ e) (Df _ rfl) rfl fun v h' tk hv hk=>?_⟩
  refine h v h' tk hv fun b o e=>hk b o (fun q=>?_) (fun q=>?_) (C7 _ (C7 _ e))
  · exact absurd q (Do (Dd e))
  · exact absurd (q.trans hsz) (Do (Nat.lt_succ_of_lt (Dd e)))
end
section
variable {X:Cx}
theorem mZ {ns:List Int} {xs:Array (Int × Tok)} (e:ns=xs.toList.map (·.1)):xs.size=0 ↔ ns=[]:=by
  rw [e];simp
noncomputable def tN (K:FG) (P:List Int->Int->Prop) (x d:V) (H:Hp) (Q:VK):Prop:=∃ (l:Addr) (ns:List Int),x=.ref l/\SqL K H l (ns.map V.int)/\(ns=[]->Q d H)/\∀ m,m ∈ ns->P ns m->Q (.int m) H
theorem wM (hc:X.calm=true) {pins:List (Addr × Obj)} {s:Shared} {σ:St} {H:Hp} {x d:V} {u ud:Value} {Q:VK} (I:Inv X pins σ H s) (rx:RelV x u) (rd:RelV d ud) (h:tN X.K (fun ns m=>∀ n ∈ ns,n<=m) x d H Q) :
    wpAny (model X.prog X.w) X.A (call (.builtin "max") [u] [("default",ud)]) (EP X pins σ Q) X.xe s:=by
  obtain ⟨l,ns,rfl,hl,h0,h1⟩:=h
  cases (show u=Value.ref l from rx)
  obtain ⟨its,rv,p,hz⟩:=I.list hl
  obtain ⟨ys,e1,e2⟩:=pd rv
  have pl:=p.isList
  rw [e1] at pl
  refine vU (I.ok.hd hc) pl fun v h' tk hv hk=>?_
  rcases hv with ⟨hs,rfl⟩ | ⟨q,rfl,⟨⟨i,hi,hq⟩,hle⟩⟩
  · exact ⟨d,H,I.kept hk,rd,h0 ((mZ e2).mp hs)⟩
  · refine ⟨.int q.1,H,I.kept hk,⟨q.2,rfl⟩,h1 _ (by rw [e2,<- hq];exact kA hi) fun n hm=>?_⟩
    rw [e2] at hm
    obtain ⟨j,hj,rfl⟩:=kB hm
    exact hle j hj
noncomputable def tKw1 (r:V->V->Hp->VK->Prop) (te td:TE):TE:=fun σ H Q=>te σ H fun x H1=>td σ H1 fun d H2=>r x d H2 Q
theorem B8 {id:String} {nm:Str} {e d:Expr} {te td:TE} {p pos kpos:Pos} {r:V->V->Hp->VK->Prop} (hrun:∀ {pins:List (Addr × Obj)} {s:Shared} {σ:St} {H:Hp} {x d:V} {u ud:Value} {Q:VK},Inv X pins σ H s->RelV x u->RelV d ud->r x d H Q->wpAny (model X.prog X.w) X.A (call (.builtin id) [u] [("default",ud)]) (EP X pins σ Q) X.xe s)
    (hg:Gl X nm) (hm:X.mg nm=none) (hv:bootBuiltins nm=some (.builtin id)) (he:PE X e te) (hd:PE X d td) (hn:nm ≠ "__name__") (hdb:(nm == ("__debug__":Str))=false)
    (hs:backTo pos (starEach [e] X.env)=(false,eval e X.env) :: backTo pos (starEach [] X.env)) (hs0:backTo pos (starEach [] X.env)=[]) (hplain:(backTo pos (starEach [e] X.env)).any (·.1)=false)
    (hall:(backToKw pos (keywordEach [⟨some "default",d,kpos⟩] X.env)).all (·.1.isSome)=true) (hkw:(backToKw pos (keywordEach [⟨some "default",d,kpos⟩] X.env)).any (·.1.isNone)=false) (hks:(backToKw pos (keywordEach [⟨some "default",d,kpos⟩] X.env)).filterMap (·.1)=(["default"]:List Str)) :
    PE X (.Call (.Name nm p) [e] [⟨some "default",d,kpos⟩] pos) (tKw1 r te td):=by
  intro pins s σ H Q I h
  refine wpAny_Call_Name_kw (hU I hg hm hv ?_ hn hdb)
  refine PyProof.Rows.callWith_kw ?_ hs hplain hall hkw
  rw [hs,hs0]
  refine Calls.spliced_cons (thn (he pins s σ H _ I h) fun u s1 ⟨x,H1,I1,r1,q1⟩=>Calls.spliced_nil ?_)
  refine thn (zH (nm:=some "default") (kpos:=kpos) hd B0 pos pins s1 σ H1 (fun vs H2=>match vs with | [d]=>r x d H2 Q | _=>False) I1 q1) fun us s2 ⟨xs,H2,I2,r2,q2⟩=>?_
  match xs,q2,r2 with
  | [d'],q2,r2 =>
    rw [hks]
    obtain ⟨ud,rfl,rd⟩:=lP r2
    exact hrun I2 r1 rd q2
end
end L2
end
section
namespace L2
open PySem PySem.Spec PyProof.Rows
noncomputable def Itd (hi:Int) (n:Nat):It:=⟨fun i _=>i < n,fun i H x H'=>H'=H/\x=.int (hi - i),fun i _=>n<=i⟩
theorem pR {P:Program} {w:World} {K:FG} {tg:Expr} (it:Addr) (hi:Int) (n:Nat):Turn P w K tg (Itd hi n) [it] it (fun i h=>IsRangeIter h it (hi+(i:Nat) * (-1)) ((n:Int) - (i:Nat)) (-1)) where
  mem:=by simp
  obj:=fun i h st b hb=>by
    have e:b=it:=by simpa using hb
    subst e
    exact ⟨_,st,fun v z=>by
      have z':Data.fields _=Data.cell v:=z
      cases z'⟩
  keep:=fun i h h' st k=>k it (by simp) _ st
  item:=by
    intro X hP hw hK hc i pins s σ H E I hf st hg
    subst hP hw hK
    obtain ⟨f0,f1,f2,f3,f4,f5⟩:=hf it (by simp)
    have W:=Walks.range (prog:=X.prog) (w:=X.w) (I.ok.hd hc) it hi (-1) n
    refine W.item i s _ _ hg st fun v h' tk hv st' kk=>?_
    obtain ⟨t,rfl⟩:=hv
    have I1:Inv X pins σ H { s with heap:=h',toks:=tk }:=I.turned (fun b o hb e=>kk b o (by simpa using hb) e) f0 f1 f3 f4 f5
    refine ⟨_,rfl,qK (s:={ s with heap:=h',toks:=tk }) (n:="range_iterator") st' rfl rfl (by decide) ⟨.int (hi - i),H,I1,⟨t,?_⟩,⟨rfl,rfl⟩,st',fun b hb=>(hf b hb).1⟩⟩
    rw [show hi+(i:Int) * (-1)=hi - i by omega]
  done:=by
    intro X hP hw hK hc i pins s σ H E I hf st hg
    subst hP hw hK
    obtain ⟨f0,f1,f2,f3,f4,f5⟩:=hf it (by simp)
    exact wpAny_pyNext_range_end (I.ok.hd hc) st (by have:n<=i:=hg;omega) fun h' eb=>⟨rfl,I.turned (t':=s.toks) (fun b o hb e=>eb b o hb e) f0 f1 f3 f4 f5⟩
  self:=fun _ _ _ _ _ st h=>wpAny_pyIter_rangeiter st h
section
variable {X:Cx} {tg:Expr}
theorem iL (a b:Int):Builtin.Range.rangeSize a b (-1)=if a > b then a - b else 0:=by
  unfold Builtin.Range.rangeSize
  rw [if_neg (by decide)]
  split
  · rw [show (a - b - 1) / (- (-1:Int))=a - b - 1 by simp];omega
  · rfl
theorem rG {a b:Int} (h1:-(2 ^ 62)<=a) (h2:a < 2 ^ 62) (h3:-(2 ^ 62)<=b) (h4:b < 2 ^ 62):Builtin.Range.small a b (-1)=true:=by
  unfold Builtin.Range.small
  rw [iL]
  have n1:¬ ((-1:Int) > 0):=by decide
  simp only [Builtin.Range.rangeFitsLong,Bool.and_eq_true,Bool.or_eq_true,decide_eq_true_eq,beq_iff_eq,n1,if_false]
  split <;> omega
noncomputable def A5 (ta:TA):TI:=fun σ H R=>ta σ H fun vs H1=>∃ i j:Int,vs=[.int i,.int j,.int (-1)]/\(-(2 ^ 62)<=i/\i < 2 ^ 62/\-(2 ^ 62)<=j/\j < 2 ^ 62)/\R (Itd i (i - j).toNat) H1
theorem uY {pins:List (Addr × Obj)} {σ:St} {H:Hp} {s:Shared} {R:It->Hp->Prop} {E:Value->Shared->Prop} {lo hi:Int} {t u v:Tok} {tk:Nat} (I:Inv X pins σ H s) (h1:-(2 ^ 62)<=lo) (h2:lo < 2 ^ 62) (h3:-(2 ^ 62)<=hi) (h4:hi < 2 ^ 62)
    (q:R (Itd lo (lo - hi).toNat) H):wpAny (model X.prog X.w) X.A (pyIter (.ref s.heap.objs.size)) (PIE X pins σ tg R) E { s with heap:=s.heap.push { cls:=.type "range",data:=.fields #[.int lo t,.int hi u,.int (-1) v] },toks:=tk }:=by
  refine wpAny_pyIter_range (IsRange.new ..) (rG h1 h2 h3 h4) ?_
  have I1:Inv X pins σ H { s with heap:=s.heap.push { cls:=.type "range",data:=.fields #[.int lo t,.int hi u,.int (-1) v] },toks:=tk }:=I.kept fun b o e=>C7 _ e
  refine ⟨(s.heap.push { cls:=.type "range",data:=.fields #[.int lo t,.int hi u,.int (-1) v] }).objs.size,[(s.heap.push { cls:=.type "range",data:=.fields #[.int lo t,.int hi u,.int (-1) v] }).objs.size],_,_,H,rfl,
    I1.kept (t':=tk) fun b o e=>C7 _ e,pR _ lo (lo - hi).toNat,?_,fun b hb=>?_,q⟩
  · have e1:lo+((0:Nat):Int) * (-1)=lo:=by simp
    have e2:(((lo - hi).toNat:Nat):Int) - ((0:Nat):Int)=Builtin.Range.rangeSize lo hi (-1):=by rw [iL];split <;> omega
    show IsRangeIter _ _ (lo+((0:Nat):Int) * (-1)) ((((lo - hi).toNat:Nat):Int) - ((0:Nat):Int)) (-1)
    rw [e1,e2]
    exact Df _ rfl
  · have e:b=(s.heap.push { cls:=.type "range",data:=.fields #[.int lo t,.int hi u,.int (-1) v] }).objs.size:=by simpa using hb
    subst e
    exact I1.fpOk (Dm _) (I1.hok.fresh (Dm _))
theorem u3 {a b c:Expr} {ta:TA} {p pos:Pos} (hg:Gl X "range") (hm:X.mg "range"=none) (ha:PA X [a,b,c] ta) (hs:starEach [a,b,c] X.env=(false,eval a X.env) :: starEach [b,c] X.env) (hpl:(backTo pos (starEach [b,c] X.env)).any (·.1)=false) :
    PI X tg (.Call (.Name "range" p) [a,b,c] [] pos) (A5 ta):=by
  intro pins s σ H R I h
  refine Call_ (hU I hg hm boot_range (PyProof.Rows.callWith_type1 (thn (ha pos pins s σ H _ I h) fun us s1 ⟨vs,H1,I1,r1,q1⟩=>?_) hs hpl))
  obtain ⟨i,j,e,⟨q1,q2,q3,q4⟩,q⟩:=q1
  subst e
  cases r1 with
  | cons r rr =>
    cases rr with
    | cons r' rr =>
      cases rr with
      | cons r'' rr =>
        cases rr
        obtain ⟨t,rfl⟩:=r
        obtain ⟨t',rfl⟩:=r'
        obtain ⟨t'',rfl⟩:=r''
        exact call_range_3 (by decide) (uY I1 q1 q2 q3 q4 q) (.inl (PyProof.noPylong_small (by decide)))
end
end L2
end
section
namespace PySem
open Sem (wp)
noncomputable def RawAt (h:Heap) (d:Addr) (es:Array DictEntry) (ep:Nat):Prop:=∃ o,h.get? d=some o/\o.ExactDict/\o.data=.dict es ep
section
variable {prog:Program} {w:World} {A:Around} {E:Value->Shared->Prop} {s:Shared}
theorem RawAt.typeIs {d:Addr} {es:Array DictEntry} {ep:Nat} (x:RawAt s.heap d es ep):s.TypeIs (.ref d) "dict":=let ⟨o,ho,hc,_⟩:=x;⟨o,ho,hc.1⟩
theorem qm {it d:Addr} {i ep:Nat} {es:Array DictEntry} {Q:Option Value->Shared->Prop} (hit:s.heap.IsKeyIter it d i es.size ep)
    (hm:RawAt s.heap d es ep) (hx:i < es.size)
    (hQ:∀ h',h'.IsKeyIter it d (i+1) es.size ep->Heap.SameBut it s.heap h'->Q (some es[i].key) { s with heap:=h' }) :
    wpAny (model prog w) A (pyNext (.ref it)) Q E s:=by
  have ty:=hit.typeIs
  obtain ⟨⟨c1,d1,x1,s1⟩,h1,e1,e2⟩:=hit
  obtain ⟨⟨c2,d2,x2,s2⟩,h2,_,e4⟩:=hm
  obtain ⟨hp,g,dr,tk,os⟩:=s
  simp only at e1 e2 e4
  subst e1 e2 e4
  have hi:(if (i:Int) < 0 then none else es[(i:Int).toNat]?)=some es[i]:=by simp [hx]
  unfold pyNext
  refine C2 (wpAny_attempt (wpAny_callSpecial?_slot ty F.slot_dict_keyiterator_next
    (wpAny_call_entry F.slot_dict_keyiterator_next ty F.entry_dict_keyiterator_next ?_ (F.args_dict_keyiterator_next_1 _))))
  wp_walk
  rw [hi]
  wp_walk
  exact ⟨_,rfl,C3 (hQ _ ⟨_,Dv _ h1 rfl,rfl,rfl⟩ (Heap.SameBut.update ..))⟩
theorem r0 {it d:Addr} {i ep:Nat} {es:Array DictEntry} {Q:Option Value->Shared->Prop} (hh:A.handled=none) (hit:s.heap.IsKeyIter it d i es.size ep)
    (hm:RawAt s.heap d es ep) (hx:es.size<=i)
    (hQ:∀ h',Heap.ExtBut it s.heap h'->Q none { s with heap:=h' }):wpAny (model prog w) A (pyNext (.ref it)) Q E s:=by
  have ty:=hit.typeIs
  obtain ⟨⟨c1,d1,x1,s1⟩,h1,e1,e2⟩:=hit
  obtain ⟨⟨c2,d2,x2,s2⟩,h2,_,e4⟩:=hm
  obtain ⟨hp,g,dr,tk,os⟩:=s
  simp only at e1 e2 e4
  subst e1 e2 e4
  have hi:(if (i:Int) < 0 then none else es[(i:Int).toNat]?)=none:=by simp [hx]
  have hh':A.in1.handled=none:=hh
  unfold pyNext
  refine C2 (wpAny_attempt (wpAny_callSpecial?_slot ty F.slot_dict_keyiterator_next
    (wpAny_call_entry F.slot_dict_keyiterator_next ty F.entry_dict_keyiterator_next ?_ (F.args_dict_keyiterator_next_1 _))))
  wp_walk
  rw [hi]
  wp_walk
  refine wpAny_raiseNew_none hh' ?_
  refine C2 (wpAny_isInstance (v:=.ref _) (T:="StopIteration") (b:=true) ?_ isSubtype_stop ?_)
  · exact ⟨_,Df _ rfl,rfl⟩
  · exact C3 (hQ _ (((Heap.SameBut.update ..).extBut.push _).push _))
theorem ql {it d:Addr} {i ep:Nat} {es:Array DictEntry} {Q:Option Value->Shared->Prop} (hit:s.heap.IsValIter it d i es.size ep)
    (hm:RawAt s.heap d es ep) (hx:i < es.size)
    (hQ:∀ h',h'.IsValIter it d (i+1) es.size ep->Heap.SameBut it s.heap h'->Q (some es[i].val) { s with heap:=h' }) :
    wpAny (model prog w) A (pyNext (.ref it)) Q E s:=by
  have ty:=hit.typeIs
  obtain ⟨⟨c1,d1,x1,s1⟩,h1,e1,e2⟩:=hit
  obtain ⟨⟨c2,d2,x2,s2⟩,h2,_,e4⟩:=hm
  obtain ⟨hp,g,dr,tk,os⟩:=s
  simp only at e1 e2 e4
  subst e1 e2 e4
  have hi:(if (i:Int) < 0 then none else es[(i:Int).toNat]?)=some es[i]:=by simp [hx]
  unfold pyNext
  refine C2 (wpAny_attempt (wpAny_callSpecial?_slot ty F.slot_dict_valueiterator_next
    (wpAny_call_entry F.slot_dict_valueiterator_next ty F.entry_dict_valueiterator_next ?_ (F.args_dict_valueiterator_next_1 _))))
  wp_walk
  rw [hi]
  wp_walk
  exact ⟨_,rfl,C3 (hQ _ ⟨_,Dv _ h1 rfl,rfl,rfl⟩ (Heap.SameBut.update ..))⟩
theorem rZ {it d:Addr} {i ep:Nat} {es:Array DictEntry} {Q:Option Value->Shared->Prop} (hh:A.handled=none) (hit:s.heap.IsValIter it d i es.size ep)
    (hm:RawAt s.heap d es ep) (hx:es.size<=i)
    (hQ:∀ h',Heap.ExtBut it s.heap h'->Q none { s with heap:=h' }):wpAny (model prog w) A (pyNext (.ref it)) Q E s:=by
  have ty:=hit.typeIs
  obtain ⟨⟨c1,d1,x1,s1⟩,h1,e1,e2⟩:=hit
  obtain ⟨⟨c2,d2,x2,s2⟩,h2,_,e4⟩:=hm
  obtain ⟨hp,g,dr,tk,os⟩:=s
  simp only at e1 e2 e4
  subst e1 e2 e4
  have hi:(if (i:Int) < 0 then none else es[(i:Int).toNat]?)=none:=by simp [hx]
  have hh':A.in1.handled=none:=hh
  unfold pyNext
  refine C2 (wpAny_attempt (wpAny_callSpecial?_slot ty F.slot_dict_valueiterator_next
    (wpAny_call_entry F.slot_dict_valueiterator_next ty F.entry_dict_valueiterator_next ?_ (F.args_dict_valueiterator_next_1 _))))
  wp_walk
  rw [hi]
  wp_walk
  refine wpAny_raiseNew_none hh' ?_
  refine C2 (wpAny_isInstance (v:=.ref _) (T:="StopIteration") (b:=true) ?_ isSubtype_stop ?_)
  · exact ⟨_,Df _ rfl,rfl⟩
  · exact C3 (hQ _ (((Heap.SameBut.update ..).extBut.push _).push _))
theorem oO {d:Addr} {es:Array DictEntry} {ep:Nat} {Q:Value->Shared->Prop} (hd:(d == sysModules)=false) (hm:RawAt s.heap d es ep)
    (hQ:Q (.ref s.heap.objs.size) { s with heap:=s.heap.push { cls:=.type "dict_keyiterator",data:=.fields #[.ref d,.int 0 0,.int es.size 0,.int ep 0] } }) :
    wpAny (model prog w) A (pyIter (.ref d)) Q E s:=by
  have ty:=hm.typeIs
  obtain ⟨⟨c2,d2,x2,s2⟩,h2,e3,e4⟩:=hm
  obtain ⟨hp,g,dr,tk,os⟩:=s
  obtain ⟨e5,_⟩:=e3
  simp only at e4 e5
  subst e4 e5
  refine wpAny_pyIter_slot ty F.slot_dict_iter (wpAny_call_entry F.slot_dict_iter ty F.entry_dict_iter ?_ (F.args_dict_iter_1 _))
  wp_walk
  exact ⟨_,rfl,"dict_keyiterator",_,⟨_,Df _ rfl,rfl⟩,F.slot_dict_keyiterator_next.lookup,hQ⟩
theorem lj (d:Addr) (hd:(d == sysModules)=false) :
    MeetsIn prog w (Builtin.«dict.values» ⟨[.ref d],[]⟩) (fun _ R s=>(∃ es ep,RawAt s.heap d es ep) /\
      R (.ok (.ret (.ref s.heap.objs.size))) { s with heap:=s.heap.push { cls:=.type "dict_values",data:=.fields #[.ref d] } }) :=
  .of_wp fun A R s ⟨⟨es,ep,hm⟩,h⟩=>by
    have ty:=hm.typeIs
    obtain ⟨⟨c2,d2,x2,s2⟩,h2,e3,e4⟩:=hm
    obtain ⟨hp,g,dr,tk,os⟩:=s
    obtain ⟨e5,_⟩:=e3
    simp only at e4 e5
    subst e4 e5
    wp_walk
    exact ⟨_,rfl,h⟩
theorem mf {v d:Addr} {es:Array DictEntry} {ep:Nat} {Q:Value->Shared->Prop} (hv:s.heap.IsValuesView v d) (hm:RawAt s.heap d es ep)
    (hQ:Q (.ref s.heap.objs.size) { s with heap:=s.heap.push { cls:=.type "dict_valueiterator",data:=.fields #[.ref d,.int 0 0,.int es.size 0,.int ep 0] } }) :
    wpAny (model prog w) A (pyIter (.ref v)) Q E s:=by
  have ty:=hv.typeIs
  obtain ⟨⟨c1,d1,x1,s1⟩,h1,e1,e2⟩:=hv
  obtain ⟨⟨c2,d2,x2,s2⟩,h2,_,e4⟩:=hm
  obtain ⟨hp,g,dr,tk,os⟩:=s
  simp only at e1 e2 e4
  subst e1 e2 e4
  refine wpAny_pyIter_slot ty F.slot_dict_values_iter (wpAny_call_entry F.slot_dict_values_iter ty F.entry_dict_values_iter ?_ (F.args_dict_values_iter_1 _))
  wp_walk
  exact ⟨_,rfl,"dict_valueiterator",_,⟨_,Df _ rfl,rfl⟩,F.slot_dict_valueiterator_next.lookup,hQ⟩
end
end PySem
end
section
namespace L2
open PySem PySem.Spec PyProof.Rows
theorem mn {α β:Type} {F:α->β->Prop}:∀ {l₁:List α} {l₂:List β},Paired F l₁ l₂->∀ {i:Nat} {a:α},l₁[i]?=some a->∃ b,l₂[i]?=some b/\F a b
  | _,_,.nil,i,a,h=>by simp at h
  | _,_,.cons r t,0,a,h=>by
    simp only [List.getElem?_cons_zero,Option.some.injEq] at h
    subst h
    exact ⟨_,rfl,r⟩
  | _,_,.cons r t,i+1,a,h=>by
    simp only [List.getElem?_cons_succ] at h
    exact mn t h
theorem Rd.dT_inj {H:Hp} {a:Addr} {x y:List (List Key × V)} (h:Rd H a (.dT x)) (h':Rd H a (.dT y)):x=y:=by
  rcases h with h | ⟨o,h⟩ <;> rcases h' with h' | ⟨o',h'⟩ <;> rw [h] at h' <;> cases h' <;> rfl
section
variable {P:Program} {w:World} {H:Hp} {h:Heap} {a:Addr}
theorem mQ {kvs:List (List Key × V)} (ok:HOk P w H h) (e:Rd H a (.dT kvs)):(a == sysModules)=false/\∃ es:Array DictEntry,RawAt h a es es.size/\es.size=kvs.length /\
    ∀ i (hi:i < es.size) kv,kvs[i]?=some kv->∃ b,es[i].key=.ref b/\H b=some (.tup (kv.1.map kV))/\RelV kv.2 es[i].val:=by
  obtain ⟨z,y,xs,r,o,es,ep,h1,h2,h3,h4,h5,h6,rfl⟩:=sN ok e
  have hl:es.size=xs.length:=by rw [<- Array.length_toList,h4,Dg]
  refine ⟨y,es,⟨o,h1,h2,h3⟩,by rw [hl,<- Paired.length r],fun i hi kv hk=>?_⟩
  obtain ⟨q,hq,f1,f2,f3⟩:=mn r hk
  have hx:es.toList[i]?=some (entryOfKey (tupleKind (bH P w)) q):=by rw [h4,Dl,hq];rfl
  have hx':es[i]=entryOfKey (tupleKind (bH P w)) q:=by
    rw [Array.getElem?_toList,Array.getElem?_eq_getElem hi] at hx
    exact DO hx
  rw [hx']
  exact ⟨q.2.1,rfl,f2,f3⟩
end
noncomputable def Itk (a:Addr) (n:Nat):It:=⟨fun i H=>∃ kvs,Rd H a (.dT kvs)/\kvs.length=n/\i < n,
  fun i H x H'=>H'=H/\∀ kvs kv,Rd H a (.dT kvs)->kvs[i]?=some kv->∃ b,x=.ref b/\H b=some (.tup (kv.1.map kV)),fun i H=>∃ kvs,Rd H a (.dT kvs)/\kvs.length=n/\n<=i⟩
theorem uK {P:Program} {w:World} {K:FG} {tg:Expr} (a it:Addr) (n:Nat):Turn P w K tg (Itk a n) [it] it (fun i h=>h.IsKeyIter it a i n n) where
  mem:=by simp
  obj:=fun i h st b hb=>by
    have e:b=it:=by simpa using hb
    subst e
    obtain ⟨o,e,c,d⟩:=st
    exact ⟨o,e,fun v z=>by rw [d] at z;cases z⟩
  keep:=fun i h h' st k=>st.at fun o e=>k it (by simp) o e
  item:=by
    intro X hP hw hK hc i pins s σ H E I hf st hg
    subst hP hw hK
    obtain ⟨kvs,hq,hn,hi⟩:=hg
    obtain ⟨y,es,raw,sz,ent⟩:=mQ I.hok hq
    obtain rfl:n=es.size:=by omega
    obtain ⟨f0,f1,f2,f3,f4,f5⟩:=hf it (by simp)
    obtain ⟨kv,hkv⟩:∃ kv,kvs[i]?=some kv:=⟨kvs[i]'(by omega),Dc _⟩
    obtain ⟨b,b1,b2,b3⟩:=ent i hi kv hkv
    refine qm st raw hi fun h' st' sb=>?_
    have I1:Inv X pins σ H { s with heap:=h' }:=I.turned (t':=s.toks) (fun b o hb e=>(sb.2 b hb).trans e) f0 f1 f3 f4 f5
    obtain ⟨o,e,c,d⟩:=id st'
    refine ⟨_,rfl,qK (s:={ s with heap:=h' }) e c d (by decide) ⟨.ref b,H,I1,b1,⟨rfl,fun kvs' kv' hq' hk'=>?_⟩,st',fun b hb=>(hf b hb).1⟩⟩
    rw [hq'.dT_inj hq,hkv] at hk'
    cases hk'
    exact ⟨b,rfl,b2⟩
  done:=by
    intro X hP hw hK hc i pins s σ H E I hf st hg
    subst hP hw hK
    obtain ⟨kvs,hq,hn,hi⟩:=hg
    obtain ⟨y,es,raw,sz,ent⟩:=mQ I.hok hq
    obtain rfl:n=es.size:=by omega
    obtain ⟨f0,f1,f2,f3,f4,f5⟩:=hf it (by simp)
    exact r0 (I.ok.hd hc) st raw hi fun h' eb=>⟨rfl,I.turned (t':=s.toks) (fun b o hb e=>eb b o hb e) f0 f1 f3 f4 f5⟩
  self:=fun _ _ _ _ _ st h=>wpAny_pyIter_keyiter st h
noncomputable def A8 (tl:TE):TI:=fun σ H R=>tl σ H fun x H1=>∃ a kvs,x=.ref a/\Rd H1 a (.dT kvs)/\R (Itk a kvs.length) H1
theorem zI {X:Cx} {tg l:Expr} {tl:TE} (hl:PE X l tl):PI X tg l (A8 tl):=by
  intro pins s σ H R I h
  exact thn (hl pins s σ H _ I h) fun v s1 ⟨x,H1,I1,r1,q1⟩=>by
    obtain ⟨a,kvs,e,hq,q⟩:=q1
    subst e
    cases r1
    obtain ⟨y,es,raw,sz,ent⟩:=mQ I1.hok hq
    refine oO y raw ?_
    refine ⟨s1.heap.objs.size,[s1.heap.objs.size],_,_,H1,rfl,I1.kept (t':=s1.toks) fun b o e=>C7 _ e,uK a _ kvs.length,⟨_,Df _ rfl,rfl,by rw [sz];rfl⟩,fun b hb=>?_,q⟩
    have e:b=s1.heap.objs.size:=by simpa using hb
    subst e
    exact I1.fpOk (Dm _) (I1.hok.fresh (Dm _))
section
variable {X:Cx}
noncomputable def mK (p a:Addr):HO:=.ext fun h=>h.IsValuesView p a
theorem z6:MtR X "dict.values" (fun x vs H Q=>∃ a kvs,x=.ref a/\vs=[]/\Rd H a (.dT kvs)/\∀ p,H p=none->Q (.ref p) (upd H p (mK p a))):=by
  intro pins s σ H x vs v us Q I rx rv h
  obtain ⟨a,kvs,rfl,rfl,hq,q⟩:=h
  cases rx
  cases rv
  obtain ⟨y,es,raw,sz,ent⟩:=mQ I.hok hq
  refine call_meetsIn PySem.F.slot_dict_values raw.typeIs PySem.F.entry_dict_values (PySem.F.args_dict_values_1 _) (lj a y) ⟨⟨es,_,raw⟩,?_⟩
  refine ⟨.ref s.heap.objs.size,_,I.laid (a:=s.heap.objs.size) (o:=mK s.heap.objs.size a) (t':=s.toks) (fun _ _ q=>C7 _ q) (Dm _) ?_,rfl,q _ (I.hok.fresh (Dm _))⟩
  exact ⟨⟨_,Df _ rfl,rfl,rfl⟩,⟨_,Df _ rfl⟩,fun h1 h2 ⟨o,e,c⟩ k=>⟨o,k o e,c⟩⟩
theorem Walks.rawVals {prog:Program} {w:World} {A:Around} (hh:A.handled=none) (I d:Addr) (hne:d ≠ I) (es:Array DictEntry) (ep:Nat) :
    Walks prog w A I [I,d] [I] es.size (fun i v=>∃ h:i < es.size,v=es[i].val) (fun i h=>h.IsValIter I d i es.size ep/\RawAt h d es ep) where
  sub:=fun b hb=>by simp at hb;simp [hb]
  frame:=fun _ _ _ st hk=>⟨st.1.at fun o e=>hk I (by simp) o e,let ⟨o,ho,r⟩:=st.2;⟨o,hk d (by simp) o ho,r⟩⟩
  item:=fun i s Q E hi st hQ=>by
    refine ql st.1 st.2 hi fun h' hit' hs'=>?_
    exact hQ _ h' s.toks ⟨hi,rfl⟩ ⟨hit',let ⟨o,ho,r⟩:=st.2;⟨o,hs'.extBut d o hne ho,r⟩⟩ fun b o hb e=>hs'.extBut b o (fun h=>hb (by simp [h])) e
  done:=fun s Q E st hQ=>rZ hh st.1 st.2 (Dm _) fun h' he'=>hQ h' s.toks fun b o hb e=>he' b o (fun h=>hb (by simp [h])) e
  self:=fun _ _ _ _ st hQ=>wpAny_pyIter_valiter st.1 hQ
noncomputable def AY:List V->Hp->VK->Prop:=fun xs H Q=>∃ (p a:Addr) (kvs:List (List Key × V)) (ns:List Int),xs=[.ref p]/\H p=some (mK p a)/\Rd H a (.dT kvs)/\kvs.map (·.2)=ns.map V.int/\ns ≠ []/\∀ m,m ∈ ns->(∀ n ∈ ns,n<=m)->Q (.int m) H
theorem vV (hc:X.calm=true):CallR X (.builtin "max") AY:=by
  intro pins s σ H xs us Q I rx h
  obtain ⟨p,a,kvs,ns,rfl,hp,hq,hns,hne,q⟩:=h
  obtain ⟨u,rfl,ru⟩:=rx.one
  cases ru
  obtain ⟨y,es,raw,sz,ent⟩:=mQ I.hok hq
  have view:s.heap.IsValuesView p a:=(I.hok p _ hp).1
  have hlen:kvs.length=ns.length:=by have:=congrArg List.length hns;simpa using this
  have hpos:0 < es.size:=by rw [sz,hlen];exact List.length_pos_iff.mpr hne
  have val:∀ i (hi:i < es.size),∃ t,es[i].val=.int (ns[i]'(by omega)) t:=fun i hi=>by
    have hkv:kvs[i]?=some (kvs[i]'(by omega)):=Dc _
    obtain ⟨b,_,_,r⟩:=ent i hi _ hkv
    have e:(kvs[i]'(by omega)).2=V.int (ns[i]'(by omega)):=by
      have:=congrArg (fun l=>l[i]?) hns
      simp only [Dl] at this
      rw [hkv,Dc (show i < ns.length by omega)] at this
      simpa using this
    rw [e] at r
    exact r
  have hlt:a < s.heap.objs.size:=by obtain ⟨o,e,_⟩:=raw;exact Dd e
  refine call_max_walk (mf view raw ?_)
  refine ⟨s.heap.objs.size,_,_,_,_,_,fun i j=>decide ((ns[j]?).getD 0 < (ns[i]?).getD 0),rfl,Walks.rawVals (A:=X.A.in1) (I.ok.hd hc) s.heap.objs.size a (Do hlt) es es.size,⟨⟨_,Df _ rfl,rfl,rfl⟩,let ⟨o,ho,r⟩:=raw;⟨o,C7 _ ho,r⟩⟩,?_,hpos,?_,?_⟩
  · intro b hb
    rw [DG]
    simp at hb
    rcases hb with e | e <;> rw [e]
    · exact Nat.lt_succ_self _
    · exact Nat.lt_succ_of_lt hlt
  · have:=CmpOf.ints_gt (prog:=X.prog) (w:=X.w) (A:=X.A.in1) (P:=fun i v=>∃ h:i < es.size,v=es[i].val) (fun i=>(ns[i]?).getD 0) fun i v ⟨hi,e⟩=>by
      obtain ⟨t,ht⟩:=val i hi
      exact ⟨t,by rw [e,ht,Dc (show i < ns.length by omega)];rfl⟩
    exact this
  · intro v h' tk ⟨hb,e⟩ hk
    obtain ⟨t,ht⟩:=val _ hb
    obtain ⟨b1,b2⟩:=argBest_gt (fun i=>(ns[i]?).getD 0) (es.size - 1)
    refine ⟨.int _,H,I.kept (fun b o e=>hk b o (by simp;exact Do (Dd e)) (C7 _ e)),⟨t,by rw [e,ht]⟩,q _ (List.getElem_mem _) fun n hn=>?_⟩
    obtain ⟨i,hi,rfl⟩:=List.getElem_of_mem hn
    have:=b2 i (by omega)
    rw [Dc hi,Dc (show argBest _ (es.size - 1) < ns.length by omega)] at this
    exact this
end
end L2
end
section
namespace L2
open PySem PySem.Spec PyProof.Rows
noncomputable def IsPair (h:Heap) (b:Addr) (n:Int × Int):Prop:=∃ o t u m,h.get? b=some o/\o.cls=.type "tuple"/\o.data=.seq #[.int n.1 t,.int n.2 u] m
noncomputable def ltP (x y:Int × Int):Bool:=decide (x.1 < y.1\/(x.1=y.1/\x.2 < y.2))
section
variable {prog:Program} {w:World} {A:Around} {E:Value->Shared->Prop} {s:Shared}
theorem oU {x y:Int × Int} {a b:Addr} {P:Fin->Shared->Prop} (hx:IsPair s.heap a x) (hy:IsPair s.heap b y) (h:P (.done (.ret (.bool (ltP x y)))) s) :
    wpAny (model prog w) A (Builtin.«tuple.__lt__» ⟨[.ref a,.ref b],[]⟩) P E s:=by
  obtain ⟨oa,t1,t2,na,hoa,hca,hda⟩:=hx
  obtain ⟨ob,u1,u2,nb,hob,hcb,hdb⟩:=hy
  show wpAny _ _ (isInstance (.ref b) (.type "tuple") >>= _) _ _ s
  refine C2 (wpAny_isInstance (T:="tuple") ⟨ob,hob,hcb⟩ isSubtype_tuple_tuple ?_)
  simp only [Bool.not_true,DC,if_false]
  refine C2 (wpAny_tupleItemsOf hoa hda ?_)
  refine C2 (wpAny_tupleItemsOf hob hdb ?_)
  refine C2 ?_
  show wpAny _ _ (forIn [(Value.int x.1 t1,Value.int y.1 u1),(Value.int x.2 t2,Value.int y.2 u2)] _ _) _ _ s
  rw [List.forIn_cons]
  refine C2 ?_
  refine C2 ((intKind prog w).eqBool (a:=x.1) (b:=y.1) (by simp [intKind,Value.isInt]) (by simp [intKind,Value.isInt]) ?_)
  by_cases h1:x.1=y.1
  · rw [Dr h1]
    simp only [Bool.not_true,DC,if_false]
    refine C3 ?_
    show wpAny _ _ (forIn [(Value.int x.2 t2,Value.int y.2 u2)] _ _) _ _ s
    rw [List.forIn_cons]
    refine C2 ?_
    refine C2 ((intKind prog w).eqBool (a:=x.2) (b:=y.2) (by simp [intKind,Value.isInt]) (by simp [intKind,Value.isInt]) ?_)
    by_cases h2:x.2=y.2
    · rw [Dr h2]
      simp only [Bool.not_true,DC,if_false]
      refine C3 ?_
      show wpAny _ _ (forIn ([]:List (Value × Value)) _ _) _ _ s
      rw [List.forIn_nil]
      refine C3 (C3 ?_)
      have e:ltP x y=false:=by unfold ltP;simp;omega
      rw [e] at h
      exact h
    · rw [Ds h2]
      simp only [Bool.not_false,if_true]
      refine C2 (wpAny_rule (C2 ?_))
      refine (lt_int (a:=x.2) (b:=y.2) ?_:wpAny (model prog w) A (compareOp .Lt (.int x.2 t2) (.int y.2 u2)) _ _ _)
      refine C2 (C3 (C3 (C3 (C3 ?_))))
      have e:ltP x y=decide (x.2 < y.2):=by unfold ltP;simp [h1]
      rw [e] at h
      exact h
  · rw [Ds h1]
    simp only [Bool.not_false,if_true]
    refine C2 (wpAny_rule (C2 ?_))
    refine (lt_int (a:=x.1) (b:=y.1) ?_:wpAny (model prog w) A (compareOp .Lt (.int x.1 t1) (.int y.1 u1)) _ _ _)
    refine C2 (C3 (C3 (C3 (C3 ?_))))
    have e:ltP x y=decide (x.1 < y.1):=by unfold ltP;simp [h1]
    rw [e] at h
    exact h
theorem zO {x y:Int × Int} {a b:Addr} {Q:Value->Shared->Prop} (hu:A.units < cLine) (hx:IsPair s.heap a x) (hy:IsPair s.heap b y) (h:Q (.bool (ltP x y)) s) :
    wpAny (model prog w) A (richCompare .Lt (.ref a) (.ref b)) Q E s:=by
  have ta:s.TypeIs (.ref a) "tuple":=let ⟨o,_,_,_,e,c,_⟩:=hx;⟨o,e,c⟩
  have tb:s.TypeIs (.ref b) "tuple":=let ⟨o,_,_,_,e,c,_⟩:=hy;⟨o,e,c⟩
  exact wpAny_richCompare_same_room (op:=.Lt) ta tb F.slot_tuple_lt (wpAny_call_entry F.slot_tuple_lt ta F.entry_tuple_lt (oU hx hy ⟨_,rfl,(fun e=>nomatch e),h⟩) (F.args_tuple_lt_2 _ _)) hu
end
noncomputable def mW (ns:List (Int × Int)) (j:Nat) (k:Nat):Prop:=k < j/\∀ i,i < j->∀ x y,ns[i]?=some x->ns[k]?=some y->ltP x y=false
theorem vp {x y z:Int × Int} (h1:ltP x y=true) (h2:ltP z y=false):ltP z x=false:=by
  unfold ltP at *
  simp at *
  omega
noncomputable def mV (h:Heap) (bs:List Addr) (ns:List (Int × Int)):Prop:=∀ (i:Nat) (b:Addr),bs[i]?=some b->∃ n,ns[i]?=some n/\IsPair h b n
noncomputable def Bd (b:Option Addr):Array Value:=match b with | none=>#[] | some a=>#[.ref a,.ref a]
section
variable {prog:Program} {w:World} {A:Around} {R:Result->Shared->Prop}
theorem vg (hh:A.handled=none) (hu:A.units+1 < cLine) {I l S:Addr} (hIl:l ≠ I) (hSI:S ≠ I) (hSl:S ≠ l) (bs:List Addr) (ns:List (Int × Int)) (hbI:∀ b ∈ bs,b ≠ I) (hbS:∀ b ∈ bs,b ≠ S) :
    ∀ (k j:Nat) (s:Shared) (m:Option Nat) (c:Nat),bs.length - j=k->j<=bs.length->s.heap.IsListIter I l j->s.heap.IsList l (bs.map Value.ref).toArray->mV s.heap bs ns ->
    s.heap.get? S=some { cls:=.type "list",dict:=none,data:=.seq (Bd (m.bind (bs[·]?))) c,slots:=#[] }->(match m with | none=>j=0 | some m=>mW ns j m)->0 < bs.length ->
    (∀ m b h' tk,bs[m]?=some b->mW ns bs.length m->(∀ a o,a ≠ I->a ≠ S->s.heap.get? a=some o->h'.get? a=some o)->R (.ok (.ret (.ref b))) { s with heap:=h',toks:=tk }) ->
    codeAny (model prog w) A (.builtin "min.loop" ⟨[.ref I,.none,.ref S],[]⟩) R s:=by
  have nm:(toString "min" ++ toString ".loop":String) = "min.loop":=by decide
  intro k
  induction k with
  | zero =>
    intro j s m c hk hj hit hl hp hS hb hpos fin
    obtain rfl:j=bs.length:=by omega
    refine codeAny_builtin F.entry_min_loop ?_
    rw [Around.under_plainId F.plain_min_loop _]
    show wpAny _ A.in1 (seqItems? (.ref S) >>= _) _ _ s
    refine C2 (wpAny_seqItems hS rfl ?_)
    show wpAny _ A.in1 (tryCatch (pyNext (.ref I)) _ >>= _) _ _ s
    refine C2 (wpAny_tryCatch (wpAny_pyNext_list_end (show A.in1.handled=none from hh) hit hl (by simp) fun h' eb=>?_))
    cases m with
    | none=>have:bs.length=0:=hb;omega
    | some m =>
      have hm:m < bs.length:=hb.1
      have eb':bs[m]?=some bs[m]:=Dc hm
      have hS':=eb S _ hSI hS
      simp only [Option.bind_some,eb'] at hS' ⊢
      show wpAny _ A.in1 (updateSeq S (fun _=>#[]) >>= _) _ _ _
      refine C2 (wpAny_updateSeq hS' rfl (C2 (wpAny_letGo (C3 ?_))) (hz:=by show 2<=sizeLine;decide))
      exact fin m _ _ s.toks eb' hb fun a o ha hs e=>(DF _ _ (Ne.symm hs)).trans (eb a o ha e)
  | succ k ih =>
    intro j s m c hk hj hit hl hp hS hb hpos fin
    have hlt:j < bs.length:=by omega
    have hx:bs[j]?=some bs[j]:=Dc hlt
    have hv:(bs.map Value.ref).toArray[j]?=some (.ref bs[j]):=by simp [hx]
    refine codeAny_builtin F.entry_min_loop ?_
    rw [Around.under_plainId F.plain_min_loop _]
    show wpAny _ A.in1 (seqItems? (.ref S) >>= _) _ _ s
    refine C2 (wpAny_seqItems hS rfl ?_)
    show wpAny _ A.in1 (tryCatch (pyNext (.ref I)) _ >>= _) _ _ s
    refine C2 (wpAny_tryCatch (wpAny_pyNext_list_item hit hl hv fun h' hit' sb=>?_))
    have hS':h'.get? S=_:=(sb.2 S hSI).trans hS
    have hl':h'.IsList l (bs.map Value.ref).toArray:=hl.at fun o e=>(sb.2 l hIl).trans e
    have pk:∀ {h1 h2:Heap},(∀ b ∈ bs,∀ o,h1.get? b=some o->h2.get? b=some o)->mV h1 bs ns->mV h2 bs ns:=fun {h1 h2} k q i b e=>by
      obtain ⟨n,e1,o,t,u,m,e2,e3⟩:=q i b e
      exact ⟨n,e1,o,t,u,m,k b (Di e) o e2,e3⟩
    have hp':mV h' bs ns:=pk (fun b hb o e=>(sb.2 b (hbI b hb)).trans e) hp
    have on:∀ (h2:Heap) (tk:Nat) (m':Option Nat) (c':Nat),(∀ a o,a ≠ S->h'.get? a=some o->h2.get? a=some o)->h2.get? S=some { cls:=.type "list",dict:=none,data:=.seq (Bd (m'.bind (bs[·]?))) c',slots:=#[] }->(match m' with | none=>j+1=0 | some m=>mW ns (j+1) m) ->
        codeAny (model prog w) A (.builtin "min.loop" ⟨[.ref I,.none,.ref S],[]⟩) R { s with heap:=h2,toks:=tk }:=fun h2 tk m' c' k2 hS2 hb' =>
      ih (j+1) _ m' c' (by omega) hlt (hit'.at fun o e=>k2 I o (Ne.symm hSI) e) (hl'.at fun o e=>k2 l o (Ne.symm hSl) e) (pk (fun b hb o e=>k2 b o (hbS b hb) e) hp') hS2 hb' hpos fun v b h3 tk' hv' hw' k3=>fin v b h3 tk' hv' hw' fun a o ha hs e=>k3 a o ha hs (k2 a o hs ((sb.2 a ha).trans e))
    obtain ⟨nj,hnj,hpj⟩:=hp' j _ hx
    cases m with
    | none =>
      have h0:j=0:=hb
      show wpAny _ A.in1 (updateSeq S (fun _=>#[.ref bs[j],.ref bs[j]]) >>= _) _ _ _
      refine C2 (wpAny_updateSeq hS' rfl ?_ (hz:=by show 0<=sizeLine;exact Nat.zero_le _))
      rw [nm]
      refine C3 ⟨plainId_quiet F.plain_min_loop _,on _ s.toks (some j) (c+1) (fun a o ha e=>(DF _ _ (Ne.symm ha)).trans e) ?_ ⟨by omega,fun i hi x y h1 h2=>?_⟩⟩
      · simp only [Option.bind_some,hx]
        exact Dv _ hS' rfl
      · obtain rfl:i=j:=by omega
        rw [h1] at h2;cases h2
        unfold ltP;simp
    | some m =>
      obtain ⟨hm,hle⟩:=hb
      have hmb:bs[m]?=some bs[m]:=Dc (by omega)
      obtain ⟨nm',hnm,hpm⟩:=hp' m _ hmb
      simp only [Option.bind_some,hmb] at hS' ⊢
      show wpAny _ A.in1 (tryCatch (holding [.ref bs[j],.ref bs[j]] (richCompare .Lt (.ref bs[j]) (.ref bs[m]) >>= _)) _ >>= _) _ _ _
      refine C2 (wpAny_tryCatch (C4 (C2 ?_)))
      refine zO (A:=A.in1) (show A.units+1 < cLine from hu) hpj hpm ?_
      refine C2 (C4 (DH (C2 (wpAny_letGo (C3 ?_)))))
      by_cases hgt:ltP nj nm'=true
      · rw [hgt,if_pos rfl]
        refine C2 (wpAny_updateSeq hS' rfl (C2 (wpAny_letGo ?_)) (hz:=by show 2<=sizeLine;decide))
        rw [nm]
        refine C3 ⟨plainId_quiet F.plain_min_loop _,on _ s.toks (some j) c (fun a o ha e=>(DF _ _ (Ne.symm ha)).trans e) ?_ ⟨by omega,fun i hi x y h1 h2=>?_⟩⟩
        · simp only [Option.bind_some,hx]
          exact Dv _ hS' rfl
        · rw [hnj] at h2;cases h2
          by_cases hij:i=j
          · subst hij
            rw [hnj] at h1;cases h1
            unfold ltP;simp
          · exact vp hgt (hle i (by omega) x nm' h1 hnm)
      · have hgt':ltP nj nm'=false:=by simpa using hgt
        rw [hgt',if_neg Dn]
        refine C2 (wpAny_letGo ?_)
        rw [nm]
        refine C3 ⟨plainId_quiet F.plain_min_loop _,on h' s.toks (some m) c (fun a o _ e=>e) (by simp only [Option.bind_some,hmb];exact hS') ⟨by omega,fun i hi x y h1 h2=>?_⟩⟩
        by_cases hij:i=j
        · subst hij
          rw [hnj] at h1;cases h1
          rw [hnm] at h2;cases h2
          exact hgt'
        · exact hle i (by omega) x y h1 h2
end
section
variable {prog:Program} {w:World} {A:Around} {E:Value->Shared->Prop} {s:Shared}
theorem vO {l:Addr} {bs:List Addr} {ns:List (Int × Int)} {Q:Value->Shared->Prop} (hh:A.handled=none) (hu:A.units+1 < cLine) (hl:s.heap.IsList l (bs.map Value.ref).toArray) (hp:mV s.heap bs ns) (hpos:0 < bs.length)
    (h:∀ m b h' tk,bs[m]?=some b->mW ns bs.length m->(∀ b o,s.heap.get? b=some o->h'.get? b=some o)->Q (.ref b) { s with heap:=h',toks:=tk }) :
    wpAny (model prog w) A (call (.builtin "min") [.ref l]) Q E s:=by
  have hname:(toString "min" ++ toString ".loop":String) = "min.loop":=by decide
  refine call_function_tree F.kind_min F.plain_min F.entry_min (F.args_min1 _) ?_
  show wpAny _ A.in1 (Builtin.Builtins.bindParams "min" ["key","default"] 0 ⟨[],[]⟩ >>= _) _ _ s
  refine C2 (wpAny_of_eq (show Builtin.Builtins.bindParams "min" ["key","default"] 0 ⟨[],[]⟩=pure [none,none] from rfl) ?_)
  refine C2 (C3 ?_)
  refine C2 (wpAny_pyIter_list hl ?_)
  refine C2 (wpAny_newObj_type ?_)
  rw [hname]
  have hlt:l < s.heap.objs.size:=by obtain ⟨_,e,_⟩:=hl;exact Dd e
  have hsz:(s.heap.push { cls:=.type "list_iterator",data:=.fields #[.ref l,.int 0 0] }).objs.size=s.heap.objs.size+1:=DG _ _
  have a1:(s.heap.push { cls:=.type "list_iterator",data:=.fields #[.ref l,.int 0 0] }).objs.size ≠ s.heap.objs.size:=by rw [hsz];exact Nat.succ_ne_self _
  have a2:(s.heap.push { cls:=.type "list_iterator",data:=.fields #[.ref l,.int 0 0] }).objs.size ≠ l:=by rw [hsz];exact Nat.ne_of_gt (Nat.lt_succ_of_lt hlt)
  have ltb:∀ b ∈ bs,b < s.heap.objs.size:=fun b hb=>by
    obtain ⟨i,hi,e⟩:=List.getElem_of_mem hb
    obtain ⟨_,_,o,_,_,_,e2,_⟩:=hp i b (by rw [Dc hi,e])
    exact Dd e2
  refine C3 ⟨plainId_quiet F.plain_min_loop _,vg (A:=A) hh hu (I:=s.heap.objs.size) (l:=l) (Do hlt) a1 a2 bs ns (fun b hb=>Do (ltb b hb)) (fun b hb=>by rw [hsz];exact Do (Nat.lt_succ_of_lt (ltb b hb))) bs.length 0 _ none 0 (by omega) (by omega)
    ⟨_,C7 _ (Df _ rfl),rfl,rfl⟩ (hl.at fun o e=>C7 _ (C7 _ e)) (fun i b e=>?_) (Df _ rfl) rfl hpos fun m b h' tk hm hL hk=>?_⟩
  · obtain ⟨n,e1,o,t,u,m,e2,e3⟩:=hp i b e
    exact ⟨n,e1,o,t,u,m,C7 _ (C7 _ e2),e3⟩
  · refine h m b h' tk hm hL fun c o e=>hk c o (fun q=>?_) (fun q=>?_) (C7 _ (C7 _ e))
    · exact absurd q (Do (Dd e))
    · exact absurd (q.trans hsz) (Do (Nat.lt_succ_of_lt (Dd e)))
end
section
variable {X:Cx}
noncomputable def AX (K:FG):List V->Hp->VK->Prop:=fun xs H Q=>∃ (l:Addr) (bs:List Addr) (ns:List (Int × Int)),xs=[.ref l]/\SqL K H l (bs.map V.ref)/\(∀ (i:Nat) (b:Addr),bs[i]?=some b->∃ n,ns[i]?=some n/\H b=some (.tup [.int n.1,.int n.2]))/\bs ≠ [] /\
  ∀ m b,bs[m]?=some b->mW ns bs.length m->Q (.ref b) H
theorem nC:∀ {bs:List Addr} {its:List Value},Vals (bs.map V.ref) its->its=bs.map Value.ref
  | [],_,.nil=>rfl
  | b :: bs,_,.cons r t=>by cases r;rw [nC t];rfl
theorem vQ (hc:X.calm=true) (hu:X.A.units+1 < cLine):CallR X (.builtin "min") (AX X.K):=by
  intro pins s σ H xs us Q I rx h
  obtain ⟨l,bs,ns,rfl,hl,hp,hne,q⟩:=h
  obtain ⟨u,rfl,ru⟩:=lP rx
  cases (show u=Value.ref l from ru)
  obtain ⟨its,rv,p,hz⟩:=I.list hl
  have pl:=p.isList
  rw [nC rv] at pl
  refine vO (I.ok.hd hc) hu pl (ns:=ns) (fun i b e=>?_) (List.length_pos_iff.mpr hne) fun m b h' tk hm hL hk=>⟨.ref b,H,I.kept hk,rfl,q m b hm hL⟩
  obtain ⟨n,e1,e2⟩:=hp i b e
  obtain ⟨_,its,r,o,h1,h2,k,h3⟩:=(show ObjOk X.prog X.w H s.heap b (.tup [.int n.1,.int n.2]) from I.hok b _ e2)
  refine ⟨n,e1,?_⟩
  cases r with
  | cons r1 r =>
    cases r with
    | cons r2 r =>
      cases r
      obtain ⟨t,rfl⟩:=r1
      obtain ⟨u,rfl⟩:=r2
      exact ⟨o,t,u,k,h1,h2,congrArg Prod.fst h3⟩
end
end L2
end
section
namespace L2
open PySem
theorem wl:typeLookup (.type "zip") "__getattr__"=pure none:=by rw [typeLookup_type,builtinLookup_eq_fast];kernel_rfl
theorem yO:entryFor table "zip.__getattribute__"=some Builtin.«object.__getattribute__»:=entryFor_alias (id':="object.__getattribute__") (by kernel_rfl) (by decide +kernel) (by decide +kernel) (by kernel_rfl)
theorem uG {a:Addr} {vs:Array Value} {sl:Array (Option Value)} {name:Str} {u:Tok} (hmiss:typeLookup (.type "zip") name=pure none) (hname:(["__module__","__name__","__qualname__","__doc__","__annotations__"]:List Str).contains name=false) (hsz:name.length+100<=sizeLine) :
    Meets (Builtin.«object.__getattribute__» ⟨[.ref a,.str name u],[]⟩) (fun A R s=>s.heap.get? a=some { cls:=.type "zip",dict:=none,data:=.fields vs,slots:=sl }/\raisesAttr (.ref a) name A R s):=by
  refine .of_wp fun prog w A R s h=>?_
  obtain ⟨hp,g,d,tk,os⟩:=s
  obtain ⟨hx,h⟩:=h
  have ty:(⟨hp,g,d,tk,os⟩:Shared).TypeIs (.ref a) "zip":=⟨_,hx,rfl⟩
  wp_walk
  refine wpAny_ite_false (by rw [hname];rfl) ?_
  wp_walk
  exact wpAny_raiseAttrError h.1 h.2 (attrMsg_fits (by decide +kernel) hsz)
theorem getAttr?_miss_zip {prog:Program} {w:World} {A:Around} {E:Value->Shared->Prop} {s:Shared} {a:Addr} {o:Obj} {vs:Array Value} {name:Str} {Q:Option Value->Shared->Prop}
    (hx:s.heap.get? a=some o) (hc:o.cls=.type "zip") (hdat:o.data=.fields vs) (hd:o.dict=none) (hmiss:typeLookup (.type "zip") name=pure none) (hname:(["__module__","__name__","__qualname__","__doc__","__annotations__"]:List Str).contains name=false) (hh:A.handled=none)
    (h:∀ h' tk e,Heap.NewExcOf s.heap h' e "AttributeError"->Q none { s with heap:=h',toks:=tk }) (hsz:name.length+100<=sizeLine:=by size_fits) :
    wpAny (model prog w) A (getAttr? (.ref a) name) Q E s:=by
  obtain ⟨c,dct,dat,sl⟩:=o
  obtain ⟨hp,g,d,tk,os⟩:=s
  simp only at hc hdat hd
  subst hc hdat hd
  have ty:(⟨hp,g,d,tk,os⟩:Shared).TypeIs (.ref a) "zip":=⟨_,hx,rfl⟩
  have l1:=F.slot_zip_getattribute.lookup
  have l2:=F.slot_zip_getattribute.bind (.ref a)
  have l3:=wl
  have l4:=sub_AttributeError
  have ty':∀ tk',(⟨hp,g,d,tk',os⟩:Shared).TypeIs (.ref a) "zip":=fun _=>⟨_,hx,rfl⟩
  repeat ((fail_if_success with_reducible refine wpAny_call ?_);wp_step)
  refine call_meets F.slot_zip_getattribute (ty' _) yO (F.args_zip_getattribute_2 _ _) (uG (vs:=vs) (sl:=sl) hmiss hname hsz) ⟨hx,hh,fun h' tk' e n=>?_⟩
  obtain ⟨t',u',he⟩:=n.there
  refine (?_:wpAny _ _ (getattributeRaised _ _ _ _ _ _ _) _ _ _)
  have in2:(⟨h',g,d,tk',os⟩:Shared).TypeIs (.ref e) "AttributeError":=⟨_,he,rfl⟩
  wp_walk
  exact h _ _ _ n.of
noncomputable abbrev dA (h:Heap) (z TI TO:Addr) (f0 f1:Value):Prop :=
  h.get? z=some { cls:=.type "zip",dict:=none,data:=.fields #[f0,f1,.bool false,.ref TI,.ref TO],slots:=#[] }
noncomputable def ip (h:Heap) (z TO i1 i2:Addr) (f0 f1:Value):Prop:=(f0=.none/\f1=.bool false)\/∃ (T:Nat) (o:Obj),f0=rawInt (T:Nat)/\h.get? T=some o/\∃ b,f1=.bool b/\T ≠ z/\T ≠ TO/\T ≠ i1/\T ≠ i2
theorem wk (l1 l2:Addr) (xs ys:Array Value) :
    Meets (Builtin.«zip.__new__» ⟨[.type "zip",.ref l1,.ref l2],[]⟩) (fun _ R s=>s.heap.IsList l1 xs/\s.heap.IsTuple l2 ys /\
      ∀ h',(∀ n,n=s.heap.objs.size->dA h' (n+4) (n+2) (n+3) .none (.bool false)/\PySem.IsPair h' (n+2) (.ref n) (.ref (n+1))/\PySem.IsPair h' (n+3) .none .none/\h'.IsListIter n l1 0/\h'.IsTupleIter (n+1) l2 0/\h'.objs.size=n+5) ->
        (∀ c o,s.heap.get? c=some o->h'.get? c=some o)->R (.ok (.ret (.ref (s.heap.objs.size+4)))) { s with heap:=h' }):=by
  refine .of_wp fun prog w A R s h=>?_
  obtain ⟨hp,g,d,tk,os⟩:=s
  obtain ⟨a1,a2,h⟩:=h
  have sub:=sub_zip
  have it1:Heap.IsList (Shared.heap ⟨hp,g,d,tk,os⟩) l1 xs:=a1
  have it2:Heap.IsTuple (Shared.heap ⟨hp.push { cls:=.type "list_iterator",data:=.fields #[.ref l1,.int 0 0] },g,d,tk,os⟩) l2 ys:=Heap.IsTuple.push a2 _
  wp_walk using wpAny_pyIter_list it1,wpAny_pyIter_tuple it2
  refine ⟨_,rfl,?_⟩
  simp only [DG]
  have new:∀ (h:Heap) (u:Obj),u.isFreed=false->∀ n,h.objs.size=n->(h.push u).get? n=some u:=fun h u e n z=>z ▸ Df _ e
  have keep:∀ (h:Heap) (u:Obj) {c o},h.get? c=some o->(h.push u).get? c=some o:=fun h u=>C7 _
  refine h _ (fun n e=>?_) fun c o e=>keep _ _ (keep _ _ (keep _ _ (keep _ _ (keep _ _ e))))
  subst e
  refine ⟨new _ _ rfl _ ?_,keep _ _ (keep _ _ (new _ _ rfl _ ?_)),keep _ _ (new _ _ rfl _ ?_),⟨_,keep _ _ (keep _ _ (keep _ _ (keep _ _ (new _ _ rfl _ ?_)))),rfl,rfl⟩,⟨_,keep _ _ (keep _ _ (keep _ _ (new _ _ rfl _ ?_))),rfl,rfl⟩,?_⟩ <;> simp only [DG]
section
variable {prog:Program} {w:World} {A:Around} {E:Value->Shared->Prop} {s:Shared}
theorem f9 {it l:Addr} {i:Nat} {items} {x:Value} {Q:Value->Shared->Prop} (hit:s.heap.IsTupleIter it l i)
    (hl:s.heap.IsTuple l items) (hx:items[i]?=some x)
    (hQ:∀ h',h'.IsTupleIter it l (i+1)->Heap.SameBut it s.heap h'->Q x { s with heap:=h' }) :
    wpAny (model prog w) A (Builtin.SmallTypes.nextOf (.ref it)) Q E s:=by
  have ty:=hit.typeIs
  obtain ⟨⟨c1,d1,x1,s1⟩,h1,e1,e2⟩:=hit
  obtain ⟨⟨c2,d2,x2,s2⟩,h2,e3,n,e4⟩:=hl
  obtain ⟨hp,g,dr,tk,os⟩:=s
  simp only at e1 e2 e3 e4
  subst e1 e2 e3 e4
  unfold Builtin.SmallTypes.nextOf
  refine C2 (wpAny_callSpecial?_slot ty F.slot_tuple_iterator_next (wpAny_call_entry F.slot_tuple_iterator_next ty F.entry_tuple_iterator_next ?_ (F.args_tuple_iterator_next_1 _)))
  wp_walk
  rw [show items[(i:Int).toNat]?=some x from hx]
  wp_walk
  exact ⟨_,rfl,C3 (hQ _ ⟨_,Dv _ h1 rfl,rfl,rfl⟩ (Heap.SameBut.update ..))⟩
theorem pN {z TI TO T:Addr} {b:Bool} {oT:Obj} {R:Bool->Shared->Prop} (hz:dA s.heap z TI TO (rawInt (T:Nat)) (.bool b)) (hT:s.heap.get? T=some oT)
    (hR:∀ h₁,dA h₁ z TI TO (rawInt (T:Nat)) (.bool true)->Heap.SameBut z s.heap h₁->R false { s with heap:=h₁ }):wpAny (model prog w) A (Builtin.SmallTypes.ownedTupleIsFree (.ref z)) R E s:=by
  unfold Builtin.SmallTypes.ownedTupleIsFree
  refine C2 (wpAny_field hz rfl (x:=rawInt (T:Nat)) rfl ?_)
  show wpAny _ _ (loadIfAlive (Int.toNat (T:Int)) >>= _) _ _ _
  refine C2 (fun Γ p hΓ=>?_)
  show Sem.wp _ _ (Sem.loadIfAlive _ Sem.pure) _ _ _ _
  rw [Sem.wp_loadIfAlive,Int.toNat_natCast,hT]
  refine (show wpAny (model prog w) A (pure (some oT)) _ E s from C3 ?_) Γ p hΓ
  simp only [Option.isNone_some,DC,if_false]
  refine C2 (wpAny_field hz rfl (x:=.bool b) rfl ?_)
  cases b with
  | true=>exact C3 (hR s.heap hz (Heap.SameBut.refl _ _))
  | false =>
    refine C2 (wpAny_setField_rec hz (by simp) fun h₁ hz₁ hs₁=>C3 (hR h₁ hz₁ hs₁))
theorem mY {z TI TO i1 i2 l1 l2 T:Addr} {k1 k2:Nat} {xs ys:Array Value} {x y:Value} {b:Bool} {oT:Obj} {Q:Value->Shared->Prop} (D:ZipApart z TI TO i1 i2 l1 l2)
    (hz:dA s.heap z TI TO (rawInt (T:Nat)) (.bool b)) (hT:s.heap.get? T=some oT) (hTI:PySem.IsPair s.heap TI (.ref i1) (.ref i2))
    (h1:s.heap.IsListIter i1 l1 k1) (h2:s.heap.IsTupleIter i2 l2 k2) (hl1:s.heap.IsList l1 xs) (hl2:s.heap.IsTuple l2 ys) (hx:xs[k1]?=some x) (hy:ys[k2]?=some y)
    (hQ:∀ h',dA h' z TI TO (rawInt (T:Nat)) (.bool true)->h'.IsListIter i1 l1 (k1+1)->h'.IsTupleIter i2 l2 (k2+1)->PySem.IsPair h' s.heap.objs.size x y->h'.objs.size=s.heap.objs.size+1 ->
      (∀ c o,c ≠ z->c ≠ i1->c ≠ i2->s.heap.get? c=some o->h'.get? c=some o)->Q (.ref s.heap.objs.size) { s with heap:=h' }) :
    wpAny (model prog w) A (Builtin.«zip.__next__» ⟨[.ref z],[]⟩) (fun fin s'=>∃ v,fin=.done (.ret v)/\Q v s') E s:=by
  show wpAny _ _ (field (.ref z) 2 >>= _) _ _ _
  refine C2 (wpAny_field hz rfl (x:=.bool false) rfl ?_)
  show wpAny _ _ (field (.ref z) 3 >>= _) _ _ _
  refine C2 (wpAny_field hz rfl (x:=.ref TI) rfl ?_)
  refine C2 (wpAny_seqItems hTI rfl ?_)
  show wpAny _ _ (Builtin.SmallTypes.ownedTupleIsFree (.ref z) >>= _) _ _ _
  refine C2 (pN hz hT fun h₁ hz₁ hs₁=>?_)
  simp only [DC,if_false]
  refine C2 ?_
  rw [<- Array.forIn_toList]
  simp only [List.forIn_cons,List.forIn_nil]
  refine C2 (C2 (C4 ?_))
  show wpAny _ _ (Builtin.SmallTypes.nextOf (.ref i1) >>= _) _ _ _
  refine C2 (wpAny_nextOf_list_item (h1.extBut hs₁.extBut D.i1z) (hl1.extBut hs₁.extBut D.l1z) hx fun h₂ h1₂ hs₂=>C3 ?_)
  refine C3 (C2 (C2 (C4 ?_)))
  show wpAny _ _ (Builtin.SmallTypes.nextOf (.ref i2) >>= _) _ _ _
  refine C2 (f9 ((h2.extBut hs₁.extBut D.i2z).extBut hs₂.extBut D.i12.symm) ((hl2.extBut hs₁.extBut D.l2z).extBut hs₂.extBut D.l2i1) hy fun h₃ h2₃ hs₃=>C3 ?_)
  refine C3 (C3 ?_)
  show wpAny _ _ (newTuple [x,y] >>= _) _ _ _
  refine C2 (wpAny_newTuple (C3 ⟨_,rfl,?_⟩))
  have hz₃:dA h₃ z TI TO (rawInt (T:Nat)) (.bool true):=hs₃.extBut _ _ D.i2z.symm (hs₂.extBut _ _ D.i1z.symm hz₁)
  have hsz:h₃.objs.size=s.heap.objs.size:=by rw [hs₃.1,hs₂.1,hs₁.1]
  have g:(h₃.push { cls:=.type "tuple",data:=.seq #[x,y] }).get? h₃.objs.size=some _:=Df _ rfl
  have:=hQ (h₃.push { cls:=.type "tuple",data:=.seq #[x,y] }) (C7 _ hz₃) ((fun ⟨o,e,r⟩=>⟨o,C7 _ e,r⟩:h₃.IsListIter i1 l1 (k1+1)->_) (h1₂.extBut hs₃.extBut D.i12)) ((fun ⟨o,e,r⟩=>⟨o,C7 _ e,r⟩:h₃.IsTupleIter i2 l2 (k2+1)->_) h2₃)
    (by rw [hsz] at g;exact g) (by rw [DG,hsz]) fun c o c1 c2 c3 e=>C7 _ (hs₃.extBut _ _ c3 (hs₂.extBut _ _ c2 (hs₁.extBut _ _ c1 e)))
  rw [<- hsz] at this
  exact this
theorem lN {z TI TO i1 i2 l1 l2:Addr} {k1 k2:Nat} {xs ys:Array Value} {x y a b:Value} {Q:Value->Shared->Prop} (D:ZipApart z TI TO i1 i2 l1 l2)
    (hz:dA s.heap z TI TO .none (.bool false)) (hTI:PySem.IsPair s.heap TI (.ref i1) (.ref i2)) (hTO:PySem.IsPair s.heap TO a b)
    (h1:s.heap.IsListIter i1 l1 k1) (h2:s.heap.IsTupleIter i2 l2 k2) (hl1:s.heap.IsList l1 xs) (hl2:s.heap.IsTuple l2 ys) (hx:xs[k1]?=some x) (hy:ys[k2]?=some y)
    (hQ:∀ h',dA h' z TI TO (rawInt s.heap.objs.size) (.bool false)->h'.IsListIter i1 l1 (k1+1)->h'.IsTupleIter i2 l2 (k2+1)->(∃ a b,PySem.IsPair h' TO a b)/\PySem.IsPair h' s.heap.objs.size x y->h'.objs.size=s.heap.objs.size+1 ->
      (∀ c o,c ≠ z->c ≠ TO->c ≠ i1->c ≠ i2->s.heap.get? c=some o->h'.get? c=some o)->Q (.ref s.heap.objs.size) { s with heap:=h' }) :
    wpAny (model prog w) A (Builtin.«zip.__next__» ⟨[.ref z],[]⟩) (fun fin s'=>∃ v,fin=.done (.ret v)/\Q v s') E s:=by
  obtain ⟨hp,g,dr,tk,os⟩:=s
  obtain ⟨q1,q2,q3,q4,q5,q6,q7,q8,q9,q10,q11,q12,q13,q14,q15,q16,q17,q18⟩:=D
  repeat ((fail_if_success with_reducible refine wpAny_onRaise ?_);wp_step)
  refine wpAny_onRaise (C2 ?_)
  refine wpAny_nextOf_list_item (h1.extBut (Heap.SameBut.update ..).extBut q3) (hl1.extBut (Heap.SameBut.update ..).extBut q11) hx fun h₂ j1 s₂=>?_
  have z₂:dA h₂ z TI TO .ellipsis (.bool false):=s₂.extBut _ _ (Ne.symm q3) (Dv _ hz rfl)
  have t₂:PySem.IsPair h₂ TO a b:=s₂.extBut _ _ q8 ((Heap.SameBut.update ..).extBut _ _ q2 hTO)
  have k₂:∀ c o,c ≠ z->c ≠ i1->hp.get? c=some o->h₂.get? c=some o:=fun c o c1 c2 e=>s₂.extBut _ _ c2 ((Heap.SameBut.update ..).extBut _ _ c1 e)
  have n₂:h₂.objs.size=hp.objs.size:=by rw [s₂.1];exact (Heap.SameBut.update ..).1
  clear s₂
  repeat ((fail_if_success with_reducible refine wpAny_onRaise ?_);wp_step)
  refine wpAny_onRaise (C2 ?_)
  refine f9 (it:=i2) (l:=l2) ((fun ⟨o,e,r⟩=>⟨o,(Heap.SameBut.update ..).extBut _ _ (Ne.symm q9) (k₂ _ _ q4 (Ne.symm q10) e),r⟩:hp.IsTupleIter i2 l2 k2->_) h2) ((fun ⟨o,e,r⟩=>⟨o,(Heap.SameBut.update ..).extBut _ _ q16 (k₂ _ _ q15 q17 e),r⟩:hp.IsTuple l2 ys->_) hl2) hy fun h₄ j2 s₄=>?_
  have z₄:dA h₄ z TI TO .ellipsis (.bool false):=s₄.extBut _ _ (Ne.symm q4) ((Heap.SameBut.update ..).extBut _ _ (Ne.symm q2) z₂)
  have t₄:PySem.IsPair h₄ TO x b:=s₄.extBut _ _ q9 (Dv _ t₂ rfl)
  have j1':h₄.IsListIter i1 l1 (k1+1):=j1.extBut (Heap.SameBut.update ..).extBut (Ne.symm q8) |>.extBut s₄.extBut q10
  have k₄:∀ c o,c ≠ z->c ≠ TO->c ≠ i1->c ≠ i2->hp.get? c=some o->h₄.get? c=some o:=fun c o c1 c2 c3 c4 e=>s₄.extBut _ _ c4 ((Heap.SameBut.update ..).extBut _ _ c2 (k₂ c o c1 c3 e))
  have n₄:h₄.objs.size=hp.objs.size:=by rw [s₄.1,<- n₂];exact (Heap.SameBut.update ..).1
  clear s₄ j1 z₂ t₂ k₂ n₂
  have n₅:∀ f,(h₄.update TO f).objs.size=hp.objs.size:=fun f=>by rw [Heap.size_update,n₄]
  have lz:=Dd hz
  have up:∀ (h:Heap) (u:Obj) (f f':Obj->Obj) (c:Addr) (o:Obj),c ≠ z->h.get? c=some o->(((h.push u).update z f).update z f').get? c=some o:=fun h u f f' c o n e=>(Heap.SameBut.update ..).extBut _ _ n ((Heap.SameBut.update ..).extBut _ _ n (C7 _ e))
  have k₅:∀ f c o,c ≠ TO->h₄.get? c=some o->(h₄.update TO f).get? c=some o:=fun f c o n e=>(Heap.SameBut.update ..).extBut _ _ n e
  have new:∀ (h:Heap) (u:Obj),u.isFreed=false->(h.push u).get? h.objs.size=some u:=fun h u e=>Df _ e
  wp_walk
  refine ⟨_,rfl,?_⟩
  have w:=new (h₄.update TO (Obj.mapSeq fun v:Array Value=>v.setIfInBounds (0+1) y)) { cls:=.type "tuple",data:=.seq #[x,y] } rfl
  simp only [n₅] at w ⊢
  refine hQ _ (Dv _ (Dv _ (C7 _ (k₅ _ _ _ (Ne.symm q2) z₄)) rfl) rfl) ?_ ?_ ⟨⟨x,y,up _ _ _ _ _ _ q2 (Dv _ t₄ rfl)⟩,?_⟩ ?_ ?_
  · exact (fun ⟨o,e,r⟩=>⟨o,up _ _ _ _ _ _ q3 (k₅ _ _ _ (Ne.symm q8) e),r⟩:h₄.IsListIter i1 l1 (k1+1)->_) j1'
  · exact (fun ⟨o,e,r⟩=>⟨o,up _ _ _ _ _ _ q4 (k₅ _ _ _ (Ne.symm q9) e),r⟩:h₄.IsTupleIter i2 l2 (k2+1)->_) j2
  · exact (Heap.SameBut.update ..).extBut _ _ (Nat.ne_of_gt lz) ((Heap.SameBut.update ..).extBut _ _ (Nat.ne_of_gt lz) w)
  · rw [Heap.size_update,Heap.size_update,DG,n₅]
  · exact fun c o c1 c2 c3 c4 e=>up _ _ _ _ _ _ c1 (k₅ _ _ _ c2 (k₄ c o c1 c2 c3 c4 e))
theorem wj {z TI TO i1 i2 l1 l2:Addr} {k1 k2:Nat} {xs ys:Array Value} {x y a b f0 f1:Value} {Q:Value->Shared->Prop} (D:ZipApart z TI TO i1 i2 l1 l2)
    (hz:dA s.heap z TI TO f0 f1) (hm:ip s.heap z TO i1 i2 f0 f1) (hTI:PySem.IsPair s.heap TI (.ref i1) (.ref i2)) (hTO:PySem.IsPair s.heap TO a b)
    (h1:s.heap.IsListIter i1 l1 k1) (h2:s.heap.IsTupleIter i2 l2 k2) (hl1:s.heap.IsList l1 xs) (hl2:s.heap.IsTuple l2 ys) (hx:xs[k1]?=some x) (hy:ys[k2]?=some y)
    (hQ:∀ h' f0' f1',dA h' z TI TO f0' f1'->ip h' z TO i1 i2 f0' f1'->(∃ a b,PySem.IsPair h' TO a b)->h'.IsListIter i1 l1 (k1+1)->h'.IsTupleIter i2 l2 (k2+1)->PySem.IsPair h' s.heap.objs.size x y->h'.objs.size=s.heap.objs.size+1 ->
      (∀ c o,c ≠ z->c ≠ TO->c ≠ i1->c ≠ i2->s.heap.get? c=some o->h'.get? c=some o)->Q (.ref s.heap.objs.size) { s with heap:=h' }) :
    wpAny (model prog w) A (Builtin.«zip.__next__» ⟨[.ref z],[]⟩) (fun fin s'=>∃ v,fin=.done (.ret v)/\Q v s') E s:=by
  have lz:z < s.heap.objs.size:=Dd hz
  have lTO:TO < s.heap.objs.size:=Dd hTO
  have l1':i1 < s.heap.objs.size:=by obtain ⟨_,e,_⟩:=h1;exact Dd e
  have l2':i2 < s.heap.objs.size:=by obtain ⟨_,e,_⟩:=h2;exact Dd e
  rcases hm with ⟨rfl,rfl⟩ | ⟨T,oT,rfl,hT,b,rfl,t1,t2,t3,t4⟩
  · exact lN D hz hTI hTO h1 h2 hl1 hl2 hx hy fun h' a1 a2 a3 a4 a5 a6=>hQ h' _ _ a1 (.inr ⟨_,_,rfl,a4.2,_,rfl,Nat.ne_of_gt lz,Nat.ne_of_gt lTO,Nat.ne_of_gt l1',Nat.ne_of_gt l2'⟩) a4.1 a2 a3 a4.2 a5 a6
  · exact mY D hz hT hTI h1 h2 hl1 hl2 hx hy fun h' a1 a2 a3 a4 a5 a6=>hQ h' _ _ a1 (.inr ⟨_,_,rfl,a6 _ _ t1 t3 t4 hT,_,rfl,t1,t2,t3,t4⟩) ⟨_,_,a6 _ _ D.TOz D.TOi1 D.TOi2 hTO⟩ a2 a3 a4 a5 fun c o c1 _ c3 c4 e=>a6 c o c1 c3 c4 e
theorem yP {z TI TO i1 i2 l1 l2:Addr} {k1:Nat} {xs:Array Value} {a b f0 f1:Value} {Q:Fin->Shared->Prop} (hh:A.handled=none) (D:ZipApart z TI TO i1 i2 l1 l2)
    (hz:dA s.heap z TI TO f0 f1) (hm:ip s.heap z TO i1 i2 f0 f1) (hTI:PySem.IsPair s.heap TI (.ref i1) (.ref i2)) (hTO:PySem.IsPair s.heap TO a b)
    (h1:s.heap.IsListIter i1 l1 k1) (hl1:s.heap.IsList l1 xs) (hend:xs[k1]?=none)
    (hE:∀ h' e,(∀ c o,c ≠ z->c ≠ TO->c ≠ i1->c ≠ i2->s.heap.get? c=some o->h'.get? c=some o)->(∃ o,h'.get? e=some o/\o.cls=.type "StopIteration")->E (.ref e) { s with heap:=h' }) :
    wpAny (model prog w) A (Builtin.«zip.__next__» ⟨[.ref z],[]⟩) Q E s:=by
  show wpAny _ _ (field (.ref z) 2 >>= _) _ _ _
  refine C2 (wpAny_field hz rfl (x:=.bool false) rfl ?_)
  show wpAny _ _ (field (.ref z) 3 >>= _) _ _ _
  refine C2 (wpAny_field hz rfl (x:=.ref TI) rfl ?_)
  refine C2 (wpAny_seqItems hTI rfl ?_)
  show wpAny _ _ (Builtin.SmallTypes.ownedTupleIsFree (.ref z) >>= _) _ _ _
  rcases hm with ⟨rfl,rfl⟩ | ⟨T,oT,rfl,hT,b,rfl,t1,t2,t3,t4⟩
  · refine C2 ?_
    unfold Builtin.SmallTypes.ownedTupleIsFree
    refine C2 (wpAny_field hz rfl (x:=.none) rfl (C3 ?_))
    simp only [if_true]
    refine C2 (wpAny_rule ?_)
    refine C2 (wpAny_field hz rfl (x:=.ref TO) rfl ?_)
    refine C2 (wpAny_setField_rec hz (by simp) fun h₁ hz₁ hs₁=>?_)
    replace hz₁:dA h₁ z TI TO .ellipsis (.bool false):=hz₁
    refine C2 ?_
    simp only [List.zipIdx_cons,List.zipIdx_nil,List.forIn_cons,List.forIn_nil]
    refine C2 (C2 (wpAny_onRaise ?_))
    show wpAny _ _ (Builtin.SmallTypes.nextOf (.ref i1) >>= _) _ _ _
    refine C2 (wpAny_nextOf_list_end hh (h1.extBut hs₁.extBut D.i1z) (hl1.extBut hs₁.extBut D.l1z) hend fun h₂ e hs₂ he=>?_)
    obtain ⟨oe,hoe,hce⟩:=he
    have hz₂:dA h₂ z TI TO .ellipsis (.bool false):=hs₂ _ _ D.i1z.symm hz₁
    have hez:e ≠ z:=fun x=>by subst x;rw [hz₂] at hoe;cases hoe;simp at hce
    refine wpAny_setField_rec hz₂ (by simp) fun h₃ _ hs₃=>hE h₃ e (fun c o c1 _ c3 _ x=>hs₃.extBut _ _ c1 (hs₂ _ _ c3 (hs₁.extBut _ _ c1 x))) ⟨oe,hs₃.extBut _ _ hez hoe,hce⟩
  · refine C2 (pN hz hT fun h₁ hz₁ hs₁=>?_)
    simp only [DC,if_false]
    refine C2 ?_
    rw [<- Array.forIn_toList]
    simp only [List.forIn_cons,List.forIn_nil]
    refine C2 (C2 (C4 ?_))
    show wpAny _ _ (Builtin.SmallTypes.nextOf (.ref i1) >>= _) _ _ _
    refine C2 (wpAny_nextOf_list_end hh (h1.extBut hs₁.extBut D.i1z) (hl1.extBut hs₁.extBut D.l1z) hend fun h₂ e hs₂ he=>?_)
    exact hE h₂ e (fun c o c1 _ c3 _ x=>hs₂ _ _ c3 (hs₁.extBut _ _ c1 x)) he
theorem vN {l1 l2:Addr} {xs ys:Array Value} {Q:Value->Shared->Prop} (hl1:s.heap.IsList l1 xs) (hl2:s.heap.IsTuple l2 ys)
    (h:∀ h',IsZip h' (s.heap.objs.size+4) (s.heap.objs.size+2) (s.heap.objs.size+3) .none->PySem.IsPair h' (s.heap.objs.size+2) (.ref s.heap.objs.size) (.ref (s.heap.objs.size+1)) ->
      PySem.IsPair h' (s.heap.objs.size+3) .none .none->h'.IsListIter s.heap.objs.size l1 0->h'.IsTupleIter (s.heap.objs.size+1) l2 0->h'.objs.size=s.heap.objs.size+5 ->
      (∀ c o,s.heap.get? c=some o->h'.get? c=some o)->Q (.ref (s.heap.objs.size+4)) { s with heap:=h' }) :
    wpAny (model prog w) A (call (.type "zip") [.ref l1,.ref l2]) Q E s :=
  callType_new F.called_zip (by decide) (F.typeCall_zip_2 _ _) (F.newCall_zip_2 _ _) (fun obj=>F.args_object_init_3 obj _ _) F.entry_zip_new (wk l1 l2 xs ys) ⟨hl1,hl2,fun h' f k =>
    let ⟨a,b,c,d,e,z⟩:=f _ rfl
    ⟨⟨_,a,rfl⟩,h h' a b c d e z k⟩⟩
end
end L2
end
section
namespace L2
open PySem
namespace Fz
theorem entry_dict_update_loop:entryFor table "dict.update.loop"=some Builtin.«dict.update.loop»:=entryFor_of_tree (by kernel_rfl)
theorem plain_dict_update_loop:plainId "dict.update.loop"=true:=by decide +kernel
end Fz
section
variable {prog:Program} {w:World} {K:Type} [DecidableEq K] {knd:HeapKind prog w K} {A:Around} {E:Value->Shared->Prop} {s:Shared}
theorem ve {z TI TO i1 i2 l1 l2:Addr} {k1 k2:Nat} {xs ys:Array Value} {x y a b f0 f1:Value} {Q:Option Value->Shared->Prop} (D:ZipApart z TI TO i1 i2 l1 l2)
    (hz:dA s.heap z TI TO f0 f1) (hm:ip s.heap z TO i1 i2 f0 f1) (hTI:PySem.IsPair s.heap TI (.ref i1) (.ref i2)) (hTO:PySem.IsPair s.heap TO a b)
    (h1:s.heap.IsListIter i1 l1 k1) (h2:s.heap.IsTupleIter i2 l2 k2) (hl1:s.heap.IsList l1 xs) (hl2:s.heap.IsTuple l2 ys) (hx:xs[k1]?=some x) (hy:ys[k2]?=some y)
    (hQ:∀ h' f0' f1',dA h' z TI TO f0' f1'->ip h' z TO i1 i2 f0' f1'->(∃ a b,PySem.IsPair h' TO a b)->h'.IsListIter i1 l1 (k1+1)->h'.IsTupleIter i2 l2 (k2+1)->PySem.IsPair h' s.heap.objs.size x y->h'.objs.size=s.heap.objs.size+1 ->
      (∀ c o,c ≠ z->c ≠ TO->c ≠ i1->c ≠ i2->s.heap.get? c=some o->h'.get? c=some o)->Q (some (.ref s.heap.objs.size)) { s with heap:=h' }) :
    wpAny (model prog w) A (pyNext (.ref z)) Q E s:=by
  have hT:s.TypeIs (.ref z) "zip":=⟨_,hz,rfl⟩
  unfold pyNext
  exact C2 (wpAny_attempt (wpAny_callSpecial?_slot (name:=Str.ofString "__next__") hT PySem.F.slot_zip_next
    (wpAny_call_entry PySem.F.slot_zip_next hT PySem.F.entry_zip_next
      (wj D hz hm hTI hTO h1 h2 hl1 hl2 hx hy fun h' f0' f1' a1 a2 a3 a4 a5 a6 a7 a8=>C3 (hQ h' f0' f1' a1 a2 a3 a4 a5 a6 a7 a8)) (PySem.F.args_zip_next_1 _))))
theorem xA {z TI TO i1 i2 l1 l2:Addr} {k1:Nat} {xs:Array Value} {a b f0 f1:Value} {Q:Option Value->Shared->Prop} (hh:A.handled=none) (D:ZipApart z TI TO i1 i2 l1 l2)
    (hz:dA s.heap z TI TO f0 f1) (hm:ip s.heap z TO i1 i2 f0 f1) (hTI:PySem.IsPair s.heap TI (.ref i1) (.ref i2)) (hTO:PySem.IsPair s.heap TO a b)
    (h1:s.heap.IsListIter i1 l1 k1) (hl1:s.heap.IsList l1 xs) (hend:xs[k1]?=none)
    (hQ:∀ h',(∀ c o,c ≠ z->c ≠ TO->c ≠ i1->c ≠ i2->s.heap.get? c=some o->h'.get? c=some o)->Q none { s with heap:=h' }):wpAny (model prog w) A (pyNext (.ref z)) Q E s:=by
  have hT:s.TypeIs (.ref z) "zip":=⟨_,hz,rfl⟩
  unfold pyNext
  refine C2 (wpAny_attempt (wpAny_callSpecial?_slot (name:=Str.ofString "__next__") hT PySem.F.slot_zip_next
    (wpAny_call_entry PySem.F.slot_zip_next hT PySem.F.entry_zip_next (yP hh D hz hm hTI hTO h1 hl1 hend fun h' e hk he=>?_) (PySem.F.args_zip_next_1 _))))
  obtain ⟨o,ho,hc⟩:=he
  refine C2 (wpAny_isInstance (T:="StopIteration") (b:=true) ⟨o,ho,hc⟩ isSubtype_stop ?_)
  exact C3 (hQ _ hk)
set_option tactic.hygienic true in
theorem sZ {tr:List (K × Addr × Value)} (hn:(tr.map (·.1)).Nodup) {i:Nat} {t:K × Addr × Value} (e:tr[i]?=some t):storedH (tr.take i) t.1 t.2.1 t.2.2=tr.take (i+1):=by
  have hno:atKey (tr.take i) t.1=none:=by
    refine atKey_none_of_get fun j p hj=>?_
    have hlt:i < tr.length:=by obtain ⟨h,_⟩:=Dh.mp e;exact h
    rw [List.getElem?_take] at hj
    split at hj
    · rename_i hji
      have hjl:j < tr.length:=Nat.lt_trans hji hlt
      have e1:(tr.map (·.1))[j]'(by simpa using hjl)=(tr.map (·.1))[i]'(by simpa using hlt):=by
        have h1:=Dh.mp hj
        have h2:=Dh.mp e
        simp only [List.getElem_map]
        rw [h1.2,h2.2]
      exact List.pairwise_iff_getElem.mp hn j i _ _ hji e1
    · cases hj
  rw [storedH_new hno,List.take_add_one,e]
  rfl
theorem vI (hh:A.in1.handled=none) (hu:knd.room A.in1) {z TI TO i1 i2 l1 l2 d:Addr} (D:ZipApart z TI TO i1 i2 l1 l2) (dz:d ≠ z) (dTI:d ≠ TI) (dTO:d ≠ TO) (d1:d ≠ i1) (d2:d ≠ i2) (dl1:d ≠ l1) (dl2:d ≠ l2)
    {tr:List (K × Addr × Value)} (hn:(tr.map (·.1)).Nodup) (hsz:tr.length<=sizeLine) {R:Result->Shared->Prop}
    (keep:∀ h h':Heap,(∀ t ∈ tr,knd.is h t.1 t.2.1)->(∀ c o,c ≠ z->c ≠ TO->c ≠ i1->c ≠ i2->h.get? c=some o->h'.get? c=some o)->∀ t ∈ tr,knd.is h' t.1 t.2.1) :
    ∀ (k i:Nat) (s:Shared) (f0 f1 a b:Value),tr.length - i=k->i<=tr.length->dA s.heap z TI TO f0 f1->ip s.heap z TO i1 i2 f0 f1->PySem.IsPair s.heap TI (.ref i1) (.ref i2)->PySem.IsPair s.heap TO a b ->
      s.heap.IsListIter i1 l1 i->s.heap.IsTupleIter i2 l2 i->s.heap.IsList l1 (tr.map fun t=>Value.ref t.2.1).toArray->s.heap.IsTuple l2 (tr.map fun t=>t.2.2).toArray ->
      (∀ t ∈ tr,knd.is s.heap t.1 t.2.1)->DictOfHE knd s.heap d (tr.take i) ->
      (∀ h' tk,DictOfHE knd h' d tr->(∀ c o,c ≠ z->c ≠ TO->c ≠ i1->c ≠ i2->c ≠ d->s.heap.get? c=some o->h'.get? c=some o)->R (.ok (.ret .none)) { s with heap:=h',toks:=tk }) ->
      codeAny (model prog w) A (.builtin "dict.update.loop" ⟨[.ref d,.ref z,rawInt i,.none],[]⟩) R s:=by
  have carry:∀ {h h':Heap} {ys:List (K × Addr × Value)},DictOfHE knd h d ys->(∀ t ∈ ys,knd.is h' t.1 t.2.1)->(∀ c o,c ≠ z->c ≠ TO->c ≠ i1->c ≠ i2->h.get? c=some o->h'.get? c=some o)->DictOfHE knd h' d ys:=fun ⟨o,es,ep,g1,g2,g3,g4,g5,g6,g7⟩ hi hk =>
    ⟨o,es,ep,hk d o dz dTO d1 d2 g1,g2,g3,g4,hi,g6,g7⟩
  intro k
  induction k with
  | zero =>
    intro i s f0 f1 a b hk hi hz hm hTI hTO h1 h2 hl1 hl2 his hd hR
    have hin:i=tr.length:=by omega
    subst hin
    refine codeAny_builtin Fz.entry_dict_update_loop ?_
    rw [Around.under_plainId Fz.plain_dict_update_loop _]
    show wpAny _ A.in1 (pyNext (.ref z) >>= _) _ _ s
    refine C2 (xA hh D hz hm hTI hTO h1 hl1 (by simp) fun h' hk'=>?_)
    show wpAny _ A.in1 (Builtin.Dict.addKeywords d [] >>= _) _ _ _
    refine C2 (C3 (C3 ?_))
    rw [List.take_length] at hd
    exact hR h' s.toks (carry hd (keep _ _ his hk') hk') fun c o c1 c2 c3 c4 _ e=>hk' c o c1 c2 c3 c4 e
  | succ k ih =>
    intro i s f0 f1 a b hk hi hz hm hTI hTO h1 h2 hl1 hl2 his hd hR
    have hlt:i < tr.length:=by omega
    have ht:tr[i]?=some tr[i]:=Dc hlt
    have hmem:tr[i] ∈ tr:=List.getElem_mem hlt
    refine codeAny_builtin Fz.entry_dict_update_loop ?_
    rw [Around.under_plainId Fz.plain_dict_update_loop _]
    show wpAny _ A.in1 (pyNext (.ref z) >>= _) _ _ s
    refine C2 (ve D hz hm hTI hTO h1 h2 hl1 hl2 (x:=.ref tr[i].2.1) (y:=tr[i].2.2) (by simp [ht]) (by simp [ht]) fun h' f0' f1' a1 a2 ⟨a',b',a3⟩ a4 a5 a6 a7 hk'=>?_)
    have his':=keep _ _ his hk'
    have hd':=carry hd (fun t q=>his' t (List.mem_of_mem_take q)) hk'
    refine C2 (C4 ?_)
    refine C2 (wpAny_tryCatch ?_)
    unfold Builtin.Dict.pairItems
    refine C2 (wpAny_typeOf (T:="tuple") ⟨_,a6,rfl⟩ ?_)
    rw [if_pos (by decide)]
    refine C2 (wpAny_seqItems a6 rfl (C3 ?_))
    show wpAny _ _ (holding [Value.ref tr[i].2.1,tr[i].2.2] (dictSet d (.ref tr[i].2.1) tr[i].2.2)) _ _ _
    refine C4 (jC hu (his' _ hmem) hd' (hsz:=by rw [Dy];omega) fun h₂ hd₂ hs₂=>?_)
    rw [sZ hn ht] at hd₂
    obtain ⟨o',es',ep',g1,g2,g3,g4,g5,g6,g7⟩:=hd'
    refine C3 ⟨plainId_quiet Fz.plain_dict_update_loop _,?_⟩
    have up:∀ c o,c ≠ d->h'.get? c=some o->h₂.get? c=some o:=fun c o c1 e=>hs₂.extBut _ _ c1 e
    refine ih (i+1) _ f0' f1' a' b' (by omega) hlt (up _ _ dz.symm a1) ?_ (up _ _ dTI.symm (hk' _ _ D.TIz D.TITO D.TIi1 D.TIi2 hTI)) (up _ _ dTO.symm a3) ?_ ?_ ?_ ?_ (fun t q=>knd.keeps (his' t q) g1 g3 hs₂) hd₂ fun h₃ tk hd₃ hk₃=>?_
    · rcases a2 with q | ⟨T,oT,e0,hT,b0,e1,t1⟩
      · exact .inl q
      · by_cases hTd:T=d
        · obtain ⟨o2,_,_,g,_⟩:=hd₂
          exact .inr ⟨T,o2,e0,hTd ▸ g,b0,e1,t1⟩
        · exact .inr ⟨T,oT,e0,up _ _ hTd hT,b0,e1,t1⟩
    · exact a4.at fun o e=>up _ o d1.symm e
    · obtain ⟨o,e,r⟩:=a5
      exact ⟨o,up _ o d2.symm e,r⟩
    · exact (hl1.at fun o e=>hk' _ o D.l1z D.l1TO D.l1i1 D.l1i2 e).at fun o e=>up _ o dl1.symm e
    · obtain ⟨o,e,r⟩:=hl2
      exact ⟨o,up _ o dl2.symm (hk' _ o D.l2z D.l2TO D.l2i1 D.l2i2 e),r⟩
    · exact hR h₃ tk hd₃ fun c o c1 c2 c3 c4 c5 e=>hk₃ c o c1 c2 c3 c4 c5 (up c o c5 (hk' c o c1 c2 c3 c4 e))
theorem xV:typeLookup (.type "zip") "keys"=pure none:=am_miss_of_fast (by kernel_rfl)
theorem pA (hh:A.handled=none) (hu:knd.room A.in1.in1) {z TI TO i1 i2 l1 l2:Addr} {a b:Value} (D:ZipApart z TI TO i1 i2 l1 l2)
    {tr:List (K × Addr × Value)} (hn:(tr.map (·.1)).Nodup) (hsz:tr.length<=sizeLine) {Q:Value->Shared->Prop}
    (keep:∀ h h':Heap,(∀ t ∈ tr,knd.is h t.1 t.2.1)->(∀ c o,c ≠ z->c ≠ TO->c ≠ i1->c ≠ i2->h.get? c=some o->h'.get? c=some o)->∀ t ∈ tr,knd.is h' t.1 t.2.1)
    (hz:dA s.heap z TI TO .none (.bool false)) (hTI:PySem.IsPair s.heap TI (.ref i1) (.ref i2)) (hTO:PySem.IsPair s.heap TO a b)
    (h1:s.heap.IsListIter i1 l1 0) (h2:s.heap.IsTupleIter i2 l2 0) (hl1:s.heap.IsList l1 (tr.map fun t=>Value.ref t.2.1).toArray) (hl2:s.heap.IsTuple l2 (tr.map fun t=>t.2.2).toArray)
    (his:∀ t ∈ tr,knd.is s.heap t.1 t.2.1)
    (hQ:∀ h' tk,DictOfHE knd h' s.heap.objs.size tr->(∀ c o,c ≠ z->c ≠ TO->c ≠ i1->c ≠ i2->s.heap.get? c=some o->h'.get? c=some o)->Q (.ref s.heap.objs.size) { s with heap:=h',toks:=tk }) :
    wpAny (model prog w) A (call (.type "dict") [.ref z]) Q E s:=by
  have lz:z < s.heap.objs.size:=Dd hz
  have lTI:TI < s.heap.objs.size:=Dd hTI
  have lTO:TO < s.heap.objs.size:=Dd hTO
  have li1:i1 < s.heap.objs.size:=by obtain ⟨_,e,_⟩:=h1;exact Dd e
  have li2:i2 < s.heap.objs.size:=by obtain ⟨_,e,_⟩:=h2;exact Dd e
  have ll1:l1 < s.heap.objs.size:=by obtain ⟨_,e,_⟩:=hl1;exact Dd e
  have ll2:l2 < s.heap.objs.size:=by obtain ⟨_,e,_⟩:=hl2;exact Dd e
  refine callType_codes (Q₁:=fun obj s₁=>obj=.ref s.heap.objs.size/\s₁ = { s with heap:=s.heap.push { cls:=.type "dict",data:=.dict #[] } }) PySem.F.kt_called_dict (PySem.F.kt_typeCall_dict_1 _) PySem.F.entry_dict_init (kt_code_dict_new _ ⟨rfl,rfl⟩) ?_
  rintro obj s₁ ⟨rfl,rfl⟩
  have hg:(s.heap.push { cls:=.type "dict",data:=.dict #[] }).get? s.heap.objs.size=some _:=Df _ rfl
  have hT:Shared.TypeIs { s with heap:=s.heap.push { cls:=.type "dict",data:=.dict #[] } } (.ref s.heap.objs.size) "dict":=⟨_,hg,rfl⟩
  have pz:=C7 { cls:=.type "dict",data:=.dict #[] } hz
  refine ⟨hT,PySem.F.args_dict_init_2 _ _,?_⟩
  unfold Builtin.«dict.__init__»
  refine C2 ?_
  unfold Builtin.Dict.selfAndRest
  refine C2 (wpAny_notOrdered_dict hT ?_)
  show wpAny _ _ (pure (s.heap.objs.size,[Value.ref z])) _ _ _
  refine C3 ?_
  show wpAny _ _ (Builtin.Dict.updateFrom "dict.__init__" s.heap.objs.size (.ref z) [] .none) _ _ _
  unfold Builtin.Dict.updateFrom
  refine C2 (wpAny_typeOf (T:="zip") ⟨_,pz,rfl⟩ ?_)
  rw [if_pos (by decide)]
  refine C2 (getAttr?_miss_zip pz rfl rfl rfl xV (by decide) ?_ fun h₁ tk₁ e₁ hx₁=>?_)
  · simpa using hh
  · have old:∀ c o,s.heap.get? c=some o->h₁.get? c=some o:=fun c o e=>hx₁.keeps c o (C7 _ e)
    have hg₁:=hx₁.keeps _ _ hg
    simp only [Option.isNone_none,if_true]
    refine C2 (wpAny_rule (C2 (wpAny_pyIter_zip (f0:=.none) (old _ _ hz) (C3 ⟨plainId_quiet Fz.plain_dict_update_loop _,?_⟩))))
    have ne:∀ {c:Addr},c < s.heap.objs.size->s.heap.objs.size ≠ c:=fun h=>Nat.ne_of_gt h
    have his₁:∀ t ∈ tr,knd.is h₁ t.1 t.2.1:=keep _ _ his fun c o _ _ _ _ e=>old c o e
    refine vI (A:=A.in1) (by simpa using hh) hu D (ne lz) (ne lTI) (ne lTO) (ne li1) (ne li2) (ne ll1) (ne ll2) hn hsz keep (tr.length - 0) 0 _ .none (.bool false) a b rfl (Nat.zero_le _) (old _ _ hz) (.inl ⟨rfl,rfl⟩) (old _ _ hTI) (old _ _ hTO)
      (h1.at fun o e=>old _ o e) ((fun ⟨o,e,r⟩=>⟨o,old _ o e,r⟩:s.heap.IsTupleIter i2 l2 0->_) h2) (hl1.at fun o e=>old _ o e) ((fun ⟨o,e,r⟩=>⟨o,old _ o e,r⟩:s.heap.IsTuple l2 _->_) hl2) his₁ ⟨_,#[],0,hg₁,⟨rfl,rfl,rfl⟩,rfl,rfl,(fun x hx=>by cases hx),List.nodup_nil,rfl⟩ fun h' tk hd' hk'=>?_
    refine ⟨rfl,hQ h' tk hd' fun c o c1 c2 c3 c4 e=>hk' c o c1 c2 c3 c4 (Do (Dd e)) (old c o e)⟩
end
end L2
end
section
namespace L2
open PySem PySem.Spec PyProof.Rows
section
variable {X:Cx}
noncomputable def AQ (K:FG) (ta:TA):TE:=fun σ H Q=>ta σ H fun vs H1=>∃ (l t:Addr) (bs:List (Addr × List Key)) (ws:List V),vs=[.ref l,.ref t]/\SqL K H1 l (bs.map fun b=>V.ref b.1)/\SqT K H1 t ws/\(∀ b ∈ bs,H1 b.1=some (.tup (b.2.map kV)))/\bs.length=ws.length/\(bs.map (·.2)).Nodup /\
  ∀ p,H1 p=none->Q (.ref p) (upd H1 p (.dT ((bs.map (·.2)).zip ws)))
noncomputable def iG:List (Addr × List Key)->List Value->List (List Key × Addr × Value)
  | b :: bs,v :: vs=>(b.2,b.1,v) :: iG bs vs
  | _,_=>[]
theorem nH:∀ {bs:List (Addr × List Key)} {vs:List Value},bs.length=vs.length->(iG bs vs).map (·.1)=bs.map (·.2)
  | [],[],_=>rfl
  | b :: bs,v :: vs,e=>by simp [iG,nH (bs:=bs) (vs:=vs) (by simpa using e)]
theorem nG:∀ {bs:List (Addr × List Key)} {vs:List Value},bs.length=vs.length->(iG bs vs).map (fun t=>Value.ref t.2.1)=bs.map fun b=>Value.ref b.1
  | [],[],_=>rfl
  | b :: bs,v :: vs,e=>by simp [iG,nG (bs:=bs) (vs:=vs) (by simpa using e)]
theorem nF:∀ {bs:List (Addr × List Key)} {vs:List Value},bs.length=vs.length->(iG bs vs).map (fun t=>t.2.2)=vs
  | [],[],_=>rfl
  | b :: bs,v :: vs,e=>by simp [iG,nF (bs:=bs) (vs:=vs) (by simpa using e)]
theorem pU:∀ {bs:List (Addr × List Key)} {vs:List Value},bs.length=vs.length->(iG bs vs).length=bs.length
  | [],[],_=>rfl
  | b :: bs,v :: vs,e=>by simp [iG,pU (bs:=bs) (vs:=vs) (by simpa using e)]
theorem pS:∀ {bs:List (Addr × List Key)} {vs:List Value} {t:List Key × Addr × Value},t ∈ iG bs vs->(t.2.1,t.1) ∈ bs
  | [],vs,t,h=>by cases vs <;> cases h
  | b :: bs,[],t,h=>by cases h
  | b :: bs,v :: vs,t,h=>by
    rcases Db.mp h with rfl | h
    · exact C5
    · exact C6 _ (pS h)
theorem tq {H:Hp}:∀ {bs:List (Addr × List Key)} {ws:List V} {vs:List Value},Vals ws vs->bs.length=ws.length->(∀ b ∈ bs,H b.1=some (.tup (b.2.map kV)))->KT H ((bs.map (·.2)).zip ws) (iG bs vs)
  | [],_,_,.nil,_,_=>.nil
  | [],_,_,.cons _ _,e,_=>by cases e
  | b :: bs,_,_,.nil,e,_=>by cases e
  | b :: bs,_,_,.cons r rs,e,hb=>.cons ⟨rfl,hb b C5,r⟩ (tq rs (by simpa using e) fun c hc=>hb c (C6 _ hc))
theorem yE (n l t:Nat) (hl:l < n) (ht:t < n):ZipApart (n+4) (n+2) (n+3) n (n+1) l t:=by
  constructor <;> intro e <;> (have e:(_:Nat)=_:=e;omega)
theorem nQ:∀ {bs:List Addr} {its:List Value},Vals (bs.map V.ref) its->its=bs.map Value.ref
  | [],_,.nil=>rfl
  | _ :: bs,_,.cons r rs=>by cases r;rw [nQ rs];rfl
theorem zK {a b:Expr} {ta:TA} {p1 p2 pos1 pos2:Pos} (hc:X.calm=true) (hu:X.A.units+64 < cLine) (hgl:Gl X "dict") (hml:X.mg "dict"=none) (hg:Gl X "zip") (hm:X.mg "zip"=none) (hbd:bootBuiltins "dict"=some (.type "dict")) (hbz:bootBuiltins "zip"=some (.type "zip")) (ha:PA X [a,b] ta)
    (hs:starEach [.Call (.Name "zip" p2) [a,b] [] pos2] X.env=[(false,eval (.Call (.Name "zip" p2) [a,b] [] pos2) X.env)]) (hs2:starEach [a,b] X.env=(false,eval a X.env) :: starEach [b] X.env) (hpl:(backTo pos2 (starEach [b] X.env)).any (·.1)=false) :
    PE X (.Call (.Name "dict" p1) [.Call (.Name "zip" p2) [a,b] [] pos2] [] pos1) (AQ X.K ta):=by
  intro pins s σ H Q I h
  refine Call_ (hU I hgl hml hbd (PyProof.Rows.callWith_type1 ?_ hs rfl))
  rw [hs]
  show wpAny _ _ (spliced ((false,eval (.Call (.Name "zip" p2) [a,b] [] pos2) X.env) :: [])) _ _ s
  refine Calls.spliced_cons (Call_ (hU I hg hm hbz (PyProof.Rows.callWith_type1 (thn (ha pos2 pins s σ H _ I h) fun us s1 ⟨vs,H1,I1,r1,q1⟩=>?_) hs2 hpl)))
  obtain ⟨l,t,bs,ws,rfl,hl,ht,hb,hlen,hnd,q⟩:=q1
  cases r1 with
  | cons r rr =>
    cases rr with
    | cons r' rr =>
      cases rr
      cases r
      cases r'
      obtain ⟨its,rl,pl,zl⟩:=I1.list hl
      obtain ⟨vs,rt,pt,zt⟩:=I1.tuple ht
      have e1:its=(bs.map (·.1)).map Value.ref:=nQ (by rw [DM];exact rl)
      have e2:bs.length=vs.length:=by rw [hlen];exact rt.length
      have pl':s1.heap.IsList l ((iG bs vs).map fun t=>Value.ref t.2.1).toArray:=by rw [nG e2];have:=pl.isList;rw [e1,DM] at this;exact this
      have pt':s1.heap.IsTuple t ((iG bs vs).map fun t=>t.2.2).toArray:=by rw [nF e2];exact pt
      have lt:∀ {c:Addr} {o:Obj},s1.heap.get? c=some o->c < s1.heap.objs.size:=fun e=>Dd e
      have ll:l < s1.heap.objs.size:=by obtain ⟨_,e,_⟩:=pl';exact lt e
      have lt':t < s1.heap.objs.size:=by obtain ⟨_,e,_⟩:=pt';exact lt e
      refine vN pl' pt' fun h2 hz hTI hTO hi1 hi2 hsz hk=>Calls.spliced_nil ?_
      have D:=yE s1.heap.objs.size l t ll lt'
      have key:∀ x ∈ iG bs vs,(tupleKind (bH X.prog X.w)).is s1.heap x.1 x.2.1:=fun x hx=>o9 I1.hok (hb _ (pS hx))
      have keep:∀ h h':Heap,(∀ x ∈ iG bs vs,(tupleKind (bH X.prog X.w)).is h x.1 x.2.1)->(∀ c o,c ≠ s1.heap.objs.size+4->c ≠ s1.heap.objs.size+3->c ≠ s1.heap.objs.size->c ≠ s1.heap.objs.size+1->h.get? c=some o->h'.get? c=some o)->∀ x ∈ iG bs vs,(tupleKind (bH X.prog X.w)).is h' x.1 x.2.1:=fun h h' hi hk x hx=>by
        obtain ⟨o,its,n,g1,g2,g3,g4⟩:=hi x hx
        obtain ⟨o0,its0,n0,k1,_⟩:=key x hx
        have:=lt k1
        exact ⟨o,its,n,hk _ _ (Do (Nat.lt_add_right 4 this)) (Do (Nat.lt_add_right 3 this)) (Do this) (Do (Nat.lt_add_right 1 this)) g1,g2,g3,g4⟩
      refine pA (knd:=tupleKind (bH X.prog X.w)) (I.ok.hd hc) (show X.A.units+1+1 < cLine by omega) D (by rw [nH e2];exact hnd) (by rw [pU e2,e2];have:=zt;have:=rt.length;omega) keep hz hTI hTO hi1 hi2 (pl'.at fun o e=>hk _ o e) ((fun ⟨o,e,r⟩=>⟨o,hk _ o e,r⟩:s1.heap.IsTuple t _->_) pt') (fun x hx=>?_) fun h' tk hd hk'=>?_
      · obtain ⟨o,its,n,g1,g2,g3,g4⟩:=key x hx
        exact ⟨o,its,n,hk _ _ g1,g2,g3,g4⟩
      · rw [hsz] at hd ⊢
        have old:∀ c o,s1.heap.get? c=some o->h'.get? c=some o:=fun c o e=>hk' c o (Do (Nat.lt_add_right 4 (lt e))) (Do (Nat.lt_add_right 3 (lt e))) (Do (lt e)) (Do (Nat.lt_add_right 1 (lt e))) (hk c o e)
        have fr:s1.heap.objs.size<=s1.heap.objs.size+5:=by omega
        have hp:=I1.hok.fresh fr
        refine ⟨.ref (s1.heap.objs.size+5),_,I1.laid (a:=s1.heap.objs.size+5) (o:=.dT ((bs.map (·.2)).zip ws)) (t':=tk) old fr ⟨?_,?_,iG bs vs,(tq rt hlen hb).keeps fun b ys e=>?_,?_⟩,rfl,q _ hp⟩
        · rw [List.length_zip];simp only [Dg];have:=zt;have:=rt.length;omega
        · exact beq_eq_false_iff_ne.mpr (Nat.ne_of_gt (Nat.lt_add_right 5 I1.big))
        · rw [aR]
          · exact e
          · intro x;rw [x] at e;rw [hp] at e;cases e
        · obtain ⟨o,es,ep,g1,g2,g3,g4,g5,g6,g7⟩:=hd
          exact ⟨o,es,ep,g1,g2,g3,g4,g6,g7⟩
end
end L2
end
section
namespace L2
open PySem PySem.W PySem.Spec PyProof.Rows
noncomputable abbrev excO (a:Addr) (cls:Value):HO:=.ext fun h=>∃ o,h.get? a=some o/\o.cls=cls
noncomputable abbrev excF (ob:Obj) (a:Addr) (cls:Value):HO:=.frz ob (excO a cls)
structure ExcK (K:FG) (D:Addr):Prop where
  ga:findIn K (.ref D) "__getattribute__"=some (some (.builtin "BaseException.__getattribute__"))
  gt:findIn K (.ref D) "__getattr__"=some none
  cl:(clsIn K D).isSome=true
  ca:findIn K (.ref D) "__class__"=some (some (.builtin "object.__class__"))
  sp:specialIn K (.builtin "object.__class__") "__get__"=some (some (.builtin "getset_descriptor.__get__"))
  tk:takesIn K (.builtin "object.__class__")=some true
  ob:mroIn K D (.type "object")=some true
  be:mroIn K D (.type "BaseException")=some true
structure XName (K:FG) (c:String) (D:Addr):Prop where
  ns:nsIn K mainGlobals (Str.ofString c)=some (some (.ref D))
  ex:ExcK K D
theorem XName.inj {K:FG} {c:String} {D D':Addr} (a:XName K c D) (b:XName K c D'):D=D':=by
  have:=a.ns.symm.trans b.ns
  cases this
  rfl
end L2
end
section
namespace L2
open PySem
section
variable {K:FG} {h:Heap} {mg:Str->Option Value}
theorem kD {h:Heap}:∀ {l:List Nat} {a:Nat} {o:Obj},(l.filterMap fun a=>(h.get? a).map fun o=>(a,o)).lookup a=some o->h.get? a=some o
  | [],_,_,e=>by cases e
  | b :: l,a,o,e=>by
    rw [List.filterMap_cons] at e
    cases hb:h.get? b with
    | none=>rw [hb] at e;exact kD e
    | some p =>
      rw [hb] at e
      replace e:List.lookup a ((b,p) :: l.filterMap fun a=>(h.get? a).map fun o=>(a,o))=some o:=e
      rw [List.lookup_cons] at e
      cases hab:a == b with
      | true=>rw [hab] at e;cases eq_of_beq hab;cases e;exact hb
      | false=>rw [hab] at e;exact kD e
theorem fragAt_in (h:Heap):(ye h).In h:=fun _ _ e=>kD e
noncomputable def stPos (s:Stmt):Pos:=match s with
  | .FunctionDef _ _ _ _ _ _ _ _ _ p=>p
  | _=>⟨0,0,0,0⟩
set_option tactic.hygienic true in
theorem CO {n:Str} {st:Stmt} (X:K.In h) (G:h.Ns mainGlobals mg) (e:qO K n=mO n st):Def K mg n st:=by
  unfold qO at e
  split at e
  · rename_i f hf
    split at e
    · rename_i oc od fd sl hl
      unfold mO at e
      obtain ⟨name,qual,params,body,scope,globals,closure,defaults,kw,doc,pm,an,cd,ct,bi⟩:=fd
      simp only [Option.some.injEq,Prod.mk.injEq] at e
      obtain ⟨rfl,rfl,rfl,rfl,rfl,rfl,rfl,rfl,rfl,hc⟩:=e
      exact ⟨f,_,CI (st:=st) hl hc (by unfold PySem.W.keepIn;simp only [hl]),PySem.W.mg_of X G hf⟩
    · cases e
  · cases e
theorem sj {α β:Type} {f g:α->β} {l:List α} (e:l.map f=l.map g) (i:Nat) {a:α} (h:l[i]?=some a):f a=g a:=List.map_inj_left.mp e a (Di h)
theorem aN {ds:List (Str × Stmt)} {n:Str} {st:Stmt} (X:K.In h) (G:h.Ns mainGlobals mg) (e:ds.map (fun p=>qO K p.1)=ds.map (fun p=>mO p.1 p.2)) (i:Nat) (hi:ds[i]?=some (n,st)):Def K mg n st:=CO X G (sj e i hi)
theorem dq {l:List Str} {n:Str} (X:K.In h) (G:h.Ns mainGlobals mg) (e:l.map (PySem.W.nsIn K mainGlobals)=l.map (fun _=>some none)) (i:Nat) (hi:l[i]?=some n):mg n=none:=PySem.W.mg_none_of X G (sj e i hi)
set_option tactic.hygienic true in
theorem pe {l:List (Str × Int)} {n:Str} {v:Int} (X:K.In h) (G:h.Ns mainGlobals mg) (e:l.map (fun p=>pg K p.1)=l.map (fun p=>some p.2)) (i:Nat) (hi:l[i]?=some (n,v)):∃ t,mg n=some (.int v t):=by
  have e:=sj e i hi
  unfold pg at e
  dsimp only at e
  split at e
  · rename_i v' t hs;cases e;exact ⟨t,PySem.W.mg_of X G hs⟩
  · cases e
theorem walk_ofS {l:PySem.W.OpenLaw} {n k:Nat} {q:Program} {loose:List Str} {XP:(Str->Option Value)->Heap->Prop} {YP:World->Heap->Prop} {d:DefRec} {S:FG->Prop} {CX:CXT} {sp:FG->Sp} {x:Str}
    (hn:l.most=some n) (hn2:n<=sizeLine) (hdf:d.params.defaults=[]) (hr:Room k callerA)
    (hY:∀ (w:World) (h:Heap),YP w h->∃ K:FG,K.In h/\S K)
    (F:∀ (w:World) (mg:Str->Option Value) (fa:Addr) (h:Heap) (K:FG),S K->K.In h->h.Ns mainGlobals mg->mg d.name=some (.ref fa) ->
      ∃ fd:FuncData,(∀ (s:Shared) (u:Value),BindsTo s fd ⟨[u],[]⟩ [(x,u)]) /\
        ∀ base:Heap,K.In base->base.Ns mainGlobals mg->FnOk l.prog w K mg base CX k fa fd [x] (sp K))
    (hsp:∀ (K:FG) (H:Hp) (a:Addr) (ns:List Int),ns.length<=n->AI H->SqL K H a (ns.map V.int)->sp K [.ref a] H (fun v _=>v=.bl true) fun _ _ _=>False)
    (hCX:∀ (H:Hp) (s:Shared) (e:Value) (s':Shared),CX [] H s (fun _ _ _=>False) e s'->False) :
    PySem.W.WalkO q loose XP YP l.row.toRowW d [] (fun f vs=>PySem.call f vs):=by
  refine Att.attach_call hn hdf fun w s₀ s₁ mg mb fa o pm cd doc a vs ns G Y ho hd hcd hmg hobj hints hlen hg=>?_
  obtain ⟨K,KX,hS⟩:=hY w _ Y
  obtain ⟨fd,hb,hF⟩:=F w mg fa _ K hS KX G.T.g hmg
  exact xS KX G.T.g G.T.b G.T.builtins G.T.nolimit hg hobj hints (DI hlen hn2) hr hF hb (fun H hO hS=>hsp K H a ns hlen hO hS) fun H e s'=>hCX H s₁ e s'
end
end L2
end
section
namespace L3
open PySem L2
theorem nsE {α:Type} {p:α} {P:Prop} (e:(none:Option α)=some p):P:=nomatch e
inductive D where
 | non | bl (b:Bool) | int (i:Int) | str (x:Str)
 | tup (xs:List D) | lst (xs:List D) | fls (xs:List D) | dk (kvs:List (Key × D)) | dt (kvs:List (List Key × D))
 | exc (c:String) (fs:List (String × D))
noncomputable def kg:D->Bool
 | .lst _=>true
 | .dk _=>true
 | .dt _=>true
 | _=>false
noncomputable def FzL (K:FG) (H:Hp) (a:Addr) (vs:List V):Prop:=(∃ o,H a=some (.frz o (.lst vs)))\/∃ (o:Obj) (its:Array Value) (n:Nat),K.lookup a=some o/\o.cls=.type "list"/\o.dict=none/\o.data=.seq its n/\its.size<=sizeLine/\Vals vs its.toList
theorem FzL.sq {K:FG} {H:Hp} {a:Addr} {vs:List V} (h:FzL K H a vs):SqL K H a vs:=h.elim (fun ⟨o,e⟩=>.inl (.inr ⟨o,e⟩)) .inr
inductive Reps (R:D->V->List Addr->Prop):List D->List V->List Addr->Prop where
 | nil:Reps R [] [] []
 | cons {d v L ds vs L'}:R d v L->Reps R ds vs L'->Reps R (d :: ds) (v :: vs) (L ++ L')
inductive Rep (K:FG) (H:Hp):D->V->List Addr->Prop where
 | non:Rep K H .non .non []
 | bl (b:Bool):Rep K H (.bl b) (.bl b) []
 | int (i:Int):Rep K H (.int i) (.int i) []
 | str (x:Str):Rep K H (.str x) (.str x) []
 | tup {xs a vs L}:H a=some (.tup vs)->Reps (Rep K H) xs vs L->Rep K H (.tup xs) (.ref a) L
 | lst {xs a vs L}:H a=some (.lst vs)->Reps (Rep K H) xs vs L->Rep K H (.lst xs) (.ref a) (a :: L)
 | lstF {xs a vs L}:FzL K H a vs->Reps (Rep K H) xs vs L->Rep K H (.fls xs) (.ref a) L
 | dK {kvs a ps L}:H a=some (.dK ps)->kvs.map (·.1)=ps.map (·.1)->Reps (Rep K H) (kvs.map (·.2)) (ps.map (·.2)) L->Rep K H (.dk kvs) (.ref a) (a :: L)
 | dT {kvs a ps L}:H a=some (.dT ps)->kvs.map (·.1)=ps.map (·.1)->Reps (Rep K H) (kvs.map (·.2)) (ps.map (·.2)) L->Rep K H (.dt kvs) (.ref a) (a :: L)
 | exc {c a D ob}:XName K c D->H a=some (excF ob a (.ref D))->Rep K H (.exc c []) (.ref a) []
noncomputable def RepV (K:FG) (H:Hp) (d:D) (v:V) (L:List Addr):Prop:=match d with
 | .non=>v=.non/\L=[]
 | .bl b=>v=.bl b/\L=[]
 | .int i=>v=.int i/\L=[]
 | .str x=>v=.str x/\L=[]
 | .tup xs=>∃ a vs,v=.ref a/\H a=some (.tup vs)/\Reps (Rep K H) xs vs L
 | .lst xs=>∃ a vs L',v=.ref a/\L=a :: L'/\H a=some (.lst vs)/\Reps (Rep K H) xs vs L'
 | .fls xs=>∃ a vs,v=.ref a/\FzL K H a vs/\Reps (Rep K H) xs vs L
 | .dk kvs=>∃ a ps L',v=.ref a/\L=a :: L'/\H a=some (.dK ps)/\kvs.map (·.1)=ps.map (·.1)/\Reps (Rep K H) (kvs.map (·.2)) (ps.map (·.2)) L'
 | .dt kvs=>∃ a ps L',v=.ref a/\L=a :: L'/\H a=some (.dT ps)/\kvs.map (·.1)=ps.map (·.1)/\Reps (Rep K H) (kvs.map (·.2)) (ps.map (·.2)) L'
 | .exc c fs=>fs=[]/\L=[]/\∃ a D ob,v=.ref a/\XName K c D/\H a=some (excF ob a (.ref D))
theorem Rep.view {K:FG} {H:Hp} {d:D} {v:V} {L:List Addr} (r:Rep K H d v L):RepV K H d v L:=by
 cases r with
 | non=>exact ⟨rfl,rfl⟩
 | bl b=>exact ⟨rfl,rfl⟩
 | int i=>exact ⟨rfl,rfl⟩
 | str x=>exact ⟨rfl,rfl⟩
 | tup h r=>exact ⟨_,_,rfl,h,r⟩
 | lst h r=>exact ⟨_,_,_,rfl,rfl,h,r⟩
 | lstF h r=>exact ⟨_,_,rfl,h,r⟩
 | dK h k r=>exact ⟨_,_,_,rfl,rfl,h,k,r⟩
 | dT h k r=>exact ⟨_,_,_,rfl,rfl,h,k,r⟩
 | exc n h=>exact ⟨rfl,rfl,_,_,_,rfl,n,h⟩
noncomputable def MutAt (H:Hp) (b:Addr):Prop:=(∃ xs,H b=some (.lst xs))\/(∃ ps,H b=some (.dK ps))\/∃ ps,H b=some (.dT ps)
theorem MutAt.ex {H:Hp} {b:Addr} (m:MutAt H b):∃ o,H b=some o:=by
 rcases m with ⟨_,h⟩ | ⟨_,h⟩ | ⟨_,h⟩ <;> exact ⟨_,h⟩
theorem MutAt.notup {H:Hp} {b:Addr} {vs:List V} (m:MutAt H b) (h:H b=some (.tup vs)):False:=by
 rcases m with ⟨_,e⟩ | ⟨_,e⟩ | ⟨_,e⟩ <;> rw [e] at h <;> cases h
theorem MutAt.nofrz {H:Hp} {b:Addr} {o:Obj} {u:HO} (m:MutAt H b) (h:H b=some (.frz o u)):False:=by
 rcases m with ⟨_,e⟩ | ⟨_,e⟩ | ⟨_,e⟩ <;> rw [e] at h <;> cases h
theorem FzL.keep {K:FG} {H H':Hp} {a:Addr} {vs:List V} {M:Addr->Prop} (h:FzL K H a vs) (k:∀ b o,H b=some o->¬ M b->H' b=some o) (hm:∀ b,M b->MutAt H b):FzL K H' a vs:=h.elim (fun ⟨o,e⟩=>.inl ⟨o,k a _ e fun z=>(hm a z).nofrz e⟩) .inr
section
variable {K:FG} {H H':Hp} {d:D} {v:V} {L:List Addr}
theorem Rep.inH (r:Rep K H d v L):∀ b ∈ L,MutAt H b:=by
 refine Rep.rec (motive_1:=fun _ _ L _=>∀ b ∈ L,MutAt H b) (motive_2:=fun _ _ L _=>∀ b ∈ L,MutAt H b) ?_ ?_ ?_ ?_ ?_ ?_ ?_ ?_ ?_ ?_ ?_ ?_ r
 ·intro b hb;cases hb
 ·intro _ b hb;cases hb
 ·intro _ b hb;cases hb
 ·intro _ b hb;cases hb
 ·intro _ _ _ _ _ _ ih;exact ih
 ·intro _ _ _ _ h _ ih b hb
  rcases Db.mp hb with e | hb
  ·rw [e];exact .inl ⟨_,h⟩
  ·exact ih b hb
 ·intro _ _ _ _ _ _ ih;exact ih
 ·intro _ _ _ _ h _ _ ih b hb
  rcases Db.mp hb with e | hb
  ·rw [e];exact .inr (.inl ⟨_,h⟩)
  ·exact ih b hb
 ·intro _ _ _ _ h _ _ ih b hb
  rcases Db.mp hb with e | hb
  ·rw [e];exact .inr (.inr ⟨_,h⟩)
  ·exact ih b hb
 ·intro _ _ _ _ _ _ b hb;cases hb
 ·intro b hb;cases hb
 ·intro _ _ _ _ _ _ _ _ i1 i2 b hb
  rcases De.mp hb with h | h
  ·exact i1 b h
  ·exact i2 b h
theorem Reps.inH {ds:List D} {vs:List V} (r:Reps (Rep K H) ds vs L):∀ b ∈ L,MutAt H b:=by
 induction r with
 | nil=>intro b hb;cases hb
 | cons r _ ih =>
  intro b hb
  rcases De.mp hb with h | h
  ·exact r.inH b h
  ·exact ih b h
theorem Rep.keep {M:Addr->Prop} (k:∀ b o,H b=some o->¬ M b->H' b=some o) (hm:∀ b,M b->MutAt H b) (r:Rep K H d v L):(∀ b ∈ L,¬ M b)->Rep K H' d v L:=by
 refine Rep.rec (motive_1:=fun d v L _=>(∀ b ∈ L,¬ M b)->Rep K H' d v L) (motive_2:=fun ds vs L _=>(∀ b ∈ L,¬ M b)->Reps (Rep K H') ds vs L) ?_ ?_ ?_ ?_ ?_ ?_ ?_ ?_ ?_ ?_ ?_ ?_ r
 ·intro _;exact .non
 ·intro b _;exact .bl b
 ·intro b _;exact .int b
 ·intro b _;exact .str b
 ·intro xs a vs L h _ ih hL
  exact .tup (k a _ h fun z=>(hm a z).notup h) (ih hL)
 ·intro xs a vs L h _ ih hL
  exact .lst (k a _ h (hL a C5)) (ih fun b hb=>hL b (C6 _ hb))
 ·intro xs a vs L h _ ih hL
  exact .lstF (h.keep k hm) (ih hL)
 ·intro kvs a ps L h e _ ih hL
  exact .dK (k a _ h (hL a C5)) e (ih fun b hb=>hL b (C6 _ hb))
 ·intro kvs a ps L h e _ ih hL
  exact .dT (k a _ h (hL a C5)) e (ih fun b hb=>hL b (C6 _ hb))
 ·intro c a D ob n h _
  exact .exc n (k a _ h fun z=>(hm a z).nofrz h)
 ·intro _;exact .nil
 ·intro d v L ds vs L' _ _ i1 i2 hL
  exact .cons (i1 fun b hb=>hL b (C9 _ hb)) (i2 fun b hb=>hL b (Da _ hb))
theorem Rep.same (r:Rep K H d v L) (s:Same H H'):Rep K H' d v L:=r.keep (M:=fun _=>False) (fun b o h _=>s b o h) (fun _ z=>z.elim) fun _ _ z=>z
theorem Reps.keep {M:Addr->Prop} {ds:List D} {vs:List V} (k:∀ b o,H b=some o->¬ M b->H' b=some o) (hm:∀ b,M b->MutAt H b) (r:Reps (Rep K H) ds vs L):(∀ b ∈ L,¬ M b)->Reps (Rep K H') ds vs L:=by
 induction r with
 | nil=>intro _;exact .nil
 | cons r _ ih=>intro hL;exact .cons (r.keep k hm fun b hb=>hL b (C9 _ hb)) (ih fun b hb=>hL b (Da _ hb))
theorem Reps.same {ds:List D} {vs:List V} (r:Reps (Rep K H) ds vs L) (s:Same H H'):Reps (Rep K H') ds vs L:=r.keep (M:=fun _=>False) (fun b o h _=>s b o h) (fun _ z=>z.elim) fun _ _ z=>z
end
inductive Fl where
 | u | l | z
 deriving DecidableEq
structure It3 where
 d:D
 v:V
 L:List Addr
 f:Fl
noncomputable abbrev Sto:=List (Option (D × Fl))
structure Gm where
 H0:Hp
 bw:Addr->Prop
 pr:Nat->Bool
 σ0:St
 orig:Hp
 src:Addr->Prop
 lv:Nat->Option V
noncomputable def OwnOk (G:Gm) (x:It3):Prop:=kg x.d=true/\∃ a L',x.v=.ref a/\x.L=a :: L'/\a ∉ L'/\(x.f=.u->G.H0 a=none\/G.bw a)
structure ItOk (K:FG) (G:Gm) (H:Hp) (x:It3):Prop where
 rep:Rep K H x.d x.v x.L
 own:x.f ≠ .z->OwnOk G x
 src:∀ c ∈ x.L,G.H0 c=none\/G.src c
structure Fx (G:Gm) (H:Hp) (T:List It3) (g:Nat->Option It3):Prop where
 frT:∀ x ∈ T,x.f ≠ .z->∀ a,x.v=.ref a->G.orig a=none
 frS:∀ i x,g i=some x->G.pr i=false->x.f ≠ .z->∀ a,x.v=.ref a->G.orig a=none
 bin:∀ b,G.bw b->∃ o,H b=some o
 ob:∀ b o,G.orig b=some o->∃ o',H b=some o'
 lvS:∀ i x,g i=some x->x.f=.l->G.lv i=some x.v
noncomputable def NoRoot (x y:It3):Prop:=x.f ≠ .z->∀ a,x.v=.ref a->a ∉ y.L
noncomputable def Apart3 (x y:It3):Prop:=NoRoot x y/\NoRoot y x
structure Wf (K:FG) (G:Gm) (H:Hp) (σ:St) (ρ:Sto) (T:List It3) (g:Nat->Option It3):Prop where
 len:σ.length = ρ.length
 sl:∀ i,(g i).map (fun x=>(x.d,x.f))=(ρ[i]?).join
 sv:∀ i x,g i=some x->σ[i]?=some (some x.v)
 okS:∀ i x,g i=some x->ItOk K G H x
 okT:∀ x ∈ T,ItOk K G H x
 ss:∀ i j x y,i ≠ j->g i=some x->g j=some y->NoRoot x y
 st:∀ i x,g i=some x->∀ y ∈ T,Apart3 x y
 tt:T.Pairwise Apart3
 base:∀ b o,G.H0 b=some o->¬ G.bw b->H b=some o
 pro:∀ i,G.pr i=true->σ[i]?=G.σ0[i]?
 fx:Fx G H T g
structure Le (K:FG) (G:Gm) (W:D->Sto->Prop) (G0:Gm) (W0:D->Sto->Prop):Prop where
 pr:G.pr=G0.pr
 ex:∀ (H:Hp) (σ:St) (ρ:Sto) (T:List It3) (g:Nat->Option It3) (e:D),Wf K G H σ ρ T g->W e ρ->∃ ρ0 T0 g0,Wf K G0 H σ ρ0 T0 g0/\W0 e ρ0
theorem Le.refl (K:FG) (G:Gm) (W:D->Sto->Prop):Le K G W G W:=⟨rfl,fun _ _ ρ T g _ w h=>⟨ρ,T,g,w,h⟩⟩
theorem Le.trans {K:FG} {G G1 G2:Gm} {W W1 W2:D->Sto->Prop} (a:Le K G W G1 W1) (b:Le K G1 W1 G2 W2):Le K G W G2 W2:=⟨a.pr.trans b.pr,fun H σ ρ T g e w h=>by
 obtain ⟨ρ1,T1,g1,w1,h1⟩:=a.ex H σ ρ T g e w h
 exact b.ex H σ ρ1 T1 g1 e w1 h1⟩
section
variable {K:FG} {G:Gm} {H H':Hp} {σ:St} {ρ:Sto} {T T':List It3} {g:Nat->Option It3} {x y z:It3}
theorem ItOk.keep {M:Addr->Prop} (h:ItOk K G H x) (k:∀ b o,H b=some o->¬ M b->H' b=some o) (hm:∀ b,M b->MutAt H b) (hL:∀ b ∈ x.L,¬ M b):ItOk K G H' x:=⟨h.rep.keep k hm hL,h.own,h.src⟩
theorem ItOk.same (h:ItOk K G H x) (s:Same H H'):ItOk K G H' x:=⟨h.rep.same s,h.own,h.src⟩
theorem Fx.more (f:Fx G H T g) (s:∀ b o,H b=some o->∃ o',H' b=some o'):Fx G H' T g:=⟨f.frT,f.frS,fun b h=>let ⟨o,e⟩:=f.bin b h;s b o e,fun b o h=>let ⟨o',e⟩:=f.ob b o h;s b o' e,f.lvS⟩
theorem Fx.sub (f:Fx G H T g) (h:∀ x ∈ T',x ∈ T):Fx G H T' g:=⟨fun x hx=>f.frT x (h x hx),f.frS,f.bin,f.ob,f.lvS⟩
theorem Wf.grow (w:Wf K G H σ ρ T g) (s:Same H H'):Wf K G H' σ ρ T g :=
 ⟨w.len,w.sl,w.sv,fun i x e=>(w.okS i x e).same s,fun x hx=>(w.okT x hx).same s,w.ss,w.st,w.tt,fun b o e n=>s b o (w.base b o e n),w.pro,w.fx.more fun b o h=>⟨o,s b o h⟩⟩
theorem Wf.sub (w:Wf K G H σ ρ T g) (h:T'.Sublist T):Wf K G H σ ρ T' g :=
 ⟨w.len,w.sl,w.sv,w.okS,fun x hx=>w.okT x (h.subset hx),w.ss,fun i x e y hy=>w.st i x e y (h.subset hy),w.tt.sublist h,w.base,w.pro,w.fx.sub fun x hx=>h.subset hx⟩
noncomputable def Itm (T:List It3) (g:Nat->Option It3) (y:It3):Prop:=(∃ i,g i=some y)\/y ∈ T
noncomputable def fw (T:List It3) (g:Nat->Option It3) (c:Addr):Prop:=(∀ i z,g i=some z->z.f ≠ .z->z.v ≠ .ref c)/\∀ z ∈ T,z.f ≠ .z->z.v ≠ .ref c
theorem Wf.itm (w:Wf K G H σ ρ T g) (h:Itm T g y):ItOk K G H y:=by
 rcases h with ⟨i,e⟩ | h
 ·exact w.okS i y e
 ·exact w.okT y h
theorem oS {α:Type} {R:α->α->Prop} {l:List α} (p:l.Pairwise R) (hs:∀ a b,R a b->R b a):∀ a ∈ l,∀ b ∈ l,a ≠ b->R a b:=by
 induction p with
 | nil=>intro a ha;cases ha
 | @cons c l hc _ ih =>
  intro a ha b hb n
  rcases Db.mp ha with ea | ha
  ·rcases Db.mp hb with eb | hb
   ·exact absurd (ea.trans eb.symm) n
   ·rw [ea];exact hc b hb
  ·rcases Db.mp hb with eb | hb
   ·rw [eb];exact hs _ _ (hc a ha)
   ·exact ih a ha b hb n
theorem Apart3.symm (h:Apart3 x y):Apart3 y x:=⟨h.2,h.1⟩
theorem Wf.kid (w:Wf K G H σ ρ T g) (h:Itm T g y) {c:Addr} (hc:c ∈ y.L) (hn:y.f ≠ .z->y.v ≠ .ref c):fw T g c:=by
 refine ⟨fun i z e hz ez=>?_,fun z hm hz ez=>?_⟩
 ·rcases h with ⟨j,ej⟩ | hy
  ·by_cases ij:i=j
   ·subst ij
    rw [e] at ej
    cases ej
    exact hn hz ez
   ·exact w.ss i j z y ij e ej hz c ez hc
  ·exact (w.st i z e y hy).1 hz c ez hc
 ·rcases h with ⟨j,ej⟩ | hy
  ·exact (w.st j y ej z hm).2 hz c ez hc
  ·by_cases e:z=y
   ·subst e;exact hn hz ez
   ·exact (oS w.tt (fun _ _=>Apart3.symm) z hm y hy e).1 hz c ez hc
structure New (K:FG) (H H':Hp) (Ks:Addr->Prop) (x:It3):Prop where
 same:Same H H'
 rep:Rep K H' x.d x.v x.L
 sub:∀ c ∈ x.L,H c=none\/Ks c
 own:x.f ≠ .z->kg x.d=true/\∃ a L',x.v=.ref a/\x.L=a :: L'/\a ∉ L'/\H a=none
theorem Wf.h0none (w:Wf K G H σ ρ T g) {a:Addr} (h:H a=none):G.H0 a=none:=by
 cases e:G.H0 a with
 | none=>rfl
 | some o =>
  by_cases b:G.bw a
  ·obtain ⟨o,e⟩:=w.fx.bin a b
   rw [h] at e;cases e
  ·have:=w.base a o e b
   rw [h] at this;cases this
theorem Wf.ornone (w:Wf K G H σ ρ T g) {a:Addr} (h:H a=none):G.orig a=none:=by
 cases e:G.orig a with
 | none=>rfl
 | some o =>
  obtain ⟨o,e⟩:=w.fx.ob a o e
  rw [h] at e;cases e
theorem Wf.push {Ks:Addr->Prop} (w:Wf K G H σ ρ T g) (n:New K H H' Ks x) (hk:∀ c,Ks c->fw T g c/\(G.H0 c=none\/G.src c)):Wf K G H' σ ρ (x :: T) g:=by
 have w':=w.grow n.same
 have a1:∀ y:It3,ItOk K G H y->(∀ c,Ks c->y.f ≠ .z->y.v ≠ .ref c)->Apart3 y x:=fun y oy hy=>by
  refine ⟨fun hf a e hm=>?_,fun hf a e hm=>?_⟩
  ·obtain ⟨_,a',L',e1,e2,_,_⟩:=oy.own hf
   rw [e] at e1
   cases e1
   rcases n.sub a hm with h | h
   ·obtain ⟨o,ho⟩:=(oy.rep.inH a (by rw [e2];exact C5)).ex
    rw [h] at ho;cases ho
   ·exact hy a h hf e
  ·obtain ⟨_,a',L',e1,e2,_,h⟩:=n.own hf
   rw [e] at e1
   cases e1
   obtain ⟨o,ho⟩:=(oy.rep.inH a hm).ex
   rw [h] at ho;cases ho
 refine ⟨w'.len,w'.sl,w'.sv,w'.okS,?_,w'.ss,?_,?_,w'.base,w'.pro,⟨fun y hy hf a ea=>?_,w'.fx.frS,w'.fx.bin,w'.fx.ob,w'.fx.lvS⟩⟩
 ·intro y hy
  rcases Db.mp hy with rfl | hy
  ·refine ⟨n.rep,fun hf=>?_,fun c hc=>?_⟩
   ·obtain ⟨e0,a,L',e1,e2,e3,e4⟩:=n.own hf
    exact ⟨e0,a,L',e1,e2,e3,fun _=>.inl (w.h0none e4)⟩
   ·rcases n.sub c hc with h | h
    ·exact .inl (w.h0none h)
    ·exact (hk c h).2
  ·exact w'.okT y hy
 ·intro i z e y hy
  rcases Db.mp hy with rfl | hy
  ·exact a1 z (w.okS i z e) fun c hc=>(hk c hc).1.1 i z e
  ·exact w'.st i z e y hy
 ·refine List.pairwise_cons.mpr ⟨fun y hy=>(a1 y (w.okT y hy) fun c hc=>(hk c hc).1.2 y hy).symm,w'.tt⟩
 ·rcases Db.mp hy with h | hy
  ·subst h
   obtain ⟨e0,a',L',e1,e2,e3,e4⟩:=n.own hf
   rw [ea] at e1
   cases e1
   exact w.ornone e4
  ·exact w'.fx.frT y hy hf a ea
noncomputable def fO (ys:List It3) (c:Addr):Prop:=∃ y ∈ ys,c ∈ y.L/\(y.f ≠ .z->y.v ≠ .ref c)
theorem Wf.kids (w:Wf K G H σ ρ T g) {ys:List It3} (hy:∀ y ∈ ys,Itm T g y) {c:Addr} (h:fO ys c):fw T g c/\(G.H0 c=none\/G.src c):=by
 obtain ⟨y,m,hc,hn⟩:=h
 exact ⟨w.kid (hy y m) hc hn,(w.itm (hy y m)).src c hc⟩
structure Arg (K:FG) (H:Hp) (p:It3):Prop where
 rep:Rep K H p.d p.v p.L
 own:p.f ≠ .z->kg p.d=true/\∃ a L',p.v=.ref a/\p.L=a :: L'/\a ∉ L'
theorem ItOk.arg (h:ItOk K G H x):Arg K H x:=⟨h.rep,fun hf=>by
 obtain ⟨m,a,L',v1,v2,v3,_⟩:=h.own hf
 exact ⟨m,a,L',v1,v2,v3⟩⟩
end
end L3
end
section
namespace L3
open PySem L2
inductive R3 where
 | pl (i:Nat) | val (d:D) (f:Fl)
noncomputable abbrev M3 (α:Type):=Sto->Option (Except D α × Sto)
noncomputable abbrev EM:=M3 R3
noncomputable def af {α β:Type} (m:M3 α) (k:α->M3 β):M3 β:=fun ρ=>match m ρ with
 | none=>none
 | some (.error e,ρ')=>some (.error e,ρ')
 | some (.ok a,ρ')=>k a ρ'
noncomputable def bF {α:Type} (a:α):M3 α:=fun ρ=>some (.ok a,ρ)
noncomputable def bD {α:Type} (o:Option α):M3 α:=fun ρ=>o.map fun a=>(.ok a,ρ)
noncomputable def der (r:R3):M3 D:=fun ρ=>match r with
 | .pl i=>((ρ[i]?).join).map fun p=>(.ok p.1,ρ)
 | .val d _=>some (.ok d,ρ)
inductive Ar (σ:St):R3->V->List It3->Prop where
 | pl {i:Nat} {v:V}:σ[i]?=some (some v)->Ar σ (.pl i) v []
 | val (x:It3):Ar σ (.val x.d x.f) x.v [x]
noncomputable def Got (K:FG) (G:Gm) (σ:St) (ρ:Sto) (T:List It3) (r:R3) (v:V) (H:Hp):Prop:=∃ Ts g,Wf K G H σ ρ (Ts ++ T) g/\Ar σ r v Ts
noncomputable def tE (K:FG) (G0:Gm) (W0:D->Sto->Prop) (m:EM):TE:=fun σ H Q=>∃ G W,Le K G W G0 W0/\∃ ρ T g r ρ',Wf K G H σ ρ T g/\m ρ=some (r,ρ')/\match r with
 | .ok r=>∀ v H',Got K G σ ρ' T r v H'->Q v H'
 | .error e=>W e ρ'
noncomputable def tT (K:FG) (G0:Gm) (W0:D->Sto->Prop) (m:M3 Bool):TT:=fun σ H Q=>∃ G W,Le K G W G0 W0/\∃ ρ T g r ρ',Wf K G H σ ρ T g/\m ρ=some (r,ρ')/\match r with
 | .ok b=>∀ H' g',Wf K G H' σ ρ' T g'->Q b H'
 | .error e=>W e ρ'
inductive Ars (σ:St):List R3->List V->List It3->Prop where
 | nil:Ars σ [] [] []
 | cons {r v Ts rs vs Us}:Ar σ r v Ts->Ars σ rs vs Us->Ars σ (r :: rs) (v :: vs) (Us ++ Ts)
noncomputable def tA (K:FG) (G0:Gm) (W0:D->Sto->Prop) (m:M3 (List R3)):TA:=fun σ H Q=>∃ G W,Le K G W G0 W0/\∃ ρ T g r ρ',Wf K G H σ ρ T g/\m ρ=some (r,ρ')/\match r with
 | .ok rs=>∀ vs H' Ts g',Wf K G H' σ ρ' (Ts ++ T) g'->Ars σ rs vs Ts->Q vs H'
 | .error e=>W e ρ'
inductive Flw where
 | nx | br | ct | rt (d:D) (f:Fl)
noncomputable abbrev SM:=M3 Flw
noncomputable def tS (K:FG) (G0:Gm) (W0:D->Sto->Prop) (m:SM):TS:=fun E σ H=>∃ G W,Le K G W G0 W0/\∃ ρ T g r ρ',Wf K G H σ ρ T g/\m ρ=some (r,ρ')/\match r with
 | .ok .nx=>∀ σ' H' g',Wf K G H' σ' ρ' T g'->E.nx σ' H'
 | .ok .br=>∀ σ' H' g',Wf K G H' σ' ρ' T g'->E.bk σ' H'
 | .ok .ct=>∀ σ' H' g',Wf K G H' σ' ρ' T g'->E.ct σ' H'
 | .ok (.rt d f)=>∀ x σ' H' g',Wf K G H' σ' ρ' (x :: T) g'->x.d=d->x.f=f->E.rt x.v H'
 | .error e=>W e ρ'
section
variable {K:FG} {G G0:Gm} {W W0:D->Sto->Prop} {H H':Hp} {σ:St} {ρ ρ':Sto} {T T':List It3} {g:Nat->Option It3} {x y z:It3} {α β:Type}
theorem bg {r:R3} {k:D->M3 β} {o:Except D β} (e:af (der r) k ρ=some (o,ρ')):∃ d,der r ρ=some (.ok d,ρ)/\k d ρ=some (o,ρ'):=by
 cases r with
 | pl i =>
  have er:der (.pl i) ρ=((ρ[i]?).join).map fun p=>(.ok p.1,ρ):=rfl
  unfold af at e
  rw [er] at e ⊢
  cases h:(ρ[i]?).join with
  | none=>rw [h] at e;exact nsE e
  | some p=>rw [h] at e;exact ⟨p.1,rfl,e⟩
 | val d f=>exact ⟨d,rfl,e⟩
theorem cF {o:Option α} {r:Except D α} (e:bD o ρ=some (r,ρ')):∃ a,o=some a/\r=.ok a/\ρ' = ρ:=by
 unfold bD at e
 cases o with
 | none=>exact nsE e
 | some a=>cases e;exact ⟨a,rfl,rfl,rfl⟩
theorem Wf.slot (w:Wf K G H σ ρ T g) {i:Nat} {d:D} {f:Fl} (e:(ρ[i]?).join=some (d,f)):∃ y,g i=some y/\y.d=d/\y.f=f/\σ[i]?=some (some y.v):=by
 have h:=w.sl i
 rw [e] at h
 cases q:g i with
 | none=>rw [q] at h;exact nsE h
 | some y =>
  rw [q] at h
  cases h
  exact ⟨y,rfl,rfl,rfl,w.sv i y q⟩
theorem Ar.item {r:R3} {v:V} {Ts:List It3} {d:D} (w:Wf K G H σ ρ T g) (a:Ar σ r v Ts) (hs:∀ x ∈ Ts,x ∈ T) (e:der r ρ=some (.ok d,ρ)):∃ y,Itm T g y/\y.d=d/\y.v=v:=by
 cases a with
 | @pl i v h =>
  have er:der (.pl i) ρ=((ρ[i]?).join).map fun p=>(.ok p.1,ρ):=rfl
  rw [er] at e
  cases q:(ρ[i]?).join with
  | none=>rw [q] at e;exact nsE e
  | some p =>
   rw [q] at e
   obtain ⟨y,e1,e2,e3,e4⟩:=w.slot (d:=p.1) (f:=p.2) q
   have e5:p.1=d:=by cases e;rfl
   rw [h] at e4
   refine ⟨y,.inl ⟨i,e1⟩,e2.trans e5,?_⟩
   cases e4;rfl
 | val x=>cases e;exact ⟨x,.inr (hs x (by simp)),rfl,rfl⟩
theorem Wf.done {Us:List It3} {ys:List It3} (w:Wf K G H σ ρ (Us ++ T) g) (hy:∀ y ∈ ys,Itm (Us ++ T) g y) (n:New K H H' (fO ys) x):Got K G σ ρ T (.val x.d x.f) x.v H' :=
 ⟨[x],g,(w.push n fun c h=>w.kids hy h).sub (by simpa using List.Sublist.cons_cons x (Dj Us T)),.val x⟩
theorem tE.seq {ma:EM} {k:R3->M3 β} {r:Except D β} {P:VK} (le:Le K G W G0 W0) (w:Wf K G H σ ρ T g) (e:af ma k ρ=some (r,ρ')) (he:∀ x,r=.error x->W x ρ')
  (h:∀ ra ρ1,k ra ρ1=some (r,ρ')->∀ v H1,Got K G σ ρ1 T ra v H1->P v H1):tE K G0 W0 ma σ H P:=by
 unfold af at e
 cases q:ma ρ with
 | none=>rw [q] at e;exact nsE e
 | some p =>
  obtain ⟨o,ρ1⟩:=p
  rw [q] at e
  cases o with
  | error x=>cases e;exact ⟨G,W,le,ρ,T,g,.error x,ρ',w,q,he x rfl⟩
  | ok ra=>exact ⟨G,W,le,ρ,T,g,.ok ra,ρ1,w,q,h ra ρ1 e⟩
theorem tT.seq {ma:M3 Bool} {k:Bool->M3 β} {r:Except D β} {P:Bool->Hp->Prop} (le:Le K G W G0 W0) (w:Wf K G H σ ρ T g) (e:af ma k ρ=some (r,ρ')) (he:∀ x,r=.error x->W x ρ')
  (h:∀ b ρ1,k b ρ1=some (r,ρ')->∀ H1 g1,Wf K G H1 σ ρ1 T g1->P b H1):tT K G0 W0 ma σ H P:=by
 unfold af at e
 cases q:ma ρ with
 | none=>rw [q] at e;exact nsE e
 | some p =>
  obtain ⟨o,ρ1⟩:=p
  rw [q] at e
  cases o with
  | error x=>cases e;exact ⟨G,W,le,ρ,T,g,.error x,ρ',w,q,he x rfl⟩
  | ok ra=>exact ⟨G,W,le,ρ,T,g,.ok ra,ρ1,w,q,h ra ρ1 e⟩
theorem tA.seq {ma:M3 (List R3)} {k:List R3->M3 β} {r:Except D β} {P:List V->Hp->Prop} (le:Le K G W G0 W0) (w:Wf K G H σ ρ T g) (e:af ma k ρ=some (r,ρ')) (he:∀ x,r=.error x->W x ρ')
  (h:∀ rs ρ1,k rs ρ1=some (r,ρ')->∀ vs H1 Ts g1,Wf K G H1 σ ρ1 (Ts ++ T) g1->Ars σ rs vs Ts->P vs H1):tA K G0 W0 ma σ H P:=by
 unfold af at e
 cases q:ma ρ with
 | none=>rw [q] at e;exact nsE e
 | some p =>
  obtain ⟨o,ρ1⟩:=p
  rw [q] at e
  cases o with
  | error x=>cases e;exact ⟨G,W,le,ρ,T,g,.error x,ρ',w,q,he x rfl⟩
  | ok ra=>exact ⟨G,W,le,ρ,T,g,.ok ra,ρ1,w,q,h ra ρ1 e⟩
noncomputable def EndE (K:FG) (G:Gm) (W:D->Sto->Prop) (σ:St) (T:List It3) (ρ':Sto) (Q:VK):Except D R3->Prop
 | .ok r=>∀ v H',Got K G σ ρ' T r v H'->Q v H'
 | .error e=>W e ρ'
theorem EndE.err {Q:VK} {r:Except D R3} (h:EndE K G W σ T ρ' Q r):∀ x,r=.error x->W x ρ':=by
 intro x e;subst e;exact h
theorem tE.open {m:EM} {Q:VK} (h:tE K G0 W0 m σ H Q):∃ G W,Le K G W G0 W0/\∃ ρ T g r ρ',Wf K G H σ ρ T g/\m ρ=some (r,ρ')/\EndE K G W σ T ρ' Q r:=by
 obtain ⟨G,W,le,ρ,T,g,r,ρ',w,e,q⟩:=h
 refine ⟨G,W,le,ρ,T,g,r,ρ',w,e,?_⟩
 cases r with
 | ok r=>exact q
 | error x=>exact q
theorem tE.use {m:EM} {Q:VK} (h:tE K G0 W0 m σ H Q) {P:Prop} (k:∀ G W,Le K G W G0 W0->∀ ρ T g r ρ',Wf K G H σ ρ T g->m ρ=some (r,ρ')->EndE K G W σ T ρ' Q r->P):P:=by
 obtain ⟨G,W,le,ρ,T,g,r,ρ',w,e,q⟩:=h.open
 exact k G W le ρ T g r ρ' w e q
theorem tE.mk {m:EM} {Q:VK} {r:Except D R3} (le:Le K G W G0 W0) (w:Wf K G H σ ρ T g) (e:m ρ=some (r,ρ')) (h:EndE K G W σ T ρ' Q r):tE K G0 W0 m σ H Q:=by
 refine ⟨G,W,le,ρ,T,g,r,ρ',w,e,?_⟩
 cases r with
 | ok r=>exact h
 | error x=>exact h
noncomputable def ac (i:Nat):EM:=fun ρ=>((ρ[i]?).join).map fun _=>(.ok (.pl i),ρ)
theorem Bv {i:Nat} {Q:VK} (h:tE K G0 W0 (ac i) σ H Q):uM i σ H Q:=by
 refine h.use fun G W le ρ T g r ρ' w e q=>?_
 unfold ac at e
 cases h:(ρ[i]?).join with
 | none=>rw [h] at e;exact nsE e
 | some p =>
  rw [h] at e
  cases e
  obtain ⟨y,_,_,_,e4⟩:=w.slot (d:=p.1) (f:=p.2) h
  exact ⟨y.v,e4,q y.v H ⟨[],g,w,.pl e4⟩⟩
noncomputable def mC (d:D):EM:=bF (.val d .z)
theorem Wf.const {d:D} {v:V} (w:Wf K G H σ ρ T g) (r:Rep K H d v []):Got K G σ ρ T (.val d .z) v H :=
 Wf.done (Us:=[]) (ys:=[]) (x:=⟨d,v,[],.z⟩) w (fun _ h=>(by cases h)) ⟨Same.refl _,r,fun _ h=>(by cases h),fun h=>absurd rfl h⟩
theorem jN {d:D} {v:V} {Q:VK} (r:∀ H,Rep K H d v []) (h:tE K G0 W0 (mC d) σ H Q):tC v σ H Q:=by
 refine h.use fun G W le ρ T g o ρ' w e q=>?_
 cases e
 exact q v H (w.const (r H))
noncomputable def ah (f:D->D->Option (D × Fl)) (ma mb:EM):EM:=af ma fun ra=>af mb fun rb=>af (der ra) fun da=>af (der rb) fun db=>bD ((f da db).map fun p=>R3.val p.1 p.2)
noncomputable def OpD (K:FG) (r:R2) (f:D->D->Option (D × Fl)):Prop:=∀ (a b:It3) (H:Hp) (Q:VK) (p:D × Fl),Arg K H a->Arg K H b->f a.d b.d=some p ->
 (∀ w H',New K H H' (fO [a,b]) w->w.d=p.1->w.f=p.2->Q w.v H')->r a.v b.v H Q
theorem qP {Us:List It3} {ys:List It3} {Q:VK} {d:D} {f:Fl} (w:Wf K G H σ ρ (Us ++ T) g) (hy:∀ y ∈ ys,Itm (Us ++ T) g y) (q:EndE K G W σ T ρ Q (.ok (.val d f))) :
  ∀ w' H',New K H H' (fO ys) w'->w'.d=d->w'.f=f->Q w'.v H':=by
 intro w' H' n e1 e2
 subst e1 e2
 exact q w'.v H' (w.done hy n)
theorem lQ {r:R2} {f:D->D->Option (D × Fl)} {ma mb:EM} {Q:VK} (ho:OpD K r f) (h:tE K G0 W0 (ah f ma mb) σ H Q):tOp r (tE K G0 W0 ma) (tE K G0 W0 mb) σ H Q:=by
 refine h.use fun G W le ρ T g o ρ' w e q=>?_
 refine tE.seq le w e q.err fun ra ρ1 e1 va H1 ⟨Ts,g1,w1,a1⟩=>?_
 refine tE.seq le w1 e1 q.err fun rb ρ2 e2 vb H2 ⟨Us,g2,w2,a2⟩=>?_
 obtain ⟨da,d1,e3⟩:=bg e2
 obtain ⟨db,d2,e4⟩:=bg e3
 obtain ⟨p,e5,rfl,rfl⟩:=cF e4
 obtain ⟨ya,i1,f1,f2⟩:=a1.item w2 (fun x hx=>Da _ (C9 _ hx)) d1
 obtain ⟨yb,i2,f3,f4⟩:=a2.item w2 (fun x hx=>C9 _ hx) d2
 subst f1 f2 f3 f4
 cases ef:f ya.d yb.d with
 | none=>rw [ef] at e5;exact nsE e5
 | some s =>
  rw [ef] at e5
  cases e5
  rw [<- List.append_assoc] at w2 i1 i2
  refine ho ya yb H2 Q s (w2.itm i1).arg (w2.itm i2).arg ef (qP w2 (fun y hy=>?_) q)
  rcases Db.mp hy with h | hy
  ·rw [h];exact i1
  ·rw [DB.mp hy];exact i2
noncomputable def mUn (f:D->Option (D × Fl)) (ma:EM):EM:=af ma fun ra=>af (der ra) fun da=>bD ((f da).map fun p=>R3.val p.1 p.2)
noncomputable def UnD (K:FG) (r:V->Hp->VK->Prop) (f:D->Option (D × Fl)):Prop:=∀ (a:It3) (H:Hp) (Q:VK) (p:D × Fl),Arg K H a->f a.d=some p ->
 (∀ w H',New K H H' (fO [a]) w->w.d=p.1->w.f=p.2->Q w.v H')->r a.v H Q
theorem AN {r:V->Hp->VK->Prop} {f:D->Option (D × Fl)} {ma:EM} {Q:VK} (ho:UnD K r f) (h:tE K G0 W0 (mUn f ma) σ H Q):tUn r (tE K G0 W0 ma) σ H Q:=by
 refine h.use fun G W le ρ T g o ρ' w e q=>?_
 refine tE.seq le w e q.err fun ra ρ1 e1 va H1 ⟨Ts,g1,w1,a1⟩=>?_
 obtain ⟨da,d1,e3⟩:=bg e1
 obtain ⟨p,e5,rfl,rfl⟩:=cF e3
 obtain ⟨ya,i1,f1,f2⟩:=a1.item w1 (fun x hx=>C9 _ hx) d1
 subst f1 f2
 cases ef:f ya.d with
 | none=>rw [ef] at e5;exact nsE e5
 | some s =>
  rw [ef] at e5
  cases e5
  exact ho ya H1 Q s (w1.itm i1).arg ef (qP w1 (fun y hy=>by rw [DB.mp hy];exact i1) q)
noncomputable def ai:M3 (List R3):=bF []
noncomputable def ab (m:EM) (ms:M3 (List R3)):M3 (List R3):=af m fun r=>af ms fun rs=>bF (r :: rs)
noncomputable def EndA (K:FG) (G:Gm) (W:D->Sto->Prop) (σ:St) (T:List It3) (ρ':Sto) (Q:List V->Hp->Prop):Except D (List R3)->Prop
 | .ok rs=>∀ vs H' Ts g',Wf K G H' σ ρ' (Ts ++ T) g'->Ars σ rs vs Ts->Q vs H'
 | .error e=>W e ρ'
theorem EndA.err {Q:List V->Hp->Prop} {r:Except D (List R3)} (h:EndA K G W σ T ρ' Q r):∀ x,r=.error x->W x ρ':=by
 intro x e;subst e;exact h
theorem tA.open {m:M3 (List R3)} {Q:List V->Hp->Prop} (h:tA K G0 W0 m σ H Q):∃ G W,Le K G W G0 W0/\∃ ρ T g r ρ',Wf K G H σ ρ T g/\m ρ=some (r,ρ')/\EndA K G W σ T ρ' Q r:=by
 obtain ⟨G,W,le,ρ,T,g,r,ρ',w,e,q⟩:=h
 refine ⟨G,W,le,ρ,T,g,r,ρ',w,e,?_⟩
 cases r with
 | ok r=>exact q
 | error x=>exact q
theorem tA.use {m:M3 (List R3)} {Q:List V->Hp->Prop} (h:tA K G0 W0 m σ H Q) {P:Prop} (k:∀ G W,Le K G W G0 W0->∀ ρ T g r ρ',Wf K G H σ ρ T g->m ρ=some (r,ρ')->EndA K G W σ T ρ' Q r->P):P:=by
 obtain ⟨G,W,le,ρ,T,g,r,ρ',w,e,q⟩:=h.open
 exact k G W le ρ T g r ρ' w e q
theorem wy {Q:List V->Hp->Prop} (h:tA K G0 W0 ai σ H Q):yV σ H Q:=by
 refine h.use fun G W le ρ T g r ρ' w e q=>?_
 cases e
 exact q [] H [] g w .nil
theorem tw {m:EM} {ms:M3 (List R3)} {Q:List V->Hp->Prop} (h:tA K G0 W0 (ab m ms) σ H Q):pX (tE K G0 W0 m) (tA K G0 W0 ms) σ H Q:=by
 refine h.use fun G W le ρ T g r ρ' w e q=>?_
 refine tE.seq le w e q.err fun ra ρ1 e1 va H1 ⟨Ts,g1,w1,a1⟩=>?_
 refine tA.seq le w1 e1 q.err fun rs ρ2 e2 vs H2 Us g2 w2 a2=>?_
 cases e2
 refine q (va :: vs) H2 (Us ++ Ts) g2 ?_ (.cons a1 a2)
 rw [List.append_assoc]
 exact w2
noncomputable def ik:List R3->M3 (List D)
 | []=>bF []
 | r :: rs=>af (der r) fun d=>af (ik rs) fun ds=>bF (d :: ds)
theorem ul:∀ {rs:List R3} {ρ ρ':Sto} {o:Except D (List D)},ik rs ρ=some (o,ρ')->∃ ds,o=.ok ds/\ρ' = ρ
 | [],ρ,ρ',o,e=>by cases e;exact ⟨[],rfl,rfl⟩
 | r :: rs,ρ,ρ',o,e=>by
  obtain ⟨d,e1,e2⟩:=bg (k:=fun d=>af (ik rs) fun ds=>bF (d :: ds)) e
  unfold af at e2
  cases q:ik rs ρ with
  | none=>rw [q] at e2;exact nsE e2
  | some p =>
   obtain ⟨o',ρ1⟩:=p
   obtain ⟨ds,rfl,rfl⟩:=ul q
   rw [q] at e2
   cases e2
   exact ⟨d :: ds,rfl,rfl⟩
theorem eE {rs:List R3} {k:List D->M3 β} {o:Except D β} (e:af (ik rs) k ρ=some (o,ρ')):∃ ds,ik rs ρ=some (.ok ds,ρ)/\k ds ρ=some (o,ρ'):=by
 unfold af at e
 cases q:ik rs ρ with
 | none=>rw [q] at e;exact nsE e
 | some p =>
  obtain ⟨o',ρ1⟩:=p
  obtain ⟨ds,rfl,rfl⟩:=ul q
  rw [q] at e
  exact ⟨ds,rfl,e⟩
theorem Ars.items:∀ {rs:List R3} {vs:List V} {Ts:List It3} {ds:List D} ,Wf K G H σ ρ T g->Ars σ rs vs Ts->(∀ x ∈ Ts,x ∈ T)->ik rs ρ=some (.ok ds,ρ)->∃ ys:List It3,(∀ y ∈ ys,Itm T g y)/\ys.map (·.d)=ds/\ys.map (·.v)=vs
 | [],_,_,ds,w,.nil,_,e=>by cases e;exact ⟨[],fun _ h=>(by cases h),rfl,rfl⟩
 | r :: rs,_,_,ds,w,.cons a as,hs,e=>by
  obtain ⟨d,e1,e2⟩:=bg (k:=fun d=>af (ik rs) fun ds=>bF (d :: ds)) e
  obtain ⟨ds',e3,e4⟩:=eE e2
  cases e4
  obtain ⟨y,i1,f1,f2⟩:=a.item w (fun x hx=>hs x (Da _ hx)) e1
  obtain ⟨ys,i2,f3,f4⟩:=Ars.items w as (fun x hx=>hs x (C9 _ hx)) e3
  refine ⟨y :: ys,fun z hz=>?_,by simp [f1,f3],by simp [f2,f4]⟩
  rcases Db.mp hz with h | hz
  ·rw [h];exact i1
  ·exact i2 z hz
noncomputable def aD (f:List D->Option (D × Fl)) (ms:M3 (List R3)):EM:=af ms fun rs=>af (ik rs) fun ds=>bD ((f ds).map fun p=>R3.val p.1 p.2)
noncomputable def gL (K:FG) (r:List V->Hp->VK->Prop) (f:List D->Option (D × Fl)):Prop:=∀ (ys:List It3) (H:Hp) (Q:VK) (p:D × Fl),(∀ y ∈ ys,Arg K H y)->f (ys.map (·.d))=some p ->
 (∀ w H',New K H H' (fO ys) w->w.d=p.1->w.f=p.2->Q w.v H')->r (ys.map (·.v)) H Q
theorem jO {r:List V->Hp->VK->Prop} {f:List D->Option (D × Fl)} {ms:M3 (List R3)} {Q:VK} (ho:gL K r f) (h:tE K G0 W0 (aD f ms) σ H Q):tCB r (tA K G0 W0 ms) σ H Q:=by
 refine h.use fun G W le ρ T g o ρ' w e q=>?_
 refine tA.seq le w e q.err fun rs ρ1 e1 vs H1 Ts g1 w1 a1=>?_
 obtain ⟨ds,d1,e2⟩:=eE e1
 obtain ⟨p,e5,rfl,rfl⟩:=cF e2
 obtain ⟨ys,i1,f1,f2⟩:=a1.items w1 (fun x hx=>C9 _ hx) d1
 subst f1 f2
 cases ef:f (ys.map (·.d)) with
 | none=>rw [ef] at e5;exact nsE e5
 | some s =>
  rw [ef] at e5
  cases e5
  exact ho ys H1 Q s (fun y hy=>(w1.itm (i1 y hy)).arg) ef (qP w1 i1 q)
noncomputable def asB:D->Option Bool
 | .bl b=>some b
 | _=>none
noncomputable def i5 (ma mb:EM):EM:=af ma fun ra=>af (der ra) fun d=>af (bD (asB d)) fun b=>if b then mb else bF (.val (.bl false) .z)
noncomputable def mOr (ma mb:EM):EM:=af ma fun ra=>af (der ra) fun d=>af (bD (asB d)) fun b=>if b then bF (.val (.bl true) .z) else mb
noncomputable def Cq (ma:EM):EM:=af ma fun ra=>af (der ra) fun d=>af (bD (asB d)) fun b=>bF (.val (.bl (!b)) .z)
theorem jp {o:Option α} {k:α->M3 β} {r:Except D β} (e:af (bD o) k ρ=some (r,ρ')):∃ a,o=some a/\k a ρ=some (r,ρ'):=by
 unfold af bD at e
 cases o with
 | none=>exact nsE e
 | some a=>exact ⟨a,rfl,e⟩
theorem yD {d:D} {b:Bool} (e:asB d=some b):d=.bl b:=by
 cases d <;> first | exact nsE e | cases e
 rfl
theorem Rep.bl_eq {b:Bool} {v:V} {L:List Addr} (r:Rep K H (.bl b) v L):v=.bl b/\L=[]:=by cases r;exact ⟨rfl,rfl⟩
theorem Ar.bool {ra:R3} {v:V} {Ts:List It3} {d:D} {b:Bool} (w:Wf K G H σ ρ (Ts ++ T) g) (a:Ar σ ra v Ts) (e:der ra ρ=some (.ok d,ρ)) (hb:asB d=some b):v=.bl b:=by
 obtain ⟨y,i1,f1,f2⟩:=a.item w (fun x hx=>C9 _ hx) e
 have r:=(w.itm i1).rep
 rw [f1,yD hb] at r
 rw [<- f2]
 exact r.bl_eq.1
theorem BA {ma mb:EM} {Q:VK} (h:tE K G0 W0 (i5 ma mb) σ H Q):AS (tE K G0 W0 ma) (tE K G0 W0 mb) σ H Q:=by
 refine h.use fun G W le ρ T g o ρ' w e q=>?_
 refine tE.seq le w e q.err fun ra ρ1 e1 va H1 ⟨Ts,g1,w1,a1⟩=>?_
 obtain ⟨d,d1,e2⟩:=bg e1
 obtain ⟨b,hb,e3⟩:=jp e2
 refine ⟨b,a1.bool w1 d1 hb,?_⟩
 have w2:=w1.sub (Dj Ts T)
 cases b with
 | true=>exact tE.mk le w2 e3 q
 | false=>cases e3;exact q _ _ (w2.const (.bl false))
theorem tE_or {ma mb:EM} {Q:VK} (h:tE K G0 W0 (mOr ma mb) σ H Q):tOrV (tE K G0 W0 ma) (tE K G0 W0 mb) σ H Q:=by
 refine h.use fun G W le ρ T g o ρ' w e q=>?_
 refine tE.seq le w e q.err fun ra ρ1 e1 va H1 ⟨Ts,g1,w1,a1⟩=>?_
 obtain ⟨d,d1,e2⟩:=bg e1
 obtain ⟨b,hb,e3⟩:=jp e2
 refine ⟨b,a1.bool w1 d1 hb,?_⟩
 have w2:=w1.sub (Dj Ts T)
 cases b with
 | false=>exact tE.mk le w2 e3 q
 | true=>cases e3;exact q _ _ (w2.const (.bl true))
theorem Bx {ma:EM} {Q:VK} (h:tE K G0 W0 (Cq ma) σ H Q):AL (tE K G0 W0 ma) σ H Q:=by
 refine h.use fun G W le ρ T g o ρ' w e q=>?_
 refine tE.seq le w e q.err fun ra ρ1 e1 va H1 ⟨Ts,g1,w1,a1⟩=>?_
 obtain ⟨d,d1,e2⟩:=bg e1
 obtain ⟨b,hb,e3⟩:=jp e2
 refine ⟨b,a1.bool w1 d1 hb,?_⟩
 have w2:=w1.sub (Dj Ts T)
 cases e3;exact q _ _ (w2.const (.bl (!b)))
noncomputable def EndT (K:FG) (G:Gm) (W:D->Sto->Prop) (σ:St) (T:List It3) (ρ':Sto) (Q:Bool->Hp->Prop):Except D Bool->Prop
 | .ok b=>∀ H' g',Wf K G H' σ ρ' T g'->Q b H'
 | .error e=>W e ρ'
theorem EndT.err {Q:Bool->Hp->Prop} {r:Except D Bool} (h:EndT K G W σ T ρ' Q r):∀ x,r=.error x->W x ρ':=by
 intro x e;subst e;exact h
theorem tT.open {m:M3 Bool} {Q:Bool->Hp->Prop} (h:tT K G0 W0 m σ H Q):∃ G W,Le K G W G0 W0/\∃ ρ T g r ρ',Wf K G H σ ρ T g/\m ρ=some (r,ρ')/\EndT K G W σ T ρ' Q r:=by
 obtain ⟨G,W,le,ρ,T,g,r,ρ',w,e,q⟩:=h
 refine ⟨G,W,le,ρ,T,g,r,ρ',w,e,?_⟩
 cases r with
 | ok r=>exact q
 | error x=>exact q
theorem tT.use {m:M3 Bool} {Q:Bool->Hp->Prop} (h:tT K G0 W0 m σ H Q) {P:Prop} (k:∀ G W,Le K G W G0 W0->∀ ρ T g r ρ',Wf K G H σ ρ T g->m ρ=some (r,ρ')->EndT K G W σ T ρ' Q r->P):P:=by
 obtain ⟨G,W,le,ρ,T,g,r,ρ',w,e,q⟩:=h.open
 exact k G W le ρ T g r ρ' w e q
theorem tT.mk {m:M3 Bool} {Q:Bool->Hp->Prop} {r:Except D Bool} (le:Le K G W G0 W0) (w:Wf K G H σ ρ T g) (e:m ρ=some (r,ρ')) (h:EndT K G W σ T ρ' Q r):tT K G0 W0 m σ H Q:=by
 refine ⟨G,W,le,ρ,T,g,r,ρ',w,e,?_⟩
 cases r with
 | ok r=>exact h
 | error x=>exact h
noncomputable def cB (m:EM):M3 Bool:=af m fun r=>af (der r) fun d=>bD (asB d)
theorem Bi {m:EM} {Q:Bool->Hp->Prop} (h:tT K G0 W0 (cB m) σ H Q):tB (tE K G0 W0 m) σ H Q:=by
 refine h.use fun G W le ρ T g o ρ' w e q=>?_
 refine tE.seq le w e q.err fun ra ρ1 e1 va H1 ⟨Ts,g1,w1,a1⟩=>?_
 obtain ⟨d,d1,e2⟩:=bg e1
 obtain ⟨b,hb,rfl,rfl⟩:=cF e2
 exact ⟨b,a1.bool w1 d1 hb,q _ _ (w1.sub (Dj Ts T))⟩
noncomputable def sU (a b:M3 Bool):M3 Bool:=af a fun c=>if c then b else bF false
noncomputable def cOr (a b:M3 Bool):M3 Bool:=af a fun c=>if c then bF true else b
noncomputable def jc (a:M3 Bool):M3 Bool:=af a fun c=>bF (!c)
theorem Bj {a b:M3 Bool} {Q:Bool->Hp->Prop} (h:tT K G0 W0 (sU a b) σ H Q):tAnd (tT K G0 W0 a) (tT K G0 W0 b) σ H Q:=by
 refine h.use fun G W le ρ T g o ρ' w e q=>?_
 refine tT.seq le w e q.err fun c ρ1 e1 H1 g1 w1=>?_
 cases c with
 | true=>exact tT.mk le w1 e1 q
 | false=>cases e1;exact q _ _ w1
theorem tT_or {a b:M3 Bool} {Q:Bool->Hp->Prop} (h:tT K G0 W0 (cOr a b) σ H Q):tOr (tT K G0 W0 a) (tT K G0 W0 b) σ H Q:=by
 refine h.use fun G W le ρ T g o ρ' w e q=>?_
 refine tT.seq le w e q.err fun c ρ1 e1 H1 g1 w1=>?_
 cases c with
 | false=>exact tT.mk le w1 e1 q
 | true=>cases e1;exact q _ _ w1
theorem Bh {a:M3 Bool} {Q:Bool->Hp->Prop} (h:tT K G0 W0 (jc a) σ H Q):tNot (tT K G0 W0 a) σ H Q:=by
 refine h.use fun G W le ρ T g o ρ' w e q=>?_
 refine tT.seq le w e q.err fun c ρ1 e1 H1 g1 w1=>?_
 cases e1;exact q _ _ w1
noncomputable def mIf (c:M3 Bool) (ma mb:EM):EM:=af c fun b=>if b then ma else mb
theorem tE_if {c:M3 Bool} {ma mb:EM} {Q:VK} (h:tE K G0 W0 (mIf c ma mb) σ H Q):tIf (tT K G0 W0 c) (tE K G0 W0 ma) (tE K G0 W0 mb) σ H Q:=by
 refine h.use fun G W le ρ T g o ρ' w e q=>?_
 refine tT.seq le w e q.err fun c ρ1 e1 H1 g1 w1=>?_
 cases c with
 | true=>exact tE.mk le w1 e1 q
 | false=>exact tE.mk le w1 e1 q
end
end L3
end
section
namespace L3
open PySem L2
noncomputable def fc (x:It3):It3:={ x with f:=.z }
theorem dW {x y:It3}:NoRoot (fc x) y:=fun h=>absurd rfl h
noncomputable def lowAt (i:Nat) (ρ:Sto):Sto:=match (ρ[i]?).join with
 | some (d,.u)=>ρ.set i (some (d,.z))
 | some (d,.l)=>ρ.set i (some (d,.z))
 | _=>ρ
noncomputable def frz (is:List Nat) (ρ:Sto):Sto:=is.foldl (fun ρ i=>lowAt i ρ) ρ
noncomputable def frz3 (is:List Nat):M3 Unit:=fun ρ=>some (.ok (),frz is ρ)
noncomputable def pls:List R3->List Nat
 | []=>[]
 | .pl i :: rs=>i :: pls rs
 | .val _ _ :: rs=>pls rs
section
variable {K:FG} {G G0:Gm} {W W0:D->Sto->Prop} {H H':Hp} {σ:St} {ρ ρ':Sto} {T T':List It3} {g:Nat->Option It3} {x y z:It3} {α β:Type}
theorem ItOk.low (h:ItOk K G H x):ItOk K G H (fc x):=⟨h.rep,fun q=>absurd rfl q,h.src⟩
theorem cM {ρ:Sto} {i j:Nat} {o:Option (D × Fl)} (hi:i < ρ.length):((ρ.set i o)[j]?).join=if j=i then o else (ρ[j]?).join:=by
 by_cases e:j=i
 ·subst e
  rw [if_pos rfl,List.getElem?_set_self hi]
  rfl
 ·rw [if_neg e,List.getElem?_set_ne (fun h=>e h.symm)]
theorem fu {ρ:Sto} {i:Nat} {p:D × Fl} (h:(ρ[i]?).join=some p):i < ρ.length:=by
 cases q:ρ[i]? with
 | none=>rw [q] at h;exact nsE h
 | some o=>exact (Dh.mp q).1
theorem Wf.lowSlot (w:Wf K G H σ ρ T g) {i:Nat} {d:D} {f:Fl} (e:(ρ[i]?).join=some (d,f)):Wf K G H σ (ρ.set i (some (d,.z))) T (fun j=>if j=i then (g i).map fc else g j):=by
 have hi:=fu e
 obtain ⟨y,gy,ed,ef,ev⟩:=w.slot e
 have val:∀ j x,(if j=i then (g i).map fc else g j)=some x->∃ x0,g j=some x0/\(x=x0\/x=fc x0)/\(j=i->x=fc x0):=fun j x h=>by
  by_cases q:j=i
  ·subst q
   rw [if_pos rfl,gy] at h
   cases h
   exact ⟨y,gy,.inr rfl,fun _=>rfl⟩
  ·rw [if_neg q] at h
   exact ⟨x,h,.inl rfl,fun z=>absurd z q⟩
 have nr:∀ {a b:It3},NoRoot a b->∀ a' b',(a'=a\/a'=fc a)->(b'=b\/b'=fc b)->NoRoot a' b':=fun h a' b' h1 h2=>by
  rcases h1 with rfl | rfl
  ·rcases h2 with rfl | rfl
   ·exact h
   ·exact h
  ·exact dW
 refine ⟨by rw [List.length_set];exact w.len,fun j=>?_,fun j x h=>?_,fun j x h=>?_,w.okT,fun j k a b n h1 h2=>?_,fun j a h b hb=>?_,w.tt,w.base,w.pro,⟨w.fx.frT,fun j x h hp hf a ea=>?_,w.fx.bin,w.fx.ob,fun j x h hl=>?_⟩⟩
 ·rw [cM hi]
  by_cases q:j=i
  ·subst q
   rw [if_pos rfl,if_pos rfl,gy]
   show some ((fc y).d,Fl.z)=_
   rw [<- ed];rfl
  ·rw [if_neg q,if_neg q];exact w.sl j
 ·obtain ⟨x0,h0,hx,_⟩:=val j x h
  have:=w.sv j x0 h0
  rcases hx with rfl | rfl <;> exact this
 ·obtain ⟨x0,h0,hx,_⟩:=val j x h
  rcases hx with rfl | rfl
  ·exact w.okS j x h0
  ·exact (w.okS j x0 h0).low
 ·obtain ⟨a0,h0,ha,_⟩:=val j a h1
  obtain ⟨b0,h0',hb,_⟩:=val k b h2
  exact nr (w.ss j k a0 b0 n h0 h0') a b ha hb
 ·obtain ⟨a0,h0,ha,_⟩:=val j a h
  exact ⟨nr (w.st j a0 h0 b hb).1 a b ha (.inl rfl),nr (w.st j a0 h0 b hb).2 b a (.inl rfl) ha⟩
 ·obtain ⟨x0,h0,hx,_⟩:=val j x h
  rcases hx with rfl | rfl
  ·exact w.fx.frS j x h0 hp hf a ea
  ·exact absurd rfl hf
 ·obtain ⟨x0,h0,hx,_⟩:=val j x h
  rcases hx with rfl | rfl
  ·exact w.fx.lvS j x h0 hl
  ·cases hl
noncomputable def Kin (x y:It3):Prop:=y.d=x.d/\y.v=x.v/\y.L=x.L/\(y.f=x.f\/y.f=.z)
theorem Kin.refl (x:It3):Kin x x:=⟨rfl,rfl,rfl,.inl rfl⟩
theorem Kin.trans (a:Kin x y) (b:Kin y z):Kin x z:=⟨b.1.trans a.1,b.2.1.trans a.2.1,b.2.2.1.trans a.2.2.1,by
 rcases b.2.2.2 with h | h
 ·rcases a.2.2.2 with h' | h'
  ·exact .inl (h.trans h')
  ·exact .inr (h.trans h')
 ·exact .inr h⟩
theorem Wf.lowAt {i:Nat} (w:Wf K G H σ ρ T g):∃ g',Wf K G H σ (lowAt i ρ) T g'/\(∀ j y,g j=some y->∃ y',g' j=some y'/\Kin y y'/\(j=i->y'.f=.z)):=by
 have keep:∀ d,(ρ[i]?).join=some (d,.z)->∃ g',Wf K G H σ ρ T g'/\(∀ j y,g j=some y->∃ y',g' j=some y'/\Kin y y'/\(j=i->y'.f=.z)):=fun d e=>⟨g,w,fun j y h=>⟨y,h,Kin.refl y,fun q=>by
  subst q
  obtain ⟨y',h',_,hf,_⟩:=w.slot e
  rw [h] at h';cases h';exact hf⟩⟩
 have low:∀ d f,(ρ[i]?).join=some (d,f)->∃ g',Wf K G H σ (ρ.set i (some (d,.z))) T g'/\(∀ j y,g j=some y->∃ y',g' j=some y'/\Kin y y'/\(j=i->y'.f=.z)):=fun d f e=>⟨_,w.lowSlot e,fun j y h=>by
  by_cases q:j=i
  ·subst q;exact ⟨fc y,by rw [if_pos rfl,h];rfl,⟨rfl,rfl,rfl,.inr rfl⟩,fun _=>rfl⟩
  ·exact ⟨y,by rw [if_neg q];exact h,Kin.refl y,fun z=>absurd z q⟩⟩
 unfold L3.lowAt
 cases e:(ρ[i]?).join with
 | none =>
  refine ⟨g,w,fun j y h=>⟨y,h,Kin.refl y,fun q=>?_⟩⟩
  subst q
  have:=w.sl j
  rw [h,e] at this;cases this
 | some p =>
  obtain ⟨d,f⟩:=p
  cases f with
  | u=>exact low d _ e
  | l=>exact low d _ e
  | z=>exact keep d e
theorem Wf.frz:∀ {is:List Nat} {ρ:Sto} {g:Nat->Option It3},Wf K G H σ ρ T g->∃ g',Wf K G H σ (frz is ρ) T g'/\(∀ j y,g j=some y->∃ y',g' j=some y'/\Kin y y'/\(j ∈ is->y'.f=.z))
 | [],ρ,g,w=>⟨g,w,fun j y h=>⟨y,h,Kin.refl y,fun q=>by cases q⟩⟩
 | i :: is,ρ,g,w=>by
  obtain ⟨g1,w1,h1⟩:=w.lowAt (i:=i)
  obtain ⟨g2,w2,h2⟩:=Wf.frz (is:=is) w1
  refine ⟨g2,w2,fun j y h=>?_⟩
  obtain ⟨y1,e1,k1,z1⟩:=h1 j y h
  obtain ⟨y2,e2,k2,z2⟩:=h2 j y1 e1
  refine ⟨y2,e2,k1.trans k2,fun hm=>?_⟩
  rcases Db.mp hm with q | q
  ·rcases k2.2.2.2 with h | h
   ·exact h.trans (z1 q)
   ·exact h
  ·exact z2 q
theorem Wf.lowT {Ts:List It3} (w:Wf K G H σ ρ (Ts ++ T) g):Wf K G H σ ρ (Ts.map fc ++ T) g:=by
 have sp:∀ {a b:It3},Apart3 a b->Apart3 (fc a) (fc b):=fun h=>⟨dW,dW⟩
 refine ⟨w.len,w.sl,w.sv,w.okS,fun x hx=>?_,w.ss,fun i x e y hy=>?_,?_,w.base,w.pro,⟨fun x hx hf a ea=>?_,w.fx.frS,w.fx.bin,w.fx.ob,w.fx.lvS⟩⟩
 ·rcases De.mp hx with h | h
  ·obtain ⟨x0,h0,rfl⟩:=Dk.mp h
   exact (w.okT x0 (C9 _ h0)).low
  ·exact w.okT x (Da _ h)
 ·rcases De.mp hy with h | h
  ·obtain ⟨y0,h0,rfl⟩:=Dk.mp h
   exact ⟨(w.st i x e y0 (C9 _ h0)).1,dW⟩
  ·exact w.st i x e y (Da _ h)
 ·have h:=List.pairwise_append.mp w.tt
  refine List.pairwise_append.mpr ⟨?_,h.2.1,fun a ha b hb=>?_⟩
  ·rw [List.pairwise_map]
   exact h.1.imp fun h=>sp h
  ·obtain ⟨a0,h0,rfl⟩:=Dk.mp ha
   exact ⟨dW,(h.2.2 a0 h0 b hb).2⟩
 ·rcases De.mp hx with h | h
  ·obtain ⟨x0,h0,rfl⟩:=Dk.mp h
   exact absurd rfl hf
  ·exact w.fx.frT x (Da _ h) hf a ea
theorem lG:∀ {rs:List R3} {i:Nat},R3.pl i ∈ rs->i ∈ pls rs
 | [],_,h=>by cases h
 | .pl j :: rs,i,h=>by
  rcases Db.mp h with e | h
  ·cases e;exact C5
  ·exact C6 _ (lG h)
 | .val _ _ :: rs,i,h=>by
  rcases Db.mp h with e | h
  ·cases e
  ·exact lG (rs:=rs) h
theorem Ars.given:∀ {rs:List R3} {vs:List V} {Ts:List It3} {ds:List D} {S:List It3} {g':Nat->Option It3} {is:List Nat},Wf K G H σ ρ T g->(∀ j y,g j=some y->∃ y',g' j=some y'/\Kin y y'/\(j ∈ is->y'.f=.z))->(∀ i,R3.pl i ∈ rs->i ∈ is) ->
  Ars σ rs vs Ts->(∀ x ∈ Ts,x ∈ T)->(∀ x ∈ Ts,fc x ∈ S)->ik rs ρ=some (.ok ds,ρ)->∃ ys:List It3,(∀ y ∈ ys,Itm S g' y/\y.f=.z)/\ys.map (·.d)=ds/\ys.map (·.v)=vs
 | [],_,_,ds,S,g',is,w,hg,hi,.nil,_,_,e=>by cases e;exact ⟨[],fun _ h=>(by cases h),rfl,rfl⟩
 | r :: rs,_,_,ds,S,g',is,w,hg,hi,.cons (v:=v0) a as,hs,hS,e=>by
  obtain ⟨d,e1,e2⟩:=bg (k:=fun d=>af (ik rs) fun ds=>bF (d :: ds)) e
  obtain ⟨ds',e3,e4⟩:=eE e2
  cases e4
  obtain ⟨ys,i2,f3,f4⟩:=Ars.given w hg (fun i h=>hi i (C6 _ h)) as (fun x hx=>hs x (C9 _ hx)) (fun x hx=>hS x (C9 _ hx)) e3
  have one:∃ y,(Itm S g' y/\y.f=.z)/\y.d=d/\y.v=v0:=by
   cases a with
   | @pl i v h =>
    have er:der (.pl i) ρ=((ρ[i]?).join).map fun p=>(.ok p.1,ρ):=rfl
    rw [er] at e1
    cases q:(ρ[i]?).join with
    | none=>rw [q] at e1;exact nsE e1
    | some p =>
     rw [q] at e1
     obtain ⟨y,y1,y2,y3,y4⟩:=w.slot (d:=p.1) (f:=p.2) q
     obtain ⟨y',h1,h2,h3⟩:=hg i y y1
     have e5:p.1=d:=by cases e1;rfl
     rw [h] at y4
     refine ⟨y',⟨.inl ⟨i,h1⟩,h3 (hi i C5)⟩,h2.1.trans (y2.trans e5),?_⟩
     rw [h2.2.1];cases y4;rfl
   | val x=>cases e1;exact ⟨fc x,⟨.inr (hS x (by simp)),rfl⟩,rfl,rfl⟩
  obtain ⟨y,i1,f1,f2⟩:=one
  refine ⟨y :: ys,fun z hz=>?_,by simp [f1,f3],by simp [f2,f4]⟩
  rcases Db.mp hz with h | hz
  ·rw [h];exact i1
  ·exact i2 z hz
noncomputable def ff (ys:List It3) (c:Addr):Prop:=∃ y ∈ ys,c ∈ y.L
noncomputable def gives (rs:List R3):M3 (List D):=af (ik rs) fun ds=>af (frz3 (pls rs)) fun _=>bF ds
theorem Ars.gives {rs:List R3} {vs:List V} {Ts:List It3} {k:List D->M3 β} {r:Except D β} (w:Wf K G H σ ρ (Ts ++ T) g) (a:Ars σ rs vs Ts) (e:af (gives rs) k ρ=some (r,ρ')) :
  ∃ ds ρ1 g1,k ds ρ1=some (r,ρ')/\ρ1=frz (pls rs) ρ/\Wf K G H σ ρ1 (Ts.map fc ++ T) g1/\(∀ j y,g j=some y->∃ y',g1 j=some y'/\Kin y y')/\∃ ys:List It3,(∀ y ∈ ys,Itm (Ts.map fc ++ T) g1 y/\y.f=.z)/\ys.map (·.d)=ds/\ys.map (·.v)=vs:=by
 unfold L3.gives at e
 have e0:af (ik rs) (fun ds=>af (frz3 (pls rs)) fun _=>k ds) ρ=some (r,ρ'):=by
  rw [<- e]
  unfold af
  cases q:ik rs ρ with
  | none=>rfl
  | some p =>
   obtain ⟨o,ρ2⟩:=p
   cases o with
   | error x=>rfl
   | ok ds=>rfl
 obtain ⟨ds,d1,e1⟩:=eE e0
 obtain ⟨g1,w1,h1⟩:=Wf.frz (is:=pls rs) w
 refine ⟨ds,L3.frz (pls rs) ρ,g1,e1,rfl,w1.lowT,fun j y h=>let ⟨y',a,b,_⟩:=h1 j y h;⟨y',a,b⟩,?_⟩
 exact Ars.given w h1 (fun i h=>lG h) a (fun x hx=>C9 _ hx) (fun x hx=>C9 _ (Dk.mpr ⟨x,hx,rfl⟩)) d1
theorem Wf.alls (w:Wf K G H σ ρ T g) {ys:List It3} (hy:∀ y ∈ ys,Itm T g y/\y.f=.z) {c:Addr} (h:ff ys c):fw T g c/\(G.H0 c=none\/G.src c):=by
 obtain ⟨y,m,hc⟩:=h
 exact ⟨w.kid (hy y m).1 hc fun hf=>absurd (hy y m).2 hf,(w.itm (hy y m).1).src c hc⟩
theorem Wf.doneA {Us:List It3} {ys:List It3} (w:Wf K G H σ ρ (Us ++ T) g) (hy:∀ y ∈ ys,Itm (Us ++ T) g y/\y.f=.z) (n:New K H H' (ff ys) x):Got K G σ ρ T (.val x.d x.f) x.v H' :=
 ⟨[x],g,(w.push n fun c h=>w.alls hy h).sub (by simpa using List.Sublist.cons_cons x (Dj Us T)),.val x⟩
theorem lD:∀ {ys:List It3},(∀ y ∈ ys,Rep K H y.d y.v y.L)->Reps (Rep K H) (ys.map (·.d)) (ys.map (·.v)) (ys.map (·.L)).flatten
 | [],_=>.nil
 | y :: ys,h=>.cons (h y C5) (lD fun z hz=>h z (C6 _ hz))
theorem gz {ys:List It3} {c:Addr} (h:c ∈ (ys.map (·.L)).flatten):ff ys c:=by
 obtain ⟨l,hl,hc⟩:=List.mem_flatten.mp h
 obtain ⟨y,hy,rfl⟩:=Dk.mp hl
 exact ⟨y,hy,hc⟩
noncomputable def Ag (mk:List D->D) (f:Fl) (ms:M3 (List R3)):EM:=af ms fun rs=>af (gives rs) fun ds=>bD (if ds.length<=16777216 then some (.val (mk ds) f) else none)
noncomputable abbrev cL:M3 (List R3)->EM:=Ag .tup .z
noncomputable abbrev lp:M3 (List R3)->EM:=Ag .lst .u
theorem bW {H:Hp} {p:Addr} {o:HO} (h:H p=none):Same H (upd H p o):=fun b u e=>by
 rw [aR (bP e h)];exact e
set_option tactic.hygienic true in
theorem Bw (hz:(16777216:Nat)=sizeLine) {ms:M3 (List R3)} {Q:VK} (h:tE K G0 W0 (cL ms) σ H Q):tTup (tA K G0 W0 ms) σ H Q:=by
 refine h.use fun G W le ρ T g o ρ' w e q=>?_
 refine tA.seq le w e q.err fun rs ρ1 e1 vs H1 Ts g1 w1 a1=>?_
 obtain ⟨ds,ρ2,g2,e2,_,w2,_,ys,hy,f1,f2⟩:=a1.gives w1 e1
 obtain ⟨v,e3,rfl,rfl⟩:=cF e2
 subst f1 f2
 split at e3
 ·rename_i hl
  cases e3
  refine ⟨by rw [Dg] at hl ⊢;omega,fun p hp=>?_⟩
  refine q _ _ (Wf.doneA (x:=⟨.tup (ys.map (·.d)),.ref p,(ys.map (·.L)).flatten,.z⟩) w2 hy ⟨bW hp,.tup bC ((lD fun y hy'=>(w2.itm (hy y hy').1).rep).same (bW hp)),fun c hc=>.inr (gz hc),fun hf=>absurd rfl hf⟩)
 ·exact nsE e3
set_option tactic.hygienic true in
theorem Bz (hz:(16777216:Nat)=sizeLine) {ms:M3 (List R3)} {Q:VK} (h:tE K G0 W0 (lp ms) σ H Q):tLst (tA K G0 W0 ms) σ H Q:=by
 refine h.use fun G W le ρ T g o ρ' w e q=>?_
 refine tA.seq le w e q.err fun rs ρ1 e1 vs H1 Ts g1 w1 a1=>?_
 obtain ⟨ds,ρ2,g2,e2,_,w2,_,ys,hy,f1,f2⟩:=a1.gives w1 e1
 obtain ⟨v,e3,rfl,rfl⟩:=cF e2
 subst f1 f2
 split at e3
 ·rename_i hl
  cases e3
  refine ⟨by rw [Dg] at hl ⊢;omega,fun p hp=>?_⟩
  have np:p ∉ (ys.map (·.L)).flatten:=fun hc=>by
   obtain ⟨y,hm,hc⟩:=gz hc
   obtain ⟨o,ho⟩:=((w2.itm (hy y hm).1).rep.inH p hc).ex
   rw [hp] at ho;exact nsE ho
  refine q _ _ (Wf.doneA (x:=⟨.lst (ys.map (·.d)),.ref p,p :: (ys.map (·.L)).flatten,.u⟩) w2 hy ⟨bW hp,.lst bC ((lD fun y hy'=>(w2.itm (hy y hy').1).rep).same (bW hp)),fun c hc=>?_,fun _=>⟨rfl,p,_,rfl,rfl,np,hp⟩⟩)
  rcases Db.mp hc with e | hc
  ·rw [e];exact .inl hp
  ·exact .inr (gz hc)
 ·exact nsE e3
end
end L3
end
section
namespace L3
open PySem L2
section
variable {K:FG} {G G0:Gm} {W W0:D->Sto->Prop} {H H':Hp} {σ:St} {ρ ρ':Sto} {T T':List It3} {g:Nat->Option It3} {x y z:It3} {α β:Type}
noncomputable def EndS (K:FG) (G:Gm) (W:D->Sto->Prop) (T:List It3) (ρ':Sto) (E:Ends):Except D Flw->Prop
 | .ok .nx=>∀ σ' H' g',Wf K G H' σ' ρ' T g'->E.nx σ' H'
 | .ok .br=>∀ σ' H' g',Wf K G H' σ' ρ' T g'->E.bk σ' H'
 | .ok .ct=>∀ σ' H' g',Wf K G H' σ' ρ' T g'->E.ct σ' H'
 | .ok (.rt d f)=>∀ x σ' H' g',Wf K G H' σ' ρ' (x :: T) g'->x.d=d->x.f=f->E.rt x.v H'
 | .error e=>W e ρ'
theorem EndS.err {E:Ends} {r:Except D Flw} (h:EndS K G W T ρ' E r):∀ x,r=.error x->W x ρ':=by
 intro x e;subst e;exact h
theorem tS.open {m:SM} {E:Ends} (h:tS K G0 W0 m E σ H):∃ G W,Le K G W G0 W0/\∃ ρ T g r ρ',Wf K G H σ ρ T g/\m ρ=some (r,ρ')/\EndS K G W T ρ' E r:=by
 obtain ⟨G,W,le,ρ,T,g,r,ρ',w,e,q⟩:=h
 refine ⟨G,W,le,ρ,T,g,r,ρ',w,e,?_⟩
 cases r with
 | ok r=>cases r <;> exact q
 | error x=>exact q
theorem tS.use {m:SM} {E:Ends} (h:tS K G0 W0 m E σ H) {P:Prop} (k:∀ G W,Le K G W G0 W0->∀ ρ T g r ρ',Wf K G H σ ρ T g->m ρ=some (r,ρ')->EndS K G W T ρ' E r->P):P:=by
 obtain ⟨G,W,le,ρ,T,g,r,ρ',w,e,q⟩:=h.open
 exact k G W le ρ T g r ρ' w e q
theorem tS.mk {m:SM} {E:Ends} {r:Except D Flw} (le:Le K G W G0 W0) (w:Wf K G H σ ρ T g) (e:m ρ=some (r,ρ')) (h:EndS K G W T ρ' E r):tS K G0 W0 m E σ H:=by
 refine ⟨G,W,le,ρ,T,g,r,ρ',w,e,?_⟩
 cases r with
 | ok r=>cases r <;> exact h
 | error x=>exact h
noncomputable def d9:SM:=bF .nx
noncomputable def aK (a b:SM):SM:=af a fun f=>match f with
 | .nx=>b
 | o=>bF o
theorem Bq {E:Ends} (h:tS K G0 W0 d9 E σ H):AM E σ H:=by
 refine h.use fun G W le ρ T g r ρ' w e q=>?_
 cases e
 exact q _ _ _ w
theorem Bo {a b:SM} {E:Ends} (h:tS K G0 W0 (aK a b) E σ H):tSeq (tS K G0 W0 a) (tS K G0 W0 b) E σ H:=by
 refine h.use fun G W le ρ T g r ρ' w e q=>?_
 unfold aK af at e
 cases p:a ρ with
 | none=>rw [p] at e;exact nsE e
 | some p' =>
  obtain ⟨o,ρ1⟩:=p'
  rw [p] at e
  cases o with
  | error x=>cases e;exact tS.mk le w p q
  | ok f =>
   cases f with
   | nx=>exact tS.mk le (r:=.ok .nx) w p fun σ' H' g' w'=>tS.mk le w' e q
   | br=>cases e;exact tS.mk le w p q
   | ct=>cases e;exact tS.mk le w p q
   | rt d f=>cases e;exact tS.mk le w p q
noncomputable def fH (m:EM):SM:=af m fun _=>bF .nx
theorem yT {m:EM} {E:Ends} (h:tS K G0 W0 (fH m) E σ H):AO (tE K G0 W0 m) E σ H:=by
 refine h.use fun G W le ρ T g r ρ' w e q=>?_
 refine tE.seq le w e q.err fun ra ρ1 e1 v H1 ⟨Ts,g1,w1,a1⟩=>?_
 cases e1
 exact q _ _ _ (w1.sub (Dj Ts T))
noncomputable def sIf (c:M3 Bool) (a b:SM):SM:=af c fun t=>if t then a else b
theorem tS_if {c:M3 Bool} {a b:SM} {E:Ends} (h:tS K G0 W0 (sIf c a b) E σ H):tIfS (tT K G0 W0 c) (tS K G0 W0 a) (tS K G0 W0 b) E σ H:=by
 refine h.use fun G W le ρ T g r ρ' w e q=>?_
 refine tT.seq le w e q.err fun t ρ1 e1 H1 g1 w1=>?_
 cases t with
 | true=>exact tS.mk le w1 e1 q
 | false=>exact tS.mk le w1 e1 q
noncomputable def nol:Fl->Fl
 | .u=>.u
 | _=>.z
theorem Ck (f:Fl):nol f ≠ .l:=by cases f <;> intro h <;> cases h
theorem Cj (f:Fl):nol f=f\/nol f=.z:=by cases f <;> first | exact .inl rfl | exact .inr rfl
noncomputable def fU (r:R3):M3 (D × Fl):=match r with
 | .val d f=>bF (d,nol f)
 | .pl i=>fun ρ=>((ρ[i]?).join).map fun p=>(.ok (p.1,.z),lowAt i ρ)
theorem pV {i:Nat}:fU (.pl i) ρ=((ρ[i]?).join).map fun p=>(.ok (p.1,.z),lowAt i ρ):=rfl
theorem Ar.val_inv {d:D} {f:Fl} {v:V} {Ts:List It3} (a:Ar σ (.val d f) v Ts):∃ x,Ts=[x]/\x.d=d/\x.f=f/\x.v=v:=by
 generalize h:R3.val d f=r at a
 cases a with
 | pl _=>cases h
 | val x=>cases h;exact ⟨x,rfl,rfl,rfl,rfl⟩
theorem Ar.take {r:R3} {v:V} {Ts:List It3} {k:D × Fl->M3 β} {o:Except D β} (w:Wf K G H σ ρ (Ts ++ T) g) (a:Ar σ r v Ts) (e:af (fU r) k ρ=some (o,ρ')) :
  ∃ p ρ1 g1 x,k p ρ1=some (o,ρ')/\Wf K G H σ ρ1 (x :: T) g1/\x.d=p.1/\(p.2=x.f\/p.2=.z)/\p.2 ≠ .l/\x.v=v:=by
 cases a with
 | val x=>exact ⟨(x.d,nol x.f),ρ,g,x,e,w,rfl,Cj _,Ck _,rfl⟩
 | @pl i v h =>
  unfold af at e
  rw [pV] at e
  cases q:(ρ[i]?).join with
  | none=>rw [q] at e;exact nsE e
  | some p =>
   rw [q] at e
   obtain ⟨y,y1,y2,y3,y4⟩:=w.slot (d:=p.1) (f:=p.2) q
   obtain ⟨g1,w1,h1⟩:=w.lowAt (i:=i)
   obtain ⟨y',z1,z2,z3⟩:=h1 i y y1
   have hz:=z3 rfl
   refine ⟨(p.1,.z),_,g1,y',e,?_,z2.1.trans y2,.inr rfl,(by intro h;cases h),?_⟩
   ·have nr:∀ u:It3,NoRoot y' u:=fun u hf=>absurd hz hf
    refine ⟨w1.len,w1.sl,w1.sv,w1.okS,fun u hu=>?_,w1.ss,fun j u eu u' hu=>?_,?_,w1.base,w1.pro,⟨fun u hu hf a ea=>?_,w1.fx.frS,w1.fx.bin,w1.fx.ob,w1.fx.lvS⟩⟩
    ·rcases Db.mp hu with h | hu
     ·rw [h];exact w1.okS i y' z1
     ·exact w1.okT u hu
    ·rcases Db.mp hu with h | hu
     ·rw [h]
      refine ⟨?_,nr _⟩
      by_cases ij:j=i
      ·subst ij
       rw [z1] at eu;cases eu
       exact nr _
      ·exact w1.ss j i u y' ij eu z1
     ·exact w1.st j u eu u' hu
    ·exact List.pairwise_cons.mpr ⟨fun u hu=>⟨nr _,(w1.st i y' z1 u hu).2⟩,w1.tt⟩
    ·rcases Db.mp hu with h | hu
     ·rw [h] at hf;exact absurd hz hf
     ·exact w1.fx.frT u hu hf a ea
   ·rw [z2.2.1]
    rw [h] at y4;cases y4;rfl
theorem Wf.store {i:Nat} {f:Fl} (w:Wf K G H σ ρ (x :: T) g) (hi:i < ρ.length) (hp:G.pr i=false) (hf:f=x.f\/f=.z) (hnl:f ≠ .l) :
  Wf K G H (σ.set i (some x.v)) (ρ.set i (some (x.d,f))) T (fun j=>if j=i then some { x with f:=f } else g j):=by
 have hil:i < σ.length:=by rw [w.len];exact hi
 have tx:=List.pairwise_cons.mp w.tt
 have ox:=w.okT x C5
 have nx:∀ u:It3,NoRoot x u->NoRoot { x with f:=f } u:=fun u h q=>by
  rcases hf with e | e
  ·exact h (by rw [<- e];exact q)
  ·exact absurd e q
 have val:∀ j u,(if j=i then some { x with f:=f } else g j)=some u->(j=i/\u = { x with f:=f })\/(j ≠ i/\g j=some u):=fun j u h=>by
  by_cases q:j=i
  ·rw [if_pos q] at h;cases h;exact .inl ⟨q,rfl⟩
  ·rw [if_neg q] at h;exact .inr ⟨q,h⟩
 refine ⟨by rw [List.length_set,List.length_set];exact w.len,fun j=>?_,fun j u h=>?_,fun j u h=>?_,fun u hu=>w.okT u (C6 _ hu),fun j k a b n h1 h2=>?_,fun j a h b hb=>?_,tx.2,w.base,fun j hj=>?_,⟨fun u hu=>w.fx.frT u (C6 _ hu),fun j u h hpj hfu a ea=>?_,w.fx.bin,w.fx.ob,fun j u h hl=>?_⟩⟩
 ·rw [cM hi]
  by_cases q:j=i
  ·rw [if_pos q,if_pos q];rfl
  ·rw [if_neg q,if_neg q];exact w.sl j
 ·rcases val j u h with ⟨rfl,rfl⟩ | ⟨n,h⟩
  ·rw [List.getElem?_set_self hil]
  ·rw [List.getElem?_set_ne (fun z=>n z.symm)];exact w.sv j u h
 ·rcases val j u h with ⟨rfl,rfl⟩ | ⟨n,h⟩
  ·refine ⟨ox.rep,fun q=>?_,ox.src⟩
   rcases hf with e | e
   ·subst e
    exact ox.own q
   ·exact absurd e q
  ·exact w.okS j u h
 ·rcases val j a h1 with ⟨ej,ea⟩ | ⟨n1,h1'⟩
  ·rcases val k b h2 with ⟨ek,eb⟩ | ⟨n2,h2'⟩
   ·exact absurd (ej.trans ek.symm) n
   ·rw [ea];exact nx b (w.st k b h2' x C5).2
  ·rcases val k b h2 with ⟨ek,eb⟩ | ⟨n2,h2'⟩
   ·rw [eb];exact (w.st j a h1' x C5).1
   ·exact w.ss j k a b n h1' h2'
 ·rcases val j a h with ⟨rfl,rfl⟩ | ⟨n,h⟩
  ·exact ⟨nx b (tx.1 b hb).1,(tx.1 b hb).2⟩
  ·exact w.st j a h b (C6 _ hb)
 ·have n:j ≠ i:=fun z=>by subst z;rw [hp] at hj;cases hj
  rw [List.getElem?_set_ne (fun z=>n z.symm)];exact w.pro j hj
 ·rcases val j u h with ⟨_,rfl⟩ | ⟨n,h⟩
  ·rcases hf with e | e
   ·exact w.fx.frT x C5 (by rw [<- e];exact hfu) a ea
   ·exact absurd e hfu
  ·exact w.fx.frS j u h hpj hfu a ea
 ·rcases val j u h with ⟨_,rfl⟩ | ⟨n,h⟩
  ·exact absurd hl hnl
  ·exact w.fx.lvS j u h hl
noncomputable def bd (i:Nat) (m:EM):SM:=af m fun r=>af (fU r) fun p=>fun ρ=>if i < ρ.length then some (.ok .nx,ρ.set i (some p)) else none
set_option tactic.hygienic true in
theorem Bm {i:Nat} {m:EM} {E:Ends} (hp:G0.pr i=false) (h:tS K G0 W0 (bd i m) E σ H):wx (tE K G0 W0 m) (ui i) E σ H:=by
 refine h.use fun G W le ρ T g r ρ' w e q=>?_
 refine tE.seq le w e q.err fun ra ρ1 e1 v H1 ⟨Ts,g1,w1,a1⟩=>?_
 obtain ⟨p,ρ2,g2,x,e2,w2,f1,f2,f4,f3⟩:=a1.take w1 e1
 split at e2
 ·rename_i hi
  cases e2
  have:=w2.store (f:=p.2) hi (by rw [le.pr];exact hp) f2 f4
  rw [f1,f3] at this
  exact q _ _ _ this
 ·exact nsE e2
noncomputable def ba (np:Nat) (m:EM):SM:=af m fun r=>match r with
 | .val d f=>bF (.rt d f)
 | .pl i=>fun ρ=>match (ρ[i]?).join with
  | some (d,.u)=>if i < np then some (.ok (.rt d .z),lowAt i ρ) else some (.ok (.rt d .u),ρ.set i none)
  | some (d,_)=>some (.ok (.rt d .z),lowAt i ρ)
  | none=>none
theorem Wf.move {i:Nat} (w:Wf K G H σ ρ T g) (hp:G.pr i=false) (e:g i=some y):Wf K G H σ (ρ.set i none) (y :: T) (fun j=>if j=i then none else g j):=by
 have hi:i < ρ.length:=by
  have:=w.sl i
  rw [e] at this
  exact fu this.symm
 have val:∀ j u,(if j=i then none else g j)=some u->j ≠ i/\g j=some u:=fun j u h=>by
  by_cases q:j=i
  ·rw [if_pos q] at h;exact nsE h
  ·rw [if_neg q] at h;exact ⟨q,h⟩
 refine ⟨by rw [List.length_set];exact w.len,fun j=>?_,fun j u h=>w.sv j u (val j u h).2,fun j u h=>w.okS j u (val j u h).2,fun u hu=>?_,fun j k a b n h1 h2=>w.ss j k a b n (val j a h1).2 (val k b h2).2,fun j a h b hb=>?_,?_,w.base,w.pro,⟨fun u hu hf a ea=>?_,fun j u h=>w.fx.frS j u (val j u h).2,w.fx.bin,w.fx.ob,fun j u h=>w.fx.lvS j u (val j u h).2⟩⟩
 ·rw [cM hi]
  by_cases q:j=i
  ·rw [if_pos q,if_pos q];rfl
  ·rw [if_neg q,if_neg q];exact w.sl j
 ·rcases Db.mp hu with h | hu
  ·rw [h];exact w.okS i y e
  ·exact w.okT u hu
 ·obtain ⟨n,h⟩:=val j a h
  rcases Db.mp hb with h' | hb
  ·rw [h'];exact ⟨w.ss j i a y n h e,w.ss i j y a (Ne.symm n) e h⟩
  ·exact w.st j a h b hb
 ·exact List.pairwise_cons.mpr ⟨fun u hu=>w.st i y e u hu,w.tt⟩
 ·rcases Db.mp hu with h | hu
  ·subst h;exact w.fx.frS i u e hp hf a ea
  ·exact w.fx.frT u hu hf a ea
theorem Bp {np:Nat} {m:EM} {E:Ends} (hnp:∀ i,np<=i->G0.pr i=false) (h:tS K G0 W0 (ba np m) E σ H):tRet (tE K G0 W0 m) E σ H:=by
 refine h.use fun G W le ρ T g r ρ' w e q=>?_
 refine tE.seq le w e q.err fun ra ρ1 e1 v H1 ⟨Ts,g1,w1,a1⟩=>?_
 have low:∀ {i:Nat} {d:D} {f:Fl},(ρ1[i]?).join=some (d,f)->some ((.ok (.rt d .z),lowAt i ρ1):Except D Flw × Sto)=some (r,ρ')->Ar σ (.pl i) v Ts->E.rt v H1:=fun {i d f} ej e2 a=>by
  cases e2
  have e3:af (fU (.pl i)) (fun p=>bF (Flw.rt p.1 p.2)) ρ1=some (.ok (.rt d .z),L3.lowAt i ρ1):=by
   unfold af
   rw [pV,ej]
   rfl
  obtain ⟨p,ρ2,g2,x,e4,w2,f1,f2,_,f3⟩:=a.take w1 e3
  have e5:Flw.rt p.1 p.2=Flw.rt d .z/\ρ2=L3.lowAt i ρ1:=by
   unfold bF at e4
   injection e4 with e4
   injection e4 with e5 e6
   injection e5 with e5
   exact ⟨e5,e6⟩
  obtain ⟨e5,e6⟩:=e5
  injection e5 with e7 e8
  subst e6
  rw [<- f3]
  have w3:=Wf.lowT (Ts:=[x]) w2
  exact q (fc x) σ H1 g2 w3 (f1.trans e7) rfl
 cases a1 with
 | val x=>cases e1;exact q x σ H1 g1 w1 rfl rfl
 | @pl i v h =>
  dsimp only at e1
  cases ej:(ρ1[i]?).join with
  | none=>rw [ej] at e1;exact nsE e1
  | some p =>
   obtain ⟨d,f⟩:=p
   rw [ej] at e1
   cases f with
   | u =>
    dsimp only at e1
    split at e1
    ·exact low ej e1 (.pl h)
    ·cases e1
     obtain ⟨y,y1,y2,y3,y4⟩:=w1.slot ej
     have w2:=Wf.move w1 (by rw [le.pr];exact hnp i (by omega)) y1
     have:=q y σ H1 _ w2 y2 y3
     rw [h] at y4
     cases y4
     exact this
   | l=>exact low ej e1 (.pl h)
   | z=>exact low ej e1 (.pl h)
noncomputable def cW (c:M3 Bool) (b:SM):Nat->SM
 | 0=>fun _=>none
 | n+1=>af c fun t=>if t then af b (fun f=>match f with
   | .nx=>cW c b n
   | .ct=>cW c b n
   | .br=>bF .nx
   | .rt d f=>bF (.rt d f)) else bF .nx
noncomputable def gi (c:M3 Bool) (b:SM):SM:=fun ρ=>open Classical in if h:∃ n r,cW c b n ρ=some r then some (Classical.choose (Classical.choose_spec h)) else none
theorem iD {c:M3 Bool} {b:SM}:∀ {n:Nat} {ρ:Sto} {r:Except D Flw × Sto},cW c b n ρ=some r->cW c b (n+1) ρ=some r
 | 0,ρ,r,e=>by cases e
 | n+1,ρ,r,e=>by
  unfold cW at e ⊢
  unfold af at e ⊢
  cases h:c ρ with
  | none=>rw [h] at e;exact nsE e
  | some p =>
   obtain ⟨o,ρ1⟩:=p
   rw [h] at e
   cases o with
   | error x=>exact e
   | ok t =>
    cases t with
    | false=>exact e
    | true =>
     simp only [if_true] at e ⊢
     cases h2:b ρ1 with
     | none=>rw [h2] at e;exact nsE e
     | some p2 =>
      obtain ⟨o2,ρ2⟩:=p2
      rw [h2] at e
      cases o2 with
      | error x=>exact e
      | ok f =>
       cases f with
       | nx=>exact iD (n:=n) e
       | ct=>exact iD (n:=n) e
       | br=>exact e
       | rt d f=>exact e
theorem ko {c:M3 Bool} {b:SM} {n m:Nat} {ρ:Sto} {r:Except D Flw × Sto} (h:n<=m) (e:cW c b n ρ=some r):cW c b m ρ=some r:=by
 induction h with
 | refl=>exact e
 | step _ ih=>exact iD ih
set_option tactic.hygienic true in
theorem qc {c:M3 Bool} {b:SM} {ρ:Sto} {r:Except D Flw × Sto} (e:gi c b ρ=some r):∃ n,cW c b n ρ=some r:=by
 unfold gi at e
 split at e
 ·rename_i h
  have e2:=Classical.choose_spec (Classical.choose_spec h)
  injection e with e
  exact ⟨Classical.choose h,by rw [<- e];exact e2⟩
 ·exact nsE e
theorem wu {c:M3 Bool} {b:SM} {E:Ends} (h:tS K G0 W0 (gi c b) E σ H):wr (tT K G0 W0 c) (tS K G0 W0 b) E σ H:=by
 refine h.use fun G W le ρ T g r ρ' w e q=>?_
 obtain ⟨n,e⟩:=qc e
 refine ⟨fun m σ H=>∃ ρ g,Wf K G H σ ρ T g/\cW c b m ρ=some (r,ρ'),⟨n,ρ,g,w,e⟩,?_⟩
 rintro m σ1 H1 ⟨ρ1,g1,w1,e1⟩
 cases m with
 | zero=>exact nsE e1
 | succ m =>
  unfold cW at e1
  refine tT.seq le w1 e1 q.err fun t ρ2 e2 H2 g2 w2=>?_
  cases t with
  | false=>cases e2;exact q _ _ _ w2
  | true =>
   refine ⟨fun σ H=>∃ ρ g,Wf K G H σ ρ T g/\cW c b m ρ=some (r,ρ'),fun σ' H' h=>⟨m,Nat.lt_succ_self m,h⟩,?_⟩
   simp only [if_true] at e2
   unfold af at e2
   cases p:b ρ2 with
   | none=>rw [p] at e2;exact nsE e2
   | some p2 =>
    obtain ⟨o,ρ3⟩:=p2
    rw [p] at e2
    cases o with
    | error x=>cases e2;exact tS.mk le w2 p q
    | ok f =>
     cases f with
     | nx=>exact tS.mk le (r:=.ok .nx) w2 p fun σ' H' g' w'=>⟨ρ3,g',w',e2⟩
     | ct=>exact tS.mk le (r:=.ok .ct) w2 p fun σ' H' g' w'=>⟨ρ3,g',w',e2⟩
     | br=>cases e2;exact tS.mk le (r:=.ok .br) w2 p q
     | rt d f=>cases e2;exact tS.mk le (r:=.ok (.rt d f)) w2 p q
end
end L3
end
section
namespace L3
open PySem L2
noncomputable abbrev Fn:=List (D × Fl)->Option (Except D (D × Fl) × List (D × Fl))
noncomputable def prs (ρ:Sto):List R3->Option (List (D × Fl))
 | []=>some []
 | .pl i :: rs=>match (ρ[i]?).join,prs ρ rs with
  | some p,some ps=>some (p :: ps)
  | _,_=>none
 | .val d f :: rs=>match prs ρ rs with
  | some ps=>some ((d,f) :: ps)
  | _=>none
noncomputable def qQ (rs:List R3):List Nat:=(pls rs).filter fun i=>decide (2<=(pls rs).count i)
noncomputable def back:List R3->List (D × Fl)->List (D × Fl)->Sto->Sto
 | .pl i :: rs,p :: ps,q :: qs,ρ=>back rs ps qs (if p.2=.z then ρ else ρ.set i (some (q.1,if q.2=.z then .z else p.2)))
 | .val _ _ :: rs,_ :: ps,_ :: qs,ρ=>back rs ps qs ρ
 | _,_,_,ρ=>ρ
section
variable {K:FG} {G G0:Gm} {W W0:D->Sto->Prop} {H H':Hp} {σ:St} {ρ ρ':Sto} {T T':List It3} {g:Nat->Option It3} {x y z:It3} {α β:Type}
structure Back1 (K:FG) (H H':Hp) (ps:List It3) (p q:It3):Prop where
 z:p.f=.z->q=p
 v:q.v=p.v
 f:q.f=p.f\/q.f=.z
 arg:Arg K H' q
 src:∀ c ∈ q.L,H c=none\/ff ps c
 there:p.f=.u->∀ b,p.v=.ref b->∃ o,H' b=some o
structure BehindX (K:FG) (H H':Hp) (ps qs:List It3):Prop where
 frame:∀ b o,H b=some o->(∀ p ∈ ps,p.f=.u->p.v ≠ .ref b)->H' b=some o
 back:Paired (Back1 K H H' ps) ps qs
 apart:qs.Pairwise Apart3
structure Behind (K:FG) (H H':Hp) (ps qs:List It3) (x:It3):Prop extends BehindX K H H' ps qs where
 rep:Rep K H' x.d x.v x.L
 own:x.f ≠ .z->kg x.d=true/\∃ a L',x.v=.ref a/\x.L=a :: L'/\a ∉ L'/\H a=none
 src:∀ c ∈ x.L,H c=none\/ff ps c
 apx:∀ q ∈ qs,Apart3 x q
theorem Ars.args:∀ {rs:List R3} {vs:List V} {Ts T:List It3} {pfs:List (D × Fl)},Ars σ rs vs Ts->Wf K G H σ ρ (Ts ++ T) g->(∀ i,2<=(pls rs).count i->∀ y,g i=some y->y.f=.z)->prs ρ rs=some pfs ->
  ∃ ps:List It3,ps.map (fun p=>(p.d,p.f))=pfs/\ps.map (·.v)=vs/\ps.Pairwise Apart3/\(∀ p ∈ ps,(∃ i,R3.pl i ∈ rs/\g i=some p)\/p ∈ Ts)/\Paired (fun r p=>match r with | .pl i=>g i=some p | .val _ _=>p ∈ Ts) rs ps
 | [],_,_,T,pfs,.nil,w,_,e=>by cases e;exact ⟨[],rfl,rfl,.nil,fun _ h=>(by cases h),.nil⟩
 | r :: rs,_,_,T,pfs,.cons (v:=v0) (Ts:=T0) (Us:=U0) a as,w,hd,e=>by
  have wt:Wf K G H σ ρ (U0 ++ (T0 ++ T)) g:=by rw [<- List.append_assoc];exact w
  have hd':∀ i,2<=(pls rs).count i->∀ y,g i=some y->y.f=.z:=fun i hc=>hd i (by
   cases r with
   | pl j=>show 2<=(j :: pls rs).count i;rw [List.count_cons];omega
   | val _ _=>exact hc)
  cases a with
  | @pl i v h =>
   unfold prs at e
   cases q:(ρ[i]?).join with
   | none=>rw [q] at e;exact nsE e
   | some p0 =>
    cases q2:prs ρ rs with
    | none=>rw [q,q2] at e;exact nsE e
    | some pfs' =>
     rw [q,q2] at e
     cases e
     obtain ⟨ps,f1,f2,f3,f4,f5⟩:=Ars.args as wt hd' q2
     obtain ⟨y,y1,y2,y3,y4⟩:=w.slot (d:=p0.1) (f:=p0.2) q
     have hv:y.v=v0:=by rw [h] at y4;cases y4;rfl
     refine ⟨y :: ps,by rw [Dq,f1,y2,y3],by rw [Dq,f2,hv],List.pairwise_cons.mpr ⟨fun p hp=>?_,f3⟩,fun p hp=>?_,.cons y1 ?_⟩
     ·rcases f4 p hp with ⟨j,hj,ej⟩ | hp
      ·by_cases ij:i=j
       ·subst ij
        have hc:2<=(pls (R3.pl i :: rs)).count i:=by
         show 2<=(i :: pls rs).count i
         rw [List.count_cons_self]
         have:=List.count_pos_iff.mpr (lG hj)
         omega
        have hz:=hd i hc y y1
        have hz':=hd i hc p ej
        exact ⟨fun q=>absurd hz q,fun q=>absurd hz' q⟩
       ·exact ⟨w.ss i j y p ij y1 ej,w.ss j i p y (Ne.symm ij) ej y1⟩
      ·exact w.st i y y1 p (C9 _ (C9 _ hp))
     ·rcases Db.mp hp with h' | hp
      ·rw [h'];exact .inl ⟨i,C5,y1⟩
      ·rcases f4 p hp with ⟨j,hj,ej⟩ | hp
       ·exact .inl ⟨j,C6 _ hj,ej⟩
       ·exact .inr (C9 _ hp)
     ·exact Paired.mapP f5 fun r p h=>by
       cases r with
       | pl j=>exact h
       | val _ _=>exact C9 _ h
  | val x =>
   unfold prs at e
   cases q2:prs ρ rs with
   | none=>rw [q2] at e;exact nsE e
   | some pfs' =>
    rw [q2] at e
    cases e
    obtain ⟨ps,f1,f2,f3,f4,f5⟩:=Ars.args as wt hd' q2
    refine ⟨x :: ps,by rw [Dq,f1],by rw [Dq,f2],List.pairwise_cons.mpr ⟨fun p hp=>?_,f3⟩,fun p hp=>?_,.cons (Da _ C5) ?_⟩
    ·rcases f4 p hp with ⟨j,hj,ej⟩ | hp
     ·exact (w.st j p ej x (C9 _ (Da _ C5))).symm
     ·have t1:=(List.pairwise_append.mp w.tt).1
      exact ((List.pairwise_append.mp t1).2.2 p hp x C5).symm
    ·rcases Db.mp hp with h' | hp
     ·rw [h'];exact .inr (Da _ C5)
     ·rcases f4 p hp with ⟨j,hj,ej⟩ | hp
      ·exact .inl ⟨j,C6 _ hj,ej⟩
      ·exact .inr (C9 _ hp)
    ·exact Paired.mapP f5 fun r p h=>by
      cases r with
      | pl j=>exact h
      | val _ _=>exact C9 _ h
theorem io:∀ {rs:List R3} {ps qs:List It3} {ρ:Sto} {g:Nat->Option It3},(∀ j,(g j).map (fun x=>(x.d,x.f))=(ρ[j]?).join)->rs.length=ps.length->Paired (Back1 K H H' T) ps qs->(∀ i,R3.pl i ∈ rs->i < ρ.length) ->
  ∃ g':Nat->Option It3,(∀ j,(g' j).map (fun x=>(x.d,x.f))=((back rs (ps.map fun p=>(p.d,p.f)) (qs.map fun q=>(q.d,q.f)) ρ)[j]?).join)/\(back rs (ps.map fun p=>(p.d,p.f)) (qs.map fun q=>(q.d,q.f)) ρ).length = ρ.length /\
   ∀ j:Nat,(g' j=g j/\∀ (k:Nat) (p:It3),rs[k]?=some (R3.pl j)->ps[k]?=some p->p.f=.z)\/∃ (k:Nat) (p q:It3),rs[k]?=some (R3.pl j)/\ps[k]?=some p/\qs[k]?=some q/\p.f ≠ .z/\g' j=some q
 | [],[],_,ρ,g,hg,_,.nil,_=>⟨g,hg,rfl,fun j=>.inl ⟨rfl,fun k p h=>by simp at h⟩⟩
 | [],_ :: _,_,_,_,_,h,_,_=>by cases h
 | _ :: _,[],_,_,_,_,h,_,_=>by cases h
 | .val d f :: rs,p :: ps,_,ρ,g,hg,hl,.cons (b:=q) (l₂:=qs) b1 bs,hi=>by
  obtain ⟨g',h1,h2,h3⟩:=io (rs:=rs) hg (by simpa using hl) bs fun i h=>hi i (C6 _ h)
  refine ⟨g',h1,h2,fun j=>?_⟩
  rcases h3 j with ⟨e,h⟩ | ⟨k,p',q',a1,a2,a3,a4⟩
  ·refine .inl ⟨e,fun k p' e1 e2=>?_⟩
   cases k with
   | zero=>simp at e1
   | succ k=>exact h k p' (by simpa using e1) (by simpa using e2)
  ·exact .inr ⟨k+1,p',q',by simpa using a1,by simpa using a2,by simpa using a3,a4⟩
 | .pl i :: rs,p :: ps,_,ρ,g,hg,hl,.cons (b:=q) (l₂:=qs) b1 bs,hi=>by
  have hil:=hi i C5
  by_cases hz:p.f=.z
  ·have eb:back (.pl i :: rs) ((p :: ps).map fun p=>(p.d,p.f)) ((q :: qs).map fun q=>(q.d,q.f)) ρ=back rs (ps.map fun p=>(p.d,p.f)) (qs.map fun q=>(q.d,q.f)) ρ:=by
    show back rs _ _ (if p.f=.z then ρ else _)=_
    rw [if_pos hz]
   rw [eb]
   obtain ⟨g',h1,h2,h3⟩:=io (rs:=rs) hg (by simpa using hl) bs fun i h=>hi i (C6 _ h)
   refine ⟨g',h1,h2,fun j=>?_⟩
   rcases h3 j with ⟨e,h⟩ | ⟨k,p',q',a1,a2,a3,a4⟩
   ·refine .inl ⟨e,fun k p' e1 e2=>?_⟩
    cases k with
    | zero=>simp at e2;rw [<- e2];exact hz
    | succ k=>exact h k p' (by simpa using e1) (by simpa using e2)
   ·exact .inr ⟨k+1,p',q',by simpa using a1,by simpa using a2,by simpa using a3,a4⟩
  ·have eb:back (.pl i :: rs) ((p :: ps).map fun p=>(p.d,p.f)) ((q :: qs).map fun q=>(q.d,q.f)) ρ=back rs (ps.map fun p=>(p.d,p.f)) (qs.map fun q=>(q.d,q.f)) (ρ.set i (some (q.d,q.f))):=by
    show back rs _ _ (if p.f=.z then ρ else ρ.set i (some (q.d,if q.f=.z then .z else p.f)))=_
    rw [if_neg hz]
    have:(if q.f=.z then Fl.z else p.f)=q.f:=by
     by_cases h:q.f=.z
     ·rw [if_pos h,h]
     ·rw [if_neg h]
      rcases b1.f with h' | h'
      ·exact h'.symm
      ·exact absurd h' h
    rw [this]
   rw [eb]
   obtain ⟨g',h1,h2,h3⟩:=io (rs:=rs) (ρ:=ρ.set i (some (q.d,q.f))) (g:=fun j=>if j=i then some q else g j) (fun j=>by
    rw [cM hil]
    by_cases e:j=i
    ·rw [if_pos e,if_pos e];rfl
    ·rw [if_neg e,if_neg e];exact hg j) (by simpa using hl) bs fun i h=>by rw [List.length_set];exact hi i (C6 _ h)
   refine ⟨g',h1,by rw [h2,List.length_set],fun j=>?_⟩
   rcases h3 j with ⟨e,h⟩ | ⟨k,p',q',a1,a2,a3,a4⟩
   ·by_cases ej:j=i
    ·rw [if_pos ej] at e
     exact .inr ⟨0,p,q,by simp [ej],rfl,rfl,hz,e⟩
    ·rw [if_neg ej] at e
     refine .inl ⟨e,fun k p' e1 e2=>?_⟩
     cases k with
     | zero=>simp at e1;exact absurd e1.symm ej
     | succ k=>exact h k p' (by simpa using e1) (by simpa using e2)
   ·exact .inr ⟨k+1,p',q',by simpa using a1,by simpa using a2,by simpa using a3,a4⟩
theorem oQ:∀ {rs:List R3} {pfs:List (D × Fl)},prs ρ rs=some pfs->rs.length=pfs.length
 | [],pfs,e=>by cases e;rfl
 | .pl i :: rs,pfs,e=>by
  unfold prs at e
  cases q:(ρ[i]?).join with
  | none=>rw [q] at e;exact nsE e
  | some p =>
   cases q2:prs ρ rs with
   | none=>rw [q,q2] at e;exact nsE e
   | some ps=>rw [q,q2] at e;cases e;rw [Dx,Dx,oQ q2]
 | .val d f :: rs,pfs,e=>by
  unfold prs at e
  cases q2:prs ρ rs with
  | none=>rw [q2] at e;exact nsE e
  | some ps=>rw [q2] at e;cases e;rw [Dx,Dx,oQ q2]
theorem r9:∀ {rs:List R3} {pfs:List (D × Fl)},prs ρ rs=some pfs->∀ i,R3.pl i ∈ rs->i < ρ.length
 | [],pfs,e,i,h=>by cases h
 | .pl i :: rs,pfs,e,j,h=>by
  unfold prs at e
  cases q:(ρ[i]?).join with
  | none=>rw [q] at e;exact nsE e
  | some p =>
   cases q2:prs ρ rs with
   | none=>rw [q,q2] at e;exact nsE e
   | some ps =>
    rcases Db.mp h with h | h
    ·cases h;exact fu q
    ·exact r9 q2 j h
 | .val d f :: rs,pfs,e,j,h=>by
  unfold prs at e
  cases q2:prs ρ rs with
  | none=>rw [q2] at e;exact nsE e
  | some ps =>
   rcases Db.mp h with h | h
   ·cases h
   ·exact r9 q2 j h
theorem Paired.at {α β:Type} {F:α->β->Prop}:∀ {l:List α} {m:List β} {k:Nat} {a:α} {b:β},Paired F l m->l[k]?=some a->m[k]?=some b->F a b
 | _,_,_,_,_,.nil,h,_=>by simp at h
 | _,_,0,_,_,.cons r _,h,h'=>by simp at h h';subst h h';exact r
 | _,_,k+1,_,_,.cons _ t,h,h'=>Paired.at (k:=k) t (by simpa using h) (by simpa using h')
theorem Paired.exL {α β:Type} {F:α->β->Prop}:∀ {l:List α} {m:List β} {k:Nat} {a:α},Paired F l m->l[k]?=some a->∃ b,m[k]?=some b/\F a b
 | _,_,_,_,.nil,h=>by simp at h
 | _,_,0,_,.cons r _,h=>by simp at h;subst h;exact ⟨_,rfl,r⟩
 | _,_,k+1,_,.cons _ t,h=>let ⟨b,h1,h2⟩:=Paired.exL (k:=k) t (by simpa using h);⟨b,by simpa using h1,h2⟩
theorem Paired.exR {α β:Type} {F:α->β->Prop}:∀ {l:List α} {m:List β} {k:Nat} {b:β},Paired F l m->m[k]?=some b->∃ a,l[k]?=some a/\F a b
 | _,_,_,_,.nil,h=>by simp at h
 | _,_,0,_,.cons r _,h=>by simp at h;subst h;exact ⟨_,rfl,r⟩
 | _,_,k+1,_,.cons _ t,h=>let ⟨b,h1,h2⟩:=Paired.exR (k:=k) t (by simpa using h);⟨b,by simpa using h1,h2⟩
theorem eQ {α:Type} {R:α->α->Prop} {l:List α} (p:l.Pairwise R) (hs:∀ a b,R a b->R b a) {i j:Nat} {a b:α} (n:i ≠ j) (ha:l[i]?=some a) (hb:l[j]?=some b):R a b:=by
 obtain ⟨h1,e1⟩:=Dh.mp ha
 obtain ⟨h2,e2⟩:=Dh.mp hb
 have q:=List.pairwise_iff_getElem.mp p
 rcases Nat.lt_or_ge i j with h | h
 ·rw [<- e1,<- e2];exact q i j h1 h2 h
 ·rw [<- e1,<- e2];exact hs _ _ (q j i h2 h1 (by omega))
theorem Wf.after {rs:List R3} {Ts ps qs:List It3} {pfs:List (D × Fl)} (w:Wf K G H σ ρ (Ts ++ T) g) (e:prs ρ rs=some pfs) (f1:ps.map (fun p=>(p.d,p.f))=pfs)
  (f4:∀ p ∈ ps,(∃ i,R3.pl i ∈ rs/\g i=some p)\/p ∈ Ts) (f5:Paired (fun r p=>match r with | .pl i=>g i=some p | .val _ _=>p ∈ Ts) rs ps) (B:BehindX K H H' ps qs) :
  ∃ g',Wf K G H' σ (L3.back rs pfs (qs.map fun q=>(q.d,q.f)) ρ) T g' /\
   ∀ x,Rep K H' x.d x.v x.L->(x.f ≠ .z->kg x.d=true/\∃ a L',x.v=.ref a/\x.L=a :: L'/\a ∉ L'/\H a=none)->(∀ c ∈ x.L,H c=none\/ff ps c)->(∀ q ∈ qs,Apart3 x q)->Wf K G H' σ (L3.back rs pfs (qs.map fun q=>(q.d,q.f)) ρ) (x :: T) g':=by
 subst f1
 have hl:rs.length=ps.length:=by have:=oQ e;rwa [Dg] at this
 obtain ⟨g',h1,h2,h3⟩:=io (K:=K) (H:=H) (H':=H') (T:=ps) (rs:=rs) (ps:=ps) (qs:=qs) w.sl hl B.back (r9 e)
 have hps:∀ p ∈ ps,Itm (Ts ++ T) g p:=fun p hp=>by
  rcases f4 p hp with ⟨i,_,ei⟩ | h
  ·exact .inl ⟨i,ei⟩
  ·exact .inr (C9 _ h)
 have dom:∀ b o,H b=some o->∃ o',H' b=some o':=fun b o hb=>by
  by_cases h:∀ p ∈ ps,p.f=.u->p.v ≠ .ref b
  ·exact ⟨o,B.frame b o hb h⟩
  ·have h':∃ p,p ∈ ps/\p.f=.u/\p.v=.ref b:=by
    refine Classical.byContradiction fun n=>h fun p hp hf hv=>n ⟨p,hp,hf,hv⟩
   obtain ⟨p,hp,hf,hv⟩:=h'
   obtain ⟨k,hk,ek⟩:=List.mem_iff_getElem.mp hp
   obtain ⟨q,e1,b1⟩:=Paired.exL B.back (show ps[k]?=some p by rw [Dc hk,ek])
   exact b1.there hf b hv
 have ka:∀ j z,g j=some z->(∀ (k:Nat) (p:It3),rs[k]?=some (R3.pl j)->ps[k]?=some p->p.f=.z)->∀ p ∈ ps,Apart3 p z:=fun j z ej hu p hp=>by
  rcases f4 p hp with ⟨i,hi,ei⟩ | h
  ·by_cases ij:i=j
   ·subst ij
    have epz:p=z:=DO (ei.symm.trans ej)
    subst epz
    have hz:p.f=.z:=by
     obtain ⟨k,hk,ek⟩:=List.mem_iff_getElem.mp hi
     have ek':rs[k]?=some (R3.pl i):=by rw [Dc hk,ek]
     obtain ⟨p',e1,e2⟩:=Paired.exL f5 ek'
     have e2:g i=some p':=e2
     rw [ei] at e2
     cases e2
     exact hu k p ek' e1
    exact ⟨fun q=>absurd hz q,fun q=>absurd hz q⟩
   ·exact ⟨w.ss i j p z ij ei ej,w.ss j i z p (Ne.symm ij) ej ei⟩
  ·exact (w.st j z ej p (C9 _ h)).symm
 have kt:∀ z ∈ T,∀ p ∈ ps,Apart3 p z:=fun z hz p hp=>by
  rcases f4 p hp with ⟨i,hi,ei⟩ | h
  ·exact w.st i p ei z (Da _ hz)
  ·exact (List.pairwise_append.mp w.tt).2.2 p h z hz
 have keep:∀ z,ItOk K G H z->(∀ p ∈ ps,Apart3 p z)->ItOk K G H' z:=fun z oz az=>by
  refine oz.keep (M:=fun b=>∃ p ∈ ps,p.f=.u/\p.v=.ref b) (fun b o hb n=>B.frame b o hb fun p hp hf hv=>n ⟨p,hp,hf,hv⟩) (fun b ⟨p,hp,hf,hv⟩=>?_) (fun b hb ⟨p,hp,hf,hv⟩=>?_)
  ·obtain ⟨_,a,L',e1,e2,_⟩:=(w.itm (hps p hp)).own (by rw [hf];intro q;cases q)
   rw [hv] at e1
   cases e1
   exact (w.itm (hps p hp)).rep.inH b (by rw [e2];exact C5)
  ·exact (az p hp).1 (by rw [hf];intro q;cases q) b hv hb
 have okq:∀ k p q,ps[k]?=some p->qs[k]?=some q->ItOk K G H' q:=fun k p q e1 e2=>by
  have b:=Paired.at B.back e1 e2
  refine ⟨b.arg.rep,fun hf=>?_,fun c hc=>?_⟩
  ·obtain ⟨m,a,L',v1,v2,v3⟩:=b.arg.own hf
   refine ⟨m,a,L',v1,v2,v3,fun hu=>?_⟩
   have pf:p.f=.u:=by
    rcases b.f with h | h
    ·rw [<- h];exact hu
    ·rw [h] at hu;cases hu
   obtain ⟨_,a',L'',e3,_,_,e5⟩:=(w.itm (hps p (Di e1))).own (by rw [pf];intro q;cases q)
   rw [<- b.v,v1] at e3
   cases e3
   exact e5 pf
  ·rcases b.src c hc with h | ⟨p',hp',h⟩
   ·exact .inl (w.h0none h)
   ·exact (w.itm (hps p' hp')).src c h
 have kq:∀ z,ItOk K G H z->(∀ p ∈ ps,Apart3 p z)->∀ k p q,ps[k]?=some p->qs[k]?=some q->Apart3 z q:=fun z oz az k p q e1 e2=>by
  have b:=Paired.at B.back e1 e2
  refine ⟨fun hf a ev hm=>?_,fun hf a ev=>?_⟩
  ·rcases b.src a hm with h | ⟨p',hp',hc⟩
   ·obtain ⟨_,a',L',q1,q2,_⟩:=oz.own hf
    rw [ev] at q1;cases q1
    obtain ⟨o,ho⟩:=(oz.rep.inH a (by rw [q2];exact C5)).ex
    rw [h] at ho;exact nsE ho
   ·exact (az p' hp').2 hf a ev hc
  ·have pf:p.f ≠ .z:=fun q'=>by
    have:=b.z q'
    rw [this] at hf
    exact hf q'
   exact (az p (Di e1)).1 pf a (by rw [<- b.v];exact ev)
 have old:∀ j z,g' j=some z->(g j=some z/\∀ p ∈ ps,Apart3 p z)\/∃ k p,rs[k]?=some (R3.pl j)/\ps[k]?=some p/\qs[k]?=some z:=fun j z ez=>by
  rcases h3 j with ⟨e1,hu⟩ | ⟨k,p,q,a1,a2,a3,_,a5⟩
  ·rw [e1] at ez
   exact .inl ⟨ez,ka j z ez hu⟩
  ·rw [a5] at ez
   cases ez
   exact .inr ⟨k,p,a1,a2,a3⟩
 have wf:Wf K G H' σ (L3.back rs (ps.map fun p=>(p.d,p.f)) (qs.map fun q=>(q.d,q.f)) ρ) T g':=by
  refine ⟨by rw [h2];exact w.len,h1,fun j z ez=>?_,fun j z ez=>?_,fun z hz=>keep z (w.okT z (Da _ hz)) (kt z hz),fun i j a b n ea eb=>?_,fun j z ez t ht=>?_,(List.pairwise_append.mp w.tt).2.1,fun b o e n=>?_,w.pro,⟨fun u hu=>w.fx.frT u (Da _ hu),fun j u h hp hf a ea=>?_,fun b hb=>?_,fun b o h=>?_,fun j u h hl=>?_⟩⟩
  ·rcases old j z ez with ⟨e1,_⟩ | ⟨k,p,a1,a2,a3⟩
   ·exact w.sv j z e1
   ·have ep:g j=some p:=by
     obtain ⟨p',q1,q2⟩:=Paired.exL f5 a1
     rw [a2] at q1;cases q1
     exact q2
    rw [(Paired.at B.back a2 a3).v]
    exact w.sv j p ep
  ·rcases old j z ez with ⟨e1,ap⟩ | ⟨k,p,a1,a2,a3⟩
   ·exact keep z (w.okS j z e1) ap
   ·exact okq k p z a2 a3
  ·rcases old i a ea with ⟨e1,ap⟩ | ⟨k,p,a1,a2,a3⟩
   ·rcases old j b eb with ⟨e2,_⟩ | ⟨k',p',b1,b2,b3⟩
    ·exact w.ss i j a b n e1 e2
    ·exact (kq a (w.okS i a e1) ap k' p' b b2 b3).1
   ·rcases old j b eb with ⟨e2,ap⟩ | ⟨k',p',b1,b2,b3⟩
    ·exact (kq b (w.okS j b e2) ap k p a a2 a3).2
    ·have kk:k ≠ k':=fun z=>by
      subst z
      rw [a1] at b1
      cases b1
      exact n rfl
     exact (eQ B.apart (fun _ _=>Apart3.symm) kk a3 b3).1
  ·rcases old j z ez with ⟨e1,ap⟩ | ⟨k,p,a1,a2,a3⟩
   ·exact w.st j z e1 t (Da _ ht)
   ·exact (kq t (w.okT t (Da _ ht)) (kt t ht) k p z a2 a3).symm
  ·refine B.frame b o (w.base b o e n) fun p hp hf hv=>?_
   obtain ⟨_,a,L',e1,_,_,e3⟩:=(w.itm (hps p hp)).own (by rw [hf];intro q;cases q)
   rw [hv] at e1
   cases e1
   rcases e3 hf with h | h
   ·rw [e] at h;cases h
   ·exact n h
  ·rcases old j u h with ⟨e1,_⟩ | ⟨k,p,a1,a2,a3⟩
   ·exact w.fx.frS j u e1 hp hf a ea
   ·have b:=Paired.at B.back a2 a3
    have ep:g j=some p:=by
     obtain ⟨p',q1,q2⟩:=Paired.exL f5 a1
     rw [a2] at q1;cases q1
     exact q2
    refine w.fx.frS j p ep hp (fun q'=>?_) a (by rw [<- b.v];exact ea)
    have:=b.z q'
    rw [this] at hf
    exact hf q'
  ·obtain ⟨o,ho⟩:=w.fx.bin b hb
   exact dom b o ho
  ·obtain ⟨o',ho⟩:=w.fx.ob b o h
   exact dom b o' ho
  ·rcases old j u h with ⟨e1,_⟩ | ⟨k,p,a1,a2,a3⟩
   ·exact w.fx.lvS j u e1 hl
   ·have b:=Paired.at B.back a2 a3
    have ep:g j=some p:=by
     obtain ⟨p',q1,q2⟩:=Paired.exL f5 a1
     rw [a2] at q1;cases q1
     exact q2
    rw [b.v]
    refine w.fx.lvS j p ep ?_
    rcases b.f with h | h
    ·rw [<- h];exact hl
    ·rw [h] at hl;cases hl
 refine ⟨g',wf,fun x rx ox sx ax=>?_⟩
 have kx:∀ z,ItOk K G H z->(∀ p ∈ ps,Apart3 p z)->Apart3 z x:=fun z oz az=>by
  refine ⟨fun hf a ev hm=>?_,fun hf a ev hm=>?_⟩
  ·rcases sx a hm with h | ⟨p',hp',hc⟩
   ·obtain ⟨_,a',L',q1,q2,_⟩:=oz.own hf
    rw [ev] at q1;cases q1
    obtain ⟨o,ho⟩:=(oz.rep.inH a (by rw [q2];exact C5)).ex
    rw [h] at ho;exact nsE ho
   ·exact (az p' hp').2 hf a ev hc
  ·obtain ⟨_,a',L',q1,_,_,q4⟩:=ox hf
   rw [ev] at q1;cases q1
   obtain ⟨o,ho⟩:=(oz.rep.inH a hm).ex
   rw [q4] at ho;exact nsE ho
 refine ⟨wf.len,wf.sl,wf.sv,wf.okS,fun z hz=>?_,wf.ss,fun j z ez t ht=>?_,?_,wf.base,wf.pro,⟨fun u hu hf a ea=>?_,wf.fx.frS,wf.fx.bin,wf.fx.ob,wf.fx.lvS⟩⟩
 ·rcases Db.mp hz with h | hz
  ·rw [h]
   refine ⟨rx,fun hf=>?_,fun c hc=>?_⟩
   ·obtain ⟨m,a,L',v1,v2,v3,v4⟩:=ox hf
    exact ⟨m,a,L',v1,v2,v3,fun _=>.inl (w.h0none v4)⟩
   ·rcases sx c hc with h | ⟨p',hp',h⟩
    ·exact .inl (w.h0none h)
    ·exact (w.itm (hps p' hp')).src c h
  ·exact wf.okT z hz
 ·rcases Db.mp ht with h | ht
  ·rw [h]
   rcases old j z ez with ⟨e1,ap⟩ | ⟨k,p,a1,a2,a3⟩
   ·exact kx z (w.okS j z e1) ap
   ·exact (ax z (Di a3)).symm
  ·exact wf.st j z ez t ht
 ·exact List.pairwise_cons.mpr ⟨fun t ht=>(kx t (w.okT t (Da _ ht)) (kt t ht)).symm,wf.tt⟩
 ·rcases Db.mp hu with h | hu
  ·subst h
   obtain ⟨_,a',L',q1,_,_,q4⟩:=ox hf
   rw [ea] at q1;cases q1
   exact w.ornone q4
  ·exact wf.fx.frT u hu hf a ea
set_option tactic.hygienic true in
theorem sG {i a:Nat} (h:(ρ[i]?).join=none):((L3.lowAt a ρ)[i]?).join=none:=by
 unfold L3.lowAt
 split
 ·rename_i d hd
  rw [cM (fu hd)]
  by_cases ia:i=a
  ·subst ia;rw [h] at hd;exact nsE hd
  ·rw [if_neg ia];exact h
 ·rename_i d hd
  rw [cM (fu hd)]
  by_cases ia:i=a
  ·subst ia;rw [h] at hd;exact nsE hd
  ·rw [if_neg ia];exact h
 ·exact h
theorem qN {i:Nat}:∀ {is:List Nat} {ρ:Sto},(ρ[i]?).join=none->((L3.frz is ρ)[i]?).join=none
 | [],ρ,h=>h
 | a :: is,ρ,h=>qN (is:=is) (ρ:=L3.lowAt a ρ) (sG h)
end
end L3
end
section
namespace L3
open PySem L2
noncomputable def jx (ρ:Sto):Nat->List (D × Fl)->Option (List (D × Fl))
 | _,[]=>some []
 | i,(d,.z) :: ps=>(jx ρ (i+1) ps).map fun r=>(d,.z) :: r
 | i,(d,f) :: ps=>match (ρ[i]?).join,jx ρ (i+1) ps with
  | some (d',f'),some r=>if f'=f\/f'=.z then some ((d',f') :: r) else none
  | _,_=>none
noncomputable def k8 (n:Nat) (ps:List (D × Fl)):Sto:=ps.map some ++ List.replicate (n - ps.length) none
noncomputable def fn0 (n:Nat) (b:SM):Fn:=fun ps=>match b (k8 n ps) with
 | some (.ok .nx,ρ')=>(jx ρ' 0 ps).map fun fs=>(.ok (.non,.z),fs)
 | some (.ok (.rt d f),ρ')=>(jx ρ' 0 ps).map fun fs=>(.ok (d,f),fs)
 | some (.error e,ρ')=>(jx ρ' 0 ps).map fun fs=>(.error e,fs)
 | _=>none
noncomputable def vt (b:Bool) (p:D × Fl):D × Fl:=if b then (p.1,.z) else p
noncomputable def fnM (mask:List Bool) (n:Nat) (b:SM):Fn:=fun ps=>if ps.length=mask.length then fn0 n b (List.zipWith vt mask ps) else none
section
variable {K:FG} {G:Gm} {W:D->Sto->Prop} {H H':Hp} {σ:St} {ρ ρ':Sto} {T T':List It3} {g:Nat->Option It3} {x y z:It3} {α β:Type}
noncomputable def gOf (H:Hp) (pr:Nat->Bool) (σ0:St) (ps:List It3):Gm:=⟨H,fun b=>∃ p ∈ ps,p.f=.u/\p.v=.ref b,pr,σ0,H,ff ps,fun i=>(ps[i]?).map (·.v)⟩
theorem vH {n:Nat} {ps:List (D × Fl)} (hn:ps.length<=n) (i:Nat):((k8 n ps)[i]?).join=ps[i]?:=by
 unfold k8
 by_cases h:i < ps.length
 ·rw [DE (by simpa using h),Dl]
  cases ps[i]? <;> rfl
 ·rw [List.getElem?_append_right (by simpa using h),List.getElem?_replicate,List.getElem?_eq_none (by omega)]
  split <;> rfl
theorem nK {n:Nat} {vs:List V} {i:Nat} {v:V} (h:vs[i]?=some v):(vs.map some ++ List.replicate n (none:Option V))[i]?=some (some v):=by
 obtain ⟨hi,e⟩:=Dh.mp h
 rw [DE (by simpa using hi),Dl,h]
 rfl
theorem wm {n:Nat} {pr:Nat->Bool} {ps:List It3} (hn:ps.length<=n) (ha:∀ p ∈ ps,Arg K H p) (hp:ps.Pairwise Apart3) (hpr:∀ (i:Nat) (p:It3),ps[i]?=some p->p.f ≠ .z->pr i=true) :
  Wf K (gOf H pr ((ps.map (·.v)).map some ++ List.replicate (n - (ps.map (·.v)).length) none) ps) H ((ps.map (·.v)).map some ++ List.replicate (n - (ps.map (·.v)).length) none) (k8 n (ps.map fun p=>(p.d,p.f))) [] (fun i=>ps[i]?):=by
 refine ⟨?_,fun i=>?_,fun i x e=>?_,fun i x e=>?_,fun _ h=>(by cases h),fun i j a b n ea eb=>?_,fun _ _ _ _ h=>(by cases h),.nil,fun b o e _=>e,fun i _=>rfl,⟨fun _ h=>(by cases h),fun i x e hz hf=>?_,fun b h=>?_,fun b o e=>⟨o,e⟩,fun i x e _=>(by show (ps[i]?).map (·.v)=_;rw [e];rfl)⟩⟩
 ·unfold k8;simp
 ·rw [vH (by simpa using hn),Dl]
 ·exact nK (by rw [Dl,e];rfl)
 ·have hm:=Di e
  refine ⟨(ha x hm).rep,fun hf=>?_,fun c hc=>.inr ⟨x,hm,hc⟩⟩
  obtain ⟨m,a,L',v1,v2,v3⟩:=(ha x hm).own hf
  exact ⟨m,a,L',v1,v2,v3,fun hu=>.inr ⟨x,hm,hu,v1⟩⟩
 ·exact (eQ hp (fun _ _=>Apart3.symm) n ea eb).1
 ·have hz:pr i=false:=hz
  rw [hpr i x e hf] at hz;cases hz
 ·obtain ⟨p,hm,hf,hv⟩:=h
  obtain ⟨_,a,L',v1,v2,_⟩:=(ha p hm).own (by rw [hf];intro q;cases q)
  rw [hv] at v1;cases v1
  exact ((ha p hm).rep.inH b (by rw [v2];exact C5)).ex
noncomputable def FinsOk (ρ:Sto) (i:Nat) (ps fs:List (D × Fl)):Prop:=fs.length=ps.length/\∀ (k:Nat) (p:D × Fl),ps[k]?=some p->∃ q,fs[k]?=some q/\(p.2=.z->q=p)/\(p.2 ≠ .z->(ρ[i+k]?).join=some q/\(q.2=p.2\/q.2=.z))
theorem FinsOk.cons {i:Nat} {p0 q0:D × Fl} {ps fs:List (D × Fl)} (h:FinsOk ρ (i+1) ps fs) (hz:p0.2=.z->q0=p0) (hn:p0.2 ≠ .z->(ρ[i]?).join=some q0/\(q0.2=p0.2\/q0.2=.z)):FinsOk ρ i (p0 :: ps) (q0 :: fs):=by
 refine ⟨by rw [Dx,Dx,h.1],fun k p hk=>?_⟩
 cases k with
 | zero=>cases hk;exact ⟨q0,rfl,hz,hn⟩
 | succ k =>
  obtain ⟨q,a,b,c⟩:=h.2 k p hk
  exact ⟨q,a,b,fun n=>by have:=c n;rwa [show i+1+k=i+(k+1) by omega] at this⟩
theorem kH:∀ {i:Nat} {ps:List (D × Fl)} {fs:List (D × Fl)},jx ρ i ps=some fs->FinsOk ρ i ps fs
 | i,[],fs,e=>by cases e;exact ⟨rfl,fun k p h=>by cases h⟩
 | i,p0 :: ps,fs,e=>by
  obtain ⟨d,f⟩:=p0
  have key:f ≠ .z->(match (ρ[i]?).join,jx ρ (i+1) ps with
    | some (d',f'),some r=>if f'=f\/f'=.z then some ((d',f') :: r) else none
    | _,_=>none)=some fs->FinsOk ρ i ((d,f) :: ps) fs:=fun hf e=>by
   cases h:(ρ[i]?).join with
   | none=>rw [h] at e;exact nsE e
   | some p0 =>
    cases h2:jx ρ (i+1) ps with
    | none=>rw [h,h2] at e;exact nsE e
    | some r =>
     rw [h,h2] at e
     obtain ⟨d',f'⟩:=p0
     dsimp only at e
     rcases Decidable.em (f'=f\/f'=.z) with hc | hc
     ·rw [if_pos hc] at e
      cases e
      exact (kH h2).cons (fun z=>absurd z hf) fun _=>⟨h,hc⟩
     ·rw [if_neg hc] at e;exact nsE e
  cases f with
  | z =>
   obtain ⟨r,h,h'⟩:=C8.mp (show (jx ρ (i+1) ps).map (fun r=>(d,Fl.z) :: r)=some fs from e)
   subst h'
   exact (kH h).cons (fun _=>rfl) fun n=>absurd rfl n
  | u=>exact key (by intro q;cases q) e
  | l=>exact key (by intro q;cases q) e
theorem k5 {α β:Type} {P:Nat->α->β->Prop}:∀ (l:List α) (i:Nat),(∀ (k:Nat) a,l[k]?=some a->∃ b,P (i+k) a b)->∃ m:List β,m.length=l.length/\∀ (k:Nat) a,l[k]?=some a->∃ b,m[k]?=some b/\P (i+k) a b
 | [],i,_=>⟨[],rfl,fun k a h=>by simp at h⟩
 | a :: l,i,h=>by
  obtain ⟨b,hb⟩:=h 0 a rfl
  obtain ⟨m,h1,h2⟩:=k5 l (i+1) fun k a e=>by
   have:=h (k+1) a (by simpa using e)
   rwa [show i+(k+1)=i+1+k by omega] at this
  refine ⟨b :: m,by simp [h1],fun k a' e=>?_⟩
  cases k with
  | zero=>simp at e;subst e;exact ⟨b,rfl,hb⟩
  | succ k =>
   obtain ⟨b',e1,e2⟩:=h2 k a' (by simpa using e)
   exact ⟨b',by simpa using e1,by rwa [show i+(k+1)=i+1+k by omega]⟩
theorem Paired.ofGet {α β:Type} {F:α->β->Prop}:∀ {l:List α} {m:List β},l.length=m.length->(∀ (k:Nat) a b,l[k]?=some a->m[k]?=some b->F a b)->Paired F l m
 | [],[],_,_=>.nil
 | [],_ :: _,h,_=>by cases h
 | _ :: _,[],h,_=>by cases h
 | a :: l,b :: m,h,f=>.cons (f 0 a b rfl rfl) (Paired.ofGet (by simpa using h) fun k a b e1 e2=>f (k+1) a b (by simpa using e1) (by simpa using e2))
theorem rn {n:Nat} {pr:Nat->Bool} {σ0:St} {ps:List It3} {fs:List (D × Fl)} (ha:∀ p ∈ ps,Arg K H p) (hp:ps.Pairwise Apart3) (hpr:∀ (i:Nat) (p:It3),ps[i]?=some p->p.f ≠ .z->pr i=true) (h0:∀ (i:Nat) (p:It3),ps[i]?=some p->σ0[i]?=some (some p.v))
  (w:Wf K (gOf H pr σ0 ps) H' σ ρ T g) (e:jx ρ 0 (ps.map fun p=>(p.d,p.f))=some fs) :
  ∃ qs,BehindX K H H' ps qs/\qs.map (fun q=>(q.d,q.f))=fs/\(∀ (k:Nat) (p q:It3),ps[k]?=some p->qs[k]?=some q->(p.f=.z/\q=p)\/(p.f ≠ .z/\g k=some q)):=by
 obtain ⟨hl,hs⟩:=kH e
 rw [Dg] at hl
 have frame:∀ b o,H b=some o->(∀ p ∈ ps,p.f=.u->p.v ≠ .ref b)->H' b=some o:=fun b o hb hn=>w.base b o hb fun ⟨p,hm,hf,hv⟩=>hn p hm hf hv
 have there:∀ b o,H b=some o->∃ o',H' b=some o':=fun b o hb=>w.fx.ob b o hb
 have repz:∀ (k:Nat) (p:It3),ps[k]?=some p->p.f=.z->Rep K H' p.d p.v p.L:=fun k p ek hz=>by
  refine (ha p (Di ek)).rep.keep (M:=fun b=>∃ p ∈ ps,p.f=.u/\p.v=.ref b) (fun b o hb hn=>frame b o hb fun p hp hf hv=>hn ⟨p,hp,hf,hv⟩) (fun b ⟨p',hm,hf,hv⟩=>?_) fun b hb ⟨p',hm,hf,hv⟩=>?_
  ·obtain ⟨_,a,L',v1,v2,_⟩:=(ha p' hm).own (by rw [hf];intro q;cases q)
   rw [hv] at v1;cases v1
   exact (ha p' hm).rep.inH b (by rw [v2];exact C5)
  ·obtain ⟨j,hj,ej⟩:=List.mem_iff_getElem.mp hm
   have ej':ps[j]?=some p':=by rw [Dc hj,ej]
   have jk:j ≠ k:=fun z=>by subst z;rw [ek] at ej';cases ej';rw [hz] at hf;cases hf
   exact (eQ hp (fun _ _=>Apart3.symm) jk ej' ek).1 (by rw [hf];intro q;cases q) b hv hb
 have one:∀ (k:Nat) (p:It3),ps[k]?=some p->∃ q,(q.d,q.f)=(fs[k]?).getD (p.d,p.f)/\fs[k]?=some (q.d,q.f)/\Back1 K H H' ps p q/\((p.f=.z/\q=p)\/(p.f ≠ .z/\g k=some q)):=fun k p ek=>by
  have hm:=Di ek
  obtain ⟨q0,f1,f2,f3⟩:=hs k (p.d,p.f) (by rw [Dl,ek];rfl)
  by_cases hz:p.f=.z
  ·have:=f2 hz
   subst this
   refine ⟨p,by rw [f1];rfl,f1,⟨fun _=>rfl,rfl,.inl rfl,⟨repz k p ek hz,fun h=>absurd hz h⟩,fun c hc=>.inr ⟨p,hm,hc⟩,fun h=>?_⟩,.inl ⟨hz,rfl⟩⟩
   rw [hz] at h;cases h
  ·obtain ⟨h1,h2⟩:=f3 hz
   rw [Du] at h1
   obtain ⟨y,y1,y2,y3,y4⟩:=w.slot (d:=q0.1) (f:=q0.2) h1
   have hv:y.v=p.v:=by
    have:=w.pro k (hpr k p ek hz)
    rw [y4] at this
    have h0:some (some y.v)=some (some p.v):=this.trans (h0 k p ek)
    injection h0 with h0
    injection h0
   have ok:=w.okS k y y1
   refine ⟨y,by rw [f1,y2,y3];rfl,by rw [f1,y2,y3],⟨fun h=>absurd h hz,hv,by rw [y3];exact h2,⟨ok.rep,fun hf=>?_⟩,fun c hc=>ok.src c hc,fun hf b hb=>?_⟩,.inr ⟨hz,y1⟩⟩
   ·obtain ⟨m,a,L',v1,v2,v3,_⟩:=ok.own hf
    exact ⟨m,a,L',v1,v2,v3⟩
   ·obtain ⟨_,a,L',v1,v2,_⟩:=(ha p hm).own hz
    rw [hb] at v1;cases v1
    obtain ⟨o,ho⟩:=((ha p hm).rep.inH b (by rw [v2];exact C5)).ex
    exact there b o ho
 obtain ⟨qs,hq,hall⟩:=k5 (P:=fun k p q=>fs[k]?=some (q.d,q.f)/\Back1 K H H' ps p q/\((p.f=.z/\q=p)\/(p.f ≠ .z/\g k=some q))) ps 0 fun k p ek=>by
  obtain ⟨q,_,a,b,c⟩:=one k p ek
  exact ⟨q,by simpa using ⟨a,b,c⟩⟩
 have get:∀ (k:Nat) (p q:It3),ps[k]?=some p->qs[k]?=some q->fs[k]?=some (q.d,q.f)/\Back1 K H H' ps p q/\((p.f=.z/\q=p)\/(p.f ≠ .z/\g k=some q)):=fun k p q ep eq=>by
  obtain ⟨q',e1,e2⟩:=hall k p ep
  rw [eq] at e1
  cases e1
  simpa using e2
 have par:∀ (k:Nat) (q:It3),qs[k]?=some q->∃ p,ps[k]?=some p:=fun k q e=>by
  have hk:=(Dh.mp e).1
  exact ⟨ps[k]'(by omega),by simp [show k < ps.length by omega]⟩
 refine ⟨qs,⟨frame,Paired.ofGet hq.symm fun k p q ep eq=>(get k p q ep eq).2.1,?_⟩,?_,fun k p q ep eq=>(get k p q ep eq).2.2⟩
 ·rw [List.pairwise_iff_getElem]
  intro k j hk hj lt
  have ek:qs[k]?=some qs[k]:=Dc hk
  have ej:qs[j]?=some qs[j]:=Dc hj
  have side:∀ (k j:Nat) (q r:It3),k ≠ j->qs[k]?=some q->qs[j]?=some r->NoRoot q r:=fun k j q r n eq er=>by
   obtain ⟨p,ep⟩:=par k q eq
   obtain ⟨p',ep'⟩:=par j r er
   obtain ⟨_,b,c⟩:=get k p q ep eq
   obtain ⟨_,b',c'⟩:=get j p' r ep' er
   rcases c with ⟨hz,e⟩ | ⟨hz,e⟩
   ·rw [e];exact fun h=>absurd hz h
   ·rcases c' with ⟨hz',e'⟩ | ⟨hz',e'⟩
    ·rw [e']
     intro hf a ea
     exact (eQ hp (fun _ _=>Apart3.symm) n ep ep').1 hz a (by rw [<- b.v];exact ea)
    ·exact w.ss k j q r n e e'
  exact ⟨side k j _ _ (Do lt) ek ej,side j k _ _ (Nat.ne_of_gt lt) ej ek⟩
 ·refine List.ext_getElem? fun k=>?_
  rw [Dl]
  cases eq:qs[k]? with
  | none =>
   have:qs.length<=k:=List.getElem?_eq_none_iff.mp eq
   rw [List.getElem?_eq_none (by omega)]
   rfl
  | some q =>
   obtain ⟨p,ep⟩:=par k q eq
   rw [(get k p q ep eq).1]
   rfl
theorem sV {n:Nat} {pr:Nat->Bool} {σ0:St} {ps:List It3} {fs:List (D × Fl)} (ha:∀ p ∈ ps,Arg K H p) (hp:ps.Pairwise Apart3) (hpr:∀ (i:Nat) (p:It3),ps[i]?=some p->p.f ≠ .z->pr i=true) (h0:∀ (i:Nat) (p:It3),ps[i]?=some p->σ0[i]?=some (some p.v))
  (w:Wf K (gOf H pr σ0 ps) H' σ ρ (x :: T) g) (e:jx ρ 0 (ps.map fun p=>(p.d,p.f))=some fs):∃ qs,Behind K H H' ps qs x/\qs.map (fun q=>(q.d,q.f))=fs:=by
 obtain ⟨qs,B,f,hg⟩:=rn (n:=n) ha hp hpr h0 w e
 have ok:=w.okT x C5
 refine ⟨qs,⟨B,ok.rep,fun hf=>?_,fun c hc=>ok.src c hc,fun q hq=>?_⟩,f⟩
 ·obtain ⟨m,a,L',v1,v2,v3,_⟩:=ok.own hf
  exact ⟨m,a,L',v1,v2,v3,w.fx.frT x C5 hf a v1⟩
 ·obtain ⟨k,hk,ek⟩:=List.mem_iff_getElem.mp hq
  have eq:qs[k]?=some q:=by rw [Dc hk,ek]
  obtain ⟨p,ep,b⟩:=Paired.exR B.back eq
  rcases hg k p q ep eq with ⟨hz,e⟩ | ⟨hz,e⟩
  ·rw [e]
   refine ⟨fun hf a ea hm=>?_,fun h=>absurd hz h⟩
   have h1:=w.fx.frT x C5 hf a ea
   obtain ⟨o,ho⟩:=((ha p (Di ep)).rep.inH a hm).ex
   have h2:H a=none:=h1
   rw [h2] at ho;exact nsE ho
  ·exact (w.st k q e x C5).symm
end
end L3
end
section
namespace L3
open PySem L2
noncomputable def eR:Fl->Fl
 | .u=>.l
 | f=>f
noncomputable def bX (x:It3):It3:={ x with f:=eR x.f }
noncomputable def ju:Fl->Fl
 | .l=>.u
 | f=>f
noncomputable def yQ (x:It3):It3:={ x with f:=ju x.f }
noncomputable def mw (h:Fl->Fl) (i:Nat) (ρ:Sto):Sto:=match (ρ[i]?).join with
 | some (d,f)=>ρ.set i (some (d,h f))
 | none=>ρ
noncomputable def aZ (h:Fl->Fl) (is:List Nat) (ρ:Sto):Sto:=is.foldl (fun ρ i=>mw h i ρ) ρ
noncomputable def us (ρ:Sto) (is:List Nat):List Nat:=is.filter fun i=>match (ρ[i]?).join with
 | some (_,.u)=>true
 | _=>false
theorem lentF_z {f:Fl}:eR f=.z ↔ f=.z:=by cases f <;> simp [eR]
theorem unlF_z {f:Fl}:ju f=.z ↔ f=.z:=by cases f <;> simp [ju]
theorem t7 (f:Fl):eR f ≠ .u:=by cases f <;> simp [eR]
theorem Bf (f:Fl):ju f ≠ .l:=by cases f <;> simp [ju]
section
variable {K:FG} {G G0:Gm} {W W0:D->Sto->Prop} {H H':Hp} {σ:St} {ρ ρ':Sto} {T T':List It3} {g:Nat->Option It3} {x y z:It3} {α β:Type}
theorem sy {h:Fl->Fl} {i j:Nat}:((mw h i ρ)[j]?).join=if j=i then ((ρ[j]?).join).map (fun p=>(p.1,h p.2)) else (ρ[j]?).join:=by
 unfold mw
 cases e:(ρ[i]?).join with
 | none =>
  by_cases q:j=i
  ·subst q;rw [if_pos rfl,e];rfl
  ·rw [if_neg q]
 | some p =>
  obtain ⟨d,f⟩:=p
  dsimp only
  rw [cM (fu e)]
  by_cases q:j=i
  ·subst q;rw [if_pos rfl,if_pos rfl,e];rfl
  ·rw [if_neg q,if_neg q]
theorem vj {h:Fl->Fl} {i:Nat}:(mw h i ρ).length = ρ.length:=by
 unfold mw
 split
 ·rw [List.length_set]
 ·rfl
theorem iR {h:Fl->Fl} (hh:∀ f,h (h f)=h f):∀ {is:List Nat} {ρ:Sto} {j:Nat},((aZ h is ρ)[j]?).join=if j ∈ is then ((ρ[j]?).join).map (fun p=>(p.1,h p.2)) else (ρ[j]?).join
 | [],ρ,j=>by simp [aZ]
 | i :: is,ρ,j=>by
  have e:aZ h (i :: is) ρ=aZ h is (mw h i ρ):=rfl
  rw [e,iR hh,sy]
  by_cases q:j=i
  ·subst q
   by_cases m:j ∈ is
   ·rw [if_pos m,if_pos rfl,if_pos C5]
    cases (ρ[j]?).join with
    | none=>rfl
    | some p=>simp [hh]
   ·rw [if_neg m,if_pos rfl,if_pos C5]
  ·by_cases m:j ∈ is
   ·rw [if_pos m,if_neg q,if_pos (C6 _ m)]
   ·rw [if_neg m,if_neg q,if_neg (fun z=>(Db.mp z).elim q m)]
theorem jI {h:Fl->Fl}:∀ {is:List Nat} {ρ:Sto},(aZ h is ρ).length = ρ.length
 | [],ρ=>rfl
 | i :: is,ρ=>by
  have e:aZ h (i :: is) ρ=aZ h is (mw h i ρ):=rfl
  rw [e,jI,vj]
noncomputable def fM (G:Gm) (H:Hp) (g:Nat->Option It3) (is:List Nat):Gm :=
 ⟨H,fun b=>∃ j y,j ∉ is/\g j=some y/\y.f=.u/\y.v=.ref b,G.pr,G.σ0,G.orig,fun c=>G.H0 c=none\/G.src c,fun j=>if j ∈ is then (g j).map (·.v) else G.lv j⟩
structure Fk (x y:It3):Prop where
 d:y.d=x.d
 v:y.v=x.v
 L:y.L=x.L
 z:y.f=.z ↔ x.f=.z
theorem Fk.noRoot {x x' y y':It3} (a:Fk x x') (b:Fk y y') (h:NoRoot x y):NoRoot x' y':=fun hf c e=>by
 rw [b.L]
 exact h (fun q=>hf (a.z.mpr q)) c (by rw [<- a.v];exact e)
theorem Fk.apart {x x' y y':It3} (a:Fk x x') (b:Fk y y') (h:Apart3 x y):Apart3 x' y':=⟨a.noRoot b h.1,b.noRoot a h.2⟩
theorem Fk.refl (x:It3):Fk x x:=⟨rfl,rfl,rfl,Iff.rfl⟩
theorem lH (x:It3):Fk x (bX x):=⟨rfl,rfl,rfl,lentF_z⟩
theorem CK (x:It3):Fk x (yQ x):=⟨rfl,rfl,rfl,unlF_z⟩
theorem qC {o:Option It3} {h:Fl->Fl} {p:Option (D × Fl)} (e:o.map (fun x=>(x.d,x.f))=p):(o.map fun x=>{ x with f:=h x.f }).map (fun x:It3=>(x.d,x.f))=p.map fun p=>(p.1,h p.2):=by
 subst e
 cases o <;> rfl
theorem Wf.enter (w:Wf K G H σ ρ T g) (is:List Nat):Wf K (fM G H g is) H σ (aZ eR is ρ) (T.map bX) (fun j=>if j ∈ is then (g j).map bX else g j):=by
 have val:∀ j u,(if j ∈ is then (g j).map bX else g j)=some u->∃ u0,g j=some u0/\Fk u0 u/\((j ∈ is/\u=bX u0)\/(j ∉ is/\u=u0)):=fun j u h=>by
  by_cases q:j ∈ is
  ·rw [if_pos q] at h
   obtain ⟨u0,e1,e2⟩:=C8.mp h
   subst e2
   exact ⟨u0,e1,lH u0,.inl ⟨q,rfl⟩⟩
  ·rw [if_neg q] at h
   exact ⟨u,h,Fk.refl u,.inr ⟨q,rfl⟩⟩
 refine ⟨by rw [jI];exact w.len,fun j=>?_,fun j u h=>?_,fun j u h=>?_,fun u hu=>?_,fun i j a b n ha hb=>?_,fun j a h b hb=>?_,?_,fun b o e _=>e,w.pro,⟨fun u hu hf a ea=>?_,fun j u h hp hf a ea=>?_,fun b hb=>?_,w.fx.ob,fun j u h hl=>?_⟩⟩
 ·rw [iR (by intro f;cases f <;> rfl)]
  by_cases q:j ∈ is
  ·rw [if_pos q,if_pos q];exact qC (w.sl j)
  ·rw [if_neg q,if_neg q];exact w.sl j
 ·obtain ⟨u0,e,k,_⟩:=val j u h
  rw [k.v];exact w.sv j u0 e
 ·obtain ⟨u0,e,k,c⟩:=val j u h
  have ok:=w.okS j u0 e
  refine ⟨by rw [k.d,k.v,k.L];exact ok.rep,fun hf=>?_,fun c hc=>.inr (ok.src c (by rw [<- k.L];exact hc))⟩
  obtain ⟨m,a,L',v1,v2,v3,_⟩:=ok.own (fun q=>hf (k.z.mpr q))
  refine ⟨by rw [k.d];exact m,a,L',by rw [k.v];exact v1,by rw [k.L];exact v2,v3,fun hu=>?_⟩
  rcases c with ⟨_,rfl⟩ | ⟨nj,rfl⟩
  ·exact absurd hu (t7 _)
  ·exact .inr ⟨j,u,nj,e,hu,v1⟩
 ·obtain ⟨u0,h0,rfl⟩:=Dk.mp hu
  have ok:=w.okT u0 h0
  refine ⟨ok.rep,fun hf=>?_,fun c hc=>.inr (ok.src c hc)⟩
  obtain ⟨m,a,L',v1,v2,v3,_⟩:=ok.own (fun q=>hf (lentF_z.mpr q))
  exact ⟨m,a,L',v1,v2,v3,fun hu=>absurd hu (t7 _)⟩
 ·obtain ⟨a0,e1,k1,_⟩:=val i a ha
  obtain ⟨b0,e2,k2,_⟩:=val j b hb
  exact k1.noRoot k2 (w.ss i j a0 b0 n e1 e2)
 ·obtain ⟨a0,e1,k1,_⟩:=val j a h
  obtain ⟨b0,h0,rfl⟩:=Dk.mp hb
  exact k1.apart (lH b0) (w.st j a0 e1 b0 h0)
 ·rw [List.pairwise_map]
  exact w.tt.imp fun {a b} h=>(lH a).apart (lH b) h
 ·obtain ⟨u0,h0,rfl⟩:=Dk.mp hu
  exact w.fx.frT u0 h0 (fun q=>hf (lentF_z.mpr q)) a ea
 ·obtain ⟨u0,e,k,_⟩:=val j u h
  exact w.fx.frS j u0 e hp (fun q=>hf (k.z.mpr q)) a (by rw [<- k.v];exact ea)
 ·obtain ⟨j,y,_,e,hf,hv⟩:=hb
  obtain ⟨_,a,L',v1,v2,_⟩:=(w.okS j y e).own (by rw [hf];intro q;cases q)
  rw [hv] at v1;cases v1
  exact ((w.okS j y e).rep.inH b (by rw [v2];exact C5)).ex
 ·obtain ⟨u0,e,k,c⟩:=val j u h
  show (if j ∈ is then (g j).map (·.v) else G.lv j)=_
  rcases c with ⟨q,rfl⟩ | ⟨q,rfl⟩
  ·rw [if_pos q,e];rfl
  ·rw [if_neg q];exact w.fx.lvS j u e hl
theorem Wf.leave {is:List Nat} {σ':St} {ρ2:Sto} {g2:Nat->Option It3} {R:List It3} (w:Wf K G H σ ρ T g) (his:∀ i ∈ is,∀ y,g i=some y->y.f=.u) (hT:T'.Sublist T) (w2:Wf K (fM G H g is) H' σ' ρ2 (R ++ T'.map bX) g2) :
  Wf K G H' σ' (aZ ju is ρ2) (R ++ T') (fun j=>if j ∈ is then (g2 j).map yQ else g2 j):=by
 have val:∀ j u,(if j ∈ is then (g2 j).map yQ else g2 j)=some u->∃ u0,g2 j=some u0/\Fk u0 u/\((j ∈ is/\u=yQ u0)\/(j ∉ is/\u=u0)):=fun j u h=>by
  by_cases q:j ∈ is
  ·rw [if_pos q] at h
   obtain ⟨u0,e1,e2⟩:=C8.mp h
   subst e2
   exact ⟨u0,e1,CK u0,.inl ⟨q,rfl⟩⟩
  ·rw [if_neg q] at h
   exact ⟨u,h,Fk.refl u,.inr ⟨q,rfl⟩⟩
 have may:∀ a,H a=none\/(∃ j y,j ∉ is/\g j=some y/\y.f=.u/\y.v=.ref a)->G.H0 a=none\/G.bw a:=fun a h=>by
  rcases h with h | ⟨j,y,_,e,hf,hv⟩
  ·exact .inl (w.h0none h)
  ·obtain ⟨_,a',L',v1,_,_,v4⟩:=(w.okS j y e).own (by rw [hf];intro q;cases q)
   rw [hv] at v1;cases v1
   exact v4 hf
 have srcs:∀ c,H c=none\/(G.H0 c=none\/G.src c)->G.H0 c=none\/G.src c:=fun c h=>by
  rcases h with h | h
  ·exact .inl (w.h0none h)
  ·exact h
 have tm:∀ x ∈ T',x ∈ T:=fun x hx=>hT.subset hx
 have dom:∀ b o,H b=some o->∃ o',H' b=some o':=fun b o hb=>by
  by_cases q:∃ j y,j ∉ is/\g j=some y/\y.f=.u/\y.v=.ref b
  ·exact w2.fx.bin b q
  ·exact ⟨o,w2.base b o hb q⟩
 refine ⟨by rw [jI];exact w2.len,fun j=>?_,fun j u h=>?_,fun j u h=>?_,fun u hu=>?_,fun i j a b n ha hb=>?_,fun j a h b hb=>?_,?_,fun b o e n=>?_,w2.pro,⟨fun u hu=>?_,fun j u h hp hf a ea=>?_,fun b hb=>?_,w2.fx.ob,fun j u h hl=>?_⟩⟩
 ·rw [iR (by intro f;cases f <;> rfl)]
  by_cases q:j ∈ is
  ·rw [if_pos q,if_pos q];exact qC (w2.sl j)
  ·rw [if_neg q,if_neg q];exact w2.sl j
 ·obtain ⟨u0,e,k,_⟩:=val j u h
  rw [k.v];exact w2.sv j u0 e
 ·obtain ⟨u0,e,k,c⟩:=val j u h
  have ok:=w2.okS j u0 e
  refine ⟨by rw [k.d,k.v,k.L];exact ok.rep,fun hf=>?_,fun c hc=>srcs c (ok.src c (by rw [<- k.L];exact hc))⟩
  obtain ⟨m,a,L',v1,v2,v3,v4⟩:=ok.own (fun q=>hf (k.z.mpr q))
  refine ⟨by rw [k.d];exact m,a,L',by rw [k.v];exact v1,by rw [k.L];exact v2,v3,fun hu=>?_⟩
  rcases c with ⟨q,rfl⟩ | ⟨nj,rfl⟩
  ·cases hf0:u0.f with
   | u=>exact may a (v4 hf0)
   | l =>
    have hl:=w2.fx.lvS j u0 e hf0
    have hl:(if j ∈ is then (g j).map (·.v) else G.lv j)=some u0.v:=hl
    rw [if_pos q] at hl
    obtain ⟨y,ey,ev⟩:=C8.mp hl
    have yu:=his j q y ey
    obtain ⟨_,a',L'',b1,_,_,b4⟩:=(w.okS j y ey).own (by rw [yu];intro q;cases q)
    rw [ev,v1] at b1;cases b1
    exact b4 yu
   | z=>exact absurd (unlF_z.mpr hf0) hf
  ·exact may a (v4 hu)
 ·rcases De.mp hu with hu | hu
  ·have ok:=w2.okT u (C9 _ hu)
   refine ⟨ok.rep,fun hf=>?_,fun c hc=>srcs c (ok.src c hc)⟩
   obtain ⟨m,a,L',v1,v2,v3,v4⟩:=ok.own hf
   exact ⟨m,a,L',v1,v2,v3,fun h=>may a (v4 h)⟩
  ·have ok:=w.okT u (tm u hu)
   exact ⟨(w2.okT (bX u) (Da _ (Dk.mpr ⟨u,hu,rfl⟩))).rep,ok.own,ok.src⟩
 ·obtain ⟨a0,e1,k1,_⟩:=val i a ha
  obtain ⟨b0,e2,k2,_⟩:=val j b hb
  exact k1.noRoot k2 (w2.ss i j a0 b0 n e1 e2)
 ·obtain ⟨a0,e1,k1,_⟩:=val j a h
  rcases De.mp hb with hb | hb
  ·exact k1.apart (Fk.refl b) (w2.st j a0 e1 b (C9 _ hb))
  ·have:=w2.st j a0 e1 (bX b) (Da _ (Dk.mpr ⟨b,hb,rfl⟩))
   exact k1.apart (y:=bX b) ⟨rfl,rfl,rfl,lentF_z.symm⟩ this
 ·have h:=List.pairwise_append.mp w2.tt
  refine List.pairwise_append.mpr ⟨h.1,w.tt.sublist hT,fun a ha b hb=>?_⟩
  exact (Fk.refl a).apart (y:=bX b) ⟨rfl,rfl,rfl,lentF_z.symm⟩ (h.2.2 a ha (bX b) (Dk.mpr ⟨b,hb,rfl⟩))
 ·have hb:=w.base b o e n
  refine w2.base b o hb fun q=>?_
  rcases may b (.inr q) with h | h
  ·rw [e] at h;cases h
  ·exact n h
 ·rcases De.mp hu with hu | hu
  ·exact w2.fx.frT u (C9 _ hu)
  ·exact w.fx.frT u (tm u hu)
 ·obtain ⟨u0,e,k,_⟩:=val j u h
  exact w2.fx.frS j u0 e hp (fun q=>hf (k.z.mpr q)) a (by rw [<- k.v];exact ea)
 ·obtain ⟨o,ho⟩:=w.fx.bin b hb
  exact dom b o ho
 ·obtain ⟨u0,e,k,c⟩:=val j u h
  rcases c with ⟨q,rfl⟩ | ⟨q,rfl⟩
  ·exact absurd hl (Bf _)
  ·have:=w2.fx.lvS j u e hl
   have this:(if j ∈ is then (g j).map (·.v) else G.lv j)=some u.v:=this
   rw [if_neg q] at this
   exact this
theorem Al {is:List Nat} (w:Wf K G H σ ρ T g) (his:∀ i ∈ is,∀ y,g i=some y->y.f=.u):∀ (H':Hp) (σ':St) (ρ2:Sto) (T2:List It3) (g2:Nat->Option It3),Wf K (fM G H g is) H' σ' ρ2 T2 g2->∃ g3,Wf K G H' σ' (aZ ju is ρ2) [] g3 :=
 fun H' σ' ρ2 T2 g2 w2=>⟨_,by simpa using Wf.leave (T':=[]) (R:=[]) w his (List.nil_sublist T) (by simpa using w2.sub (List.nil_sublist T2))⟩
end
end L3
end
section
namespace L3
open PySem L2
section
variable {K:FG} {G G0:Gm} {W W0:D->Sto->Prop} {H H':Hp} {σ:St} {ρ ρ':Sto} {T T':List It3} {g:Nat->Option It3} {x y z:It3} {α β:Type}
noncomputable def Walk (K:FG) (J:It) (H1:Hp) (ys:List It3) (ds:List D):Prop:=∃ els:List It3,(∀ x ∈ els,x.f=.z/\Rep K H1 x.d x.v x.L/\∀ c ∈ x.L,fO ys c) /\
 ∀ (M:Addr->Prop) (H':Hp),(∀ b,M b->MutAt H1 b)->(∀ b o,H1 b=some o->¬ M b->H' b=some o)->(∀ y ∈ ys,∀ b ∈ y.L,¬ M b) ->
  (∀ (i:Nat) (d:D),ds[i]?=some d->J.go i H'/\∀ x H'',J.yld i H' x H''->∃ w,New K H' H'' (ff els) w/\w.d=d/\w.f=.z/\w.v=x)/\J.stop ds.length H'
noncomputable abbrev IM:=M3 (List R3 × List D)
noncomputable def EndI (K:FG) (G:Gm) (W:D->Sto->Prop) (σ:St) (T:List It3) (ρ':Sto) (R:It->Hp->Prop):Except D (List R3 × List D)->Prop
 | .ok p=>∀ J H1 vs Ts g1 ys,Wf K G H1 σ ρ' (Ts ++ T) g1->Ars σ p.1 vs Ts->(∀ y ∈ ys,(∃ i,i ∈ pls p.1/\g1 i=some y)\/y ∈ Ts)->Walk K J H1 ys p.2->R J H1
 | .error e=>W e ρ'
noncomputable def tI (K:FG) (G0:Gm) (W0:D->Sto->Prop) (m:IM):TI:=fun σ H R=>∃ G W,Le K G W G0 W0/\∃ ρ T g r ρ',Wf K G H σ ρ T g/\m ρ=some (r,ρ')/\EndI K G W σ T ρ' R r
theorem tI.seq {m:IM} {k:List R3 × List D->M3 β} {r:Except D β} {P:It->Hp->Prop} (le:Le K G W G0 W0) (w:Wf K G H σ ρ T g) (e:af m k ρ=some (r,ρ')) (he:∀ x,r=.error x->W x ρ')
  (h:∀ p ρ1,k p ρ1=some (r,ρ')->EndI K G W σ T ρ1 P (.ok p)):tI K G0 W0 m σ H P:=by
 unfold af at e
 cases q:m ρ with
 | none=>rw [q] at e;exact nsE e
 | some p =>
  obtain ⟨o,ρ1⟩:=p
  rw [q] at e
  cases o with
  | error x=>cases e;exact ⟨G,W,le,ρ,T,g,.error x,ρ',w,q,he x rfl⟩
  | ok ra=>exact ⟨G,W,le,ρ,T,g,.ok ra,ρ1,w,q,h ra ρ1 e⟩
noncomputable def Bnd (K:FG) (pr:Nat->Bool) (tg:TG) (bnd:D->Sto->Option Sto):Prop:=∀ (G:Gm) (H:Hp) (σ:St) (ρ ρ1:Sto) (T:List It3) (g:Nat->Option It3) (w:It3) (Q:St->Hp->Prop),G.pr=pr->w.f=.z->Wf K G H σ ρ (w :: T) g->bnd w.d ρ=some ρ1 ->
 (∀ σ2 g2,Wf K G H σ2 ρ1 T g2->Q σ2 H)->tg w.v σ H Q
noncomputable def aw (i:Nat) (d:D) (ρ:Sto):Option Sto:=if i < ρ.length then some (ρ.set i (some (d,.z))) else none
set_option tactic.hygienic true in
theorem aO {pr:Nat->Bool} {i:Nat} (hp:pr i=false):Bnd K pr (ui i) (aw i):=fun G H σ ρ ρ1 T g w Q hpr hz wf e q=>by
 unfold aw at e
 split at e
 ·rename_i hi
  cases e
  exact q _ _ (wf.store (f:=.z) hi (by rw [hpr];exact hp) (.inr rfl) (by intro h;cases h))
 ·exact nsE e
noncomputable def yN (K:FG) (pr:Nat->Bool) (tg:TGs) (bnd:List D->Sto->Option Sto):Prop:=∀ (G:Gm) (H:Hp) (σ:St) (ρ ρ1:Sto) (T:List It3) (g:Nat->Option It3) (ws:List It3) (Q:St->Hp->Prop),G.pr=pr->(∀ w ∈ ws,w.f=.z)->Wf K G H σ ρ (ws ++ T) g->bnd (ws.map (·.d)) ρ=some ρ1 ->
 (∀ σ2 g2,Wf K G H σ2 ρ1 T g2->Q σ2 H)->tg (ws.map (·.v)) σ H Q
noncomputable def sX:List D->Sto->Option Sto
 | [],ρ=>some ρ
 | _,_=>none
noncomputable def iA (b:D->Sto->Option Sto) (bs:List D->Sto->Option Sto):List D->Sto->Option Sto
 | [],_=>none
 | d :: ds,ρ=>match b d ρ with
  | some ρ1=>bs ds ρ1
  | none=>none
theorem mU {pr:Nat->Bool}:yN K pr gNil sX:=fun G H σ ρ ρ1 T g ws Q _ _ wf e q=>by
 cases ws with
 | nil=>cases e;exact ⟨rfl,q _ _ wf⟩
 | cons w ws=>exact nsE e
theorem gJ {pr:Nat->Bool} {tg:TG} {tgs:TGs} {b:D->Sto->Option Sto} {bs:List D->Sto->Option Sto} (h1:Bnd K pr tg b) (h2:yN K pr tgs bs):yN K pr (A9 tg tgs) (iA b bs):=fun G H σ ρ ρ1 T g ws Q hpr hz wf e q=>by
 cases ws with
 | nil=>exact nsE e
 | cons w ws =>
  have e:(match b w.d ρ with | some ρ1=>bs (ws.map (·.d)) ρ1 | none=>none)=some ρ1:=e
  cases q1:b w.d ρ with
  | none=>rw [q1] at e;exact nsE e
  | some ρ2 =>
   rw [q1] at e
   exact ⟨w.v,ws.map (·.v),rfl,h1 G H σ ρ ρ2 (ws ++ T) g w _ hpr (hz w C5) wf q1 fun σ2 g2 w2=>h2 G H σ2 ρ2 ρ1 T g2 ws Q hpr (fun x hx=>hz x (C6 _ hx)) w2 e q⟩
noncomputable def sW (n:Nat) (bs:List D->Sto->Option Sto):D->Sto->Option Sto
 | .tup ds,ρ=>if ds.length=n then bs ds ρ else none
 | _,_=>none
theorem Reps.split:∀ {ds:List D} {vs:List V} {L:List Addr},Reps (Rep K H) ds vs L->∃ ws:List It3,ws.map (·.d)=ds/\ws.map (·.v)=vs/\(∀ w ∈ ws,w.f=.z/\Rep K H w.d w.v w.L/\∀ c ∈ w.L,c ∈ L)
 | _,_,_,.nil=>⟨[],rfl,rfl,fun _ h=>(by cases h)⟩
 | _,_,_,.cons (d:=d) (v:=v) (L:=L) r rs=>by
  obtain ⟨ws,h1,h2,h3⟩:=Reps.split rs
  refine ⟨⟨d,v,L,.z⟩ :: ws,by simp [h1],by simp [h2],fun w hw=>?_⟩
  rcases Db.mp hw with h | h
  ·subst h;exact ⟨rfl,r,fun c hc=>C9 _ hc⟩
  ·exact ⟨(h3 w h).1,(h3 w h).2.1,fun c hc=>Da _ ((h3 w h).2.2 c hc)⟩
theorem Wf.pushAll:∀ {ws:List It3} {T:List It3},Wf K G H σ ρ T g->(∀ w ∈ ws,w.f=.z/\Rep K H w.d w.v w.L/\∀ c ∈ w.L,fw T g c/\(G.H0 c=none\/G.src c))->Wf K G H σ ρ (ws ++ T) g
 | [],T,w,_=>w
 | x :: ws,T,w,h=>by
  have w1:=Wf.pushAll (ws:=ws) w fun y hy=>h y (C6 _ hy)
  obtain ⟨hz,hr,hc⟩:=h x C5
  refine w1.push (Ks:=fun c=>c ∈ x.L) ⟨Same.refl _,hr,fun c h=>.inr h,fun q=>absurd hz q⟩ fun c m=>⟨⟨(hc c m).1.1,fun y hy hf=>?_⟩,(hc c m).2⟩
  rcases De.mp hy with q | q
  ·exact absurd (h y (C6 _ q)).1 hf
  ·exact (hc c m).1.2 y q hf
set_option tactic.hygienic true in
theorem pI {pr:Nat->Bool} {n:Nat} {tgs:TGs} {bs:List D->Sto->Option Sto} (h2:yN K pr tgs bs):Bnd K pr (gTup K n tgs) (sW n bs):=fun G H σ ρ ρ1 T g w Q hpr hz wf e q=>by
 have r:=(wf.okT w C5).rep
 obtain ⟨d,v,L,f⟩:=w
 cases r with
 | @tup xs a vs _ hs rs =>
  have e:(if xs.length=n then bs xs ρ else none)=some ρ1:=e
  split at e
  ·rename_i hl
   obtain ⟨ws,h1,h3,h4⟩:=Reps.split rs
   refine ⟨a,vs,rfl,SqT.of hs,?_,?_⟩
   ·rw [<- h3,Dg,<- hl,<- h1,Dg]
   ·have w1:Wf K G H σ ρ (ws ++ (⟨.tup xs,.ref a,L,f⟩ :: T)) g:=wf.pushAll fun u hu=>⟨(h4 u hu).1,(h4 u hu).2.1,fun c hc=>⟨wf.kid (y:=⟨.tup xs,.ref a,L,f⟩) (.inr C5) ((h4 u hu).2.2 c hc) fun hf=>absurd hz hf,(wf.okT _ C5).src c ((h4 u hu).2.2 c hc)⟩⟩
    have w2:Wf K G H σ ρ (ws ++ T) g:=w1.sub ((List.Sublist.refl ws).append (List.sublist_cons_self _ _))
    rw [<- h3]
    exact h2 G H σ ρ ρ1 T g ws Q hpr (fun u hu=>(h4 u hu).1) w2 (by rw [h1];exact e) q
  ·exact nsE e
 | non=>exact nsE e
 | bl b=>exact nsE e
 | int i=>exact nsE e
 | str s=>exact nsE e
 | lst _ _=>exact nsE e
 | lstF _ _=>exact nsE e
 | dK _ _ _=>exact nsE e
 | dT _ _ _=>exact nsE e
 | exc _ _=>exact nsE e
noncomputable def ic (bnd:D->Sto->Option Sto) (b:SM):List D->SM
 | []=>bF .nx
 | d :: ds=>fun ρ=>match bnd d ρ with
  | none=>none
  | some ρ1=>af b (fun f=>match f with
   | .nx=>ic bnd b ds
   | .ct=>ic bnd b ds
   | .br=>bF .nx
   | .rt d f=>bF (.rt d f)) ρ1
noncomputable def fQ (im:IM) (bnd:D->Sto->Option Sto) (b:SM):SM:=af im fun p=>fun ρ=>(ic bnd b p.2 (aZ eR (us ρ (pls p.1)) ρ)).map fun r=>(r.1,aZ ju (us ρ (pls p.1)) r.2)
theorem us_u {is:List Nat} (w:Wf K G H σ ρ T g):∀ i ∈ us ρ is,∀ y,g i=some y->y.f=.u:=fun i hi y ey=>by
 have h:=(DD.mp hi).2
 have s:=w.sl i
 rw [ey] at s
 have s:some (y.d,y.f)=(ρ[i]?).join:=s
 rw [<- s] at h
 cases hf:y.f with
 | u=>rfl
 | l=>rw [hf] at h;cases h
 | z=>rw [hf] at h;cases h
theorem wn {is:List Nat} {i:Nat} (w:Wf K G H σ ρ T g) (hi:i ∈ is) (ey:g i=some y) (hf:y.f=.u):i ∈ us ρ is:=by
 refine DD.mpr ⟨hi,?_⟩
 have s:=w.sl i
 rw [ey] at s
 have s:some (y.d,y.f)=(ρ[i]?).join:=s
 rw [<- s,hf]
theorem Br {im:IM} {bnd:D->Sto->Option Sto} {b:SM} {tg:TG} {E:Ends} (hb:Bnd K G0.pr tg bnd) (h:tS K G0 W0 (fQ im bnd b) E σ H):tFor (tI K G0 W0 im) tg (tS K G0 W0 b) E σ H:=by
 refine h.use fun G W le ρ T g r ρ' w e q=>?_
 refine tI.seq le w e q.err fun p ρ1 e1=>?_
 intro J H1 vs Ts g1 ys w1 a1 hys hw
 have his:=us_u (is:=pls p.1) w1
 have hus:∀ i y,i ∈ pls p.1->g1 i=some y->y.f=.u->i ∈ us ρ1 (pls p.1):=fun i y hi ey hf=>wn w1 hi ey hf
 generalize us ρ1 (pls p.1)=is at e1 his hus
 have w2:=w1.enter is
 obtain ⟨els,hels,walk⟩:=hw
 have hM:∀ b,(∃ j y,j ∉ is/\g1 j=some y/\y.f=.u/\y.v=.ref b)->MutAt H1 b:=fun b ⟨j,y,_,ey,hf,hv⟩=>by
  obtain ⟨_,a,L',v1,v2,_⟩:=(w1.okS j y ey).own (by rw [hf];intro q;cases q)
  rw [hv] at v1;cases v1
  exact (w1.okS j y ey).rep.inH b (by rw [v2];exact C5)
 have hysM:∀ y ∈ ys,∀ b ∈ y.L,¬ ∃ j y,j ∉ is/\g1 j=some y/\y.f=.u/\y.v=.ref b:=fun y hy b hb ⟨j,y',nj,ey',hf,hv⟩=>by
  have hfz:y'.f ≠ .z:=by rw [hf];intro q;cases q
  rcases hys y hy with ⟨i,hi,ei⟩ | hy
  ·by_cases ij:i=j
   ·subst ij
    rw [ei] at ey';cases ey'
    exact nj (hus i y hi ei hf)
   ·exact w1.ss j i y' y (Ne.symm ij) ey' ei hfz b hv hb
  ·exact (w1.st j y' ey' y (C9 _ hy)).1 hfz b hv hb
 have hitm:∀ y ∈ ys,Itm (Ts ++ T) g1 y:=fun y hy=>by
  rcases hys y hy with ⟨i,_,ei⟩ | h
  ·exact .inl ⟨i,ei⟩
  ·exact .inr (C9 _ h)
 have kid:∀ x ∈ els,∀ c ∈ x.L,fw ((Ts ++ T).map bX) (fun j=>if j ∈ is then (g1 j).map bX else g1 j) c/\(H1 c=none\/(G.H0 c=none\/G.src c)):=fun x hx c hc=>by
  obtain ⟨nr,sr⟩:=w1.kids hitm ((hels x hx).2.2 c hc)
  refine ⟨⟨fun i z ez hf hv=>?_,fun z hz hf hv=>?_⟩,.inr sr⟩
  ·have ez:(if i ∈ is then (g1 i).map bX else g1 i)=some z:=ez
   by_cases q:i ∈ is
   ·rw [if_pos q] at ez
    obtain ⟨z0,e0,e1⟩:=C8.mp ez
    subst e1
    exact nr.1 i z0 e0 (fun q=>hf (lentF_z.mpr q)) hv
   ·rw [if_neg q] at ez
    exact nr.1 i z ez hf hv
  ·obtain ⟨z0,h0,rfl⟩:=Dk.mp hz
   exact nr.2 z0 h0 (fun q=>hf (lentF_z.mpr q)) hv
 have w3:Wf K (fM G H1 g1 is) H1 σ (aZ eR is ρ1) (els ++ (Ts ++ T).map bX) (fun j=>if j ∈ is then (g1 j).map bX else g1 j):=w2.pushAll fun x hx=>⟨(hels x hx).1,(hels x hx).2.1,fun c hc=>kid x hx c hc⟩
 cases e2:ic bnd b p.2 (aZ eR is ρ1) with
 | none=>rw [e2] at e1;exact nsE e1
 | some rr =>
  obtain ⟨r2,ρ3⟩:=rr
  rw [e2] at e1
  have er:r2=r/\aZ ju is ρ3 = ρ':=by cases e1;exact ⟨rfl,rfl⟩
  obtain ⟨rfl,eρ⟩:=er
  have leave:∀ {σ':St} {H':Hp} {ρ2:Sto} {g2:Nat->Option It3} {R:List It3},Wf K (fM G H1 g1 is) H' σ' ρ2 (R ++ (els ++ (Ts ++ T).map bX)) g2->∃ g3,Wf K G H' σ' (aZ ju is ρ2) (R ++ T) g3:=fun {σ' H' ρ2 g2 R} w4 =>
   ⟨_,Wf.leave (T:=Ts ++ T) (T':=T) (R:=R) w1 his (Dj Ts T) (w4.sub ((List.Sublist.refl R).append (by
    rw [List.map_append]
    exact (Dj (Ts.map bX) (T.map bX)).trans (Dj els _))))⟩
  have le1:Le K (fM G H1 g1 is) (fun e ρ2=>W e (aZ ju is ρ2)) G W:=⟨rfl,fun H' σ' ρ2 T2 g2 e w4 he=>by
   obtain ⟨g3,w5⟩:=Al w1 his H' σ' ρ2 T2 g2 w4
   exact ⟨_,[],g3,w5,he⟩⟩
  have le':Le K (fM G H1 g1 is) (fun e ρ2=>W e (aZ ju is ρ2)) G0 W0:=le1.trans le
  refine ⟨fun k m σ' H'=>k<=p.2.length/\m=p.2.length - k/\∃ ρ2 g2,Wf K (fM G H1 g1 is) H' σ' ρ2 (els ++ (Ts ++ T).map bX) g2/\ic bnd b (p.2.drop k) ρ2=some (r2,ρ3),⟨_,Nat.zero_le _,rfl,_,_,w3,e2⟩,?_⟩
  rintro k m σ' H' ⟨hk,rfl,ρ2,g2,w4,e4⟩
  obtain ⟨wgo,wstop⟩:=walk _ H' hM (fun b o hb hn=>w4.base b o hb hn) hysM
  by_cases hlt:k < p.2.length
  ·obtain ⟨d,hd⟩:∃ d,p.2[k]?=some d:=⟨_,Dc hlt⟩
   have hdrop:p.2.drop k=d :: p.2.drop (k+1):=by
    rw [List.drop_eq_getElem_cons hlt]
    rw [Dc hlt] at hd
    cases hd;rfl
   rw [hdrop] at e4
   obtain ⟨go,yld⟩:=wgo k d hd
   refine .inr ⟨go,fun σ5 H5=>∃ ρ5 g5,Wf K (fM G H1 g1 is) H5 σ5 ρ5 (els ++ (Ts ++ T).map bX) g5/\ic bnd b (p.2.drop (k+1)) ρ5=some (r2,ρ3),fun σ5 H5 ⟨ρ5,g5,w5,e5⟩=>⟨p.2.length - (k+1),by omega,hlt,rfl,ρ5,g5,w5,e5⟩,fun x H'' hy=>?_⟩
   obtain ⟨u,nu,ud,uf,uv⟩:=yld x H'' hy
   have w5:Wf K (fM G H1 g1 is) H'' σ' ρ2 (u :: (els ++ (Ts ++ T).map bX)) g2:=w4.push nu fun c hc=>w4.alls (ys:=els) (fun y hy=>⟨.inr (C9 _ hy),(hels y hy).1⟩) hc
   have e5:(match bnd d ρ2 with
    | none=>none
    | some ρ1=>af b (fun f=>match f with
     | .nx=>ic bnd b (p.2.drop (k+1))
     | .ct=>ic bnd b (p.2.drop (k+1))
     | .br=>bF .nx
     | .rt d f=>bF (.rt d f)) ρ1)=some (r2,ρ3):=e4
   cases e6:bnd d ρ2 with
   | none=>rw [e6] at e5;exact nsE e5
   | some ρ6 =>
    rw [e6] at e5
    dsimp only at e5
    rw [<- uv]
    refine hb (fM G H1 g1 is) H'' σ' ρ2 ρ6 _ g2 u _ le.pr uf w5 (by rw [ud];exact e6) fun σ6 g6 w6=>?_
    unfold af at e5
    cases e7:b ρ6 with
    | none=>rw [e7] at e5;exact nsE e5
    | some pr7 =>
     obtain ⟨o7,ρ7⟩:=pr7
     rw [e7] at e5
     cases o7 with
     | error er =>
      cases e5
      refine tS.mk (r:=.error er) le' w6 e7 ?_
      show W er (aZ ju is _)
      rw [eρ];exact q
     | ok f =>
      cases f with
      | nx=>exact tS.mk (r:=.ok .nx) le' w6 e7 fun σ8 H8 g8 w8=>⟨ρ7,g8,w8,e5⟩
      | ct=>exact tS.mk (r:=.ok .ct) le' w6 e7 fun σ8 H8 g8 w8=>⟨ρ7,g8,w8,e5⟩
      | br =>
       cases e5
       refine tS.mk (r:=.ok .br) le' w6 e7 fun σ8 H8 g8 w8=>?_
       obtain ⟨g9,w9⟩:=leave (R:=[]) w8
       rw [eρ] at w9
       exact q _ _ _ w9
      | rt d' f' =>
       cases e5
       refine tS.mk (r:=.ok (.rt d' f')) le' w6 e7 fun x8 σ8 H8 g8 w8 x1 x2=>?_
       obtain ⟨g9,w9⟩:=leave (R:=[x8]) w8
       rw [eρ] at w9
       exact q x8 _ _ _ w9 x1 x2
  ·have ek:k=p.2.length:=by omega
   subst ek
   rw [List.drop_length] at e4
   cases e4
   obtain ⟨g9,w9⟩:=leave (R:=[]) w4
   rw [eρ] at w9
   exact .inl ⟨wstop,q _ _ _ w9⟩
end
end L3
end
section
namespace L3
open PySem L2
noncomputable def sP (ix:List (Option Nat)) (ρ:Sto):Sto:=ix.map fun o=>match o with
 | some i=>(ρ[i]?).join
 | none=>none
noncomputable def uncap:List (Option Nat)->Sto->Sto->Option Sto
 | [],_,ρ=>some ρ
 | none :: ix,τ,ρ=>uncap ix τ.tail ρ
 | some i :: ix,τ,ρ=>match (ρ[i]?).join,τ.head? with
  | some (_,f),some (some (d',f'))=>if f'=f\/f'=.z then uncap ix τ.tail (ρ.set i (some (d',f'))) else none
  | _,_=>none
noncomputable def bV (bnd:D->Sto->Option Sto) (c:M3 Bool) (elt:EM):List D->M3 (List D)
 | []=>bF []
 | d :: ds=>fun τ=>match bnd d τ with
  | none=>none
  | some τ1=>af c (fun b=>if b then af elt (fun r=>af (fU r) fun p=>af (bV bnd c elt ds) fun l=>bF (p.1 :: l)) else bV bnd c elt ds) τ1
noncomputable def bL (im:IM) (bnd:D->Sto->Option Sto) (c:M3 Bool) (elt:EM) (ix:List (Option Nat)):EM:=af im fun p=>fun ρ =>
 match bV bnd c elt p.2 (sP ix (aZ eR (us ρ (pls p.1)) ρ)) with
 | some (.ok ds,τ)=>if p.2.length < 16777216 then (uncap ix τ (aZ eR (us ρ (pls p.1)) ρ)).map fun ρ2=>(.ok (.val (.lst ds) .u),aZ ju (us ρ (pls p.1)) ρ2) else none
 | _=>none
section
variable {K:FG} {G G0:Gm} {W W0:D->Sto->Prop} {H H':Hp} {σ τ:St} {ρ ρ':Sto} {T T':List It3} {g:Nat->Option It3} {x y z:It3} {α β:Type} {ix:List (Option Nat)}
noncomputable def Inj (ix:List (Option Nat)):Prop:=∀ (j k i:Nat),ix[j]?=some (some i)->ix[k]?=some (some i)->j=k
noncomputable def Av (ix:List (Option Nat)) (g:Nat->Option It3) (j:Nat):Option It3:=(ix[j]?).join.bind g
noncomputable def si (ix:List (Option Nat)) (n:Nat) (g:Nat->Option It3):List It3:=(List.range n).filterMap fun i=>if some i ∈ ix then none else g i
noncomputable def yw (G:Gm) (ix:List (Option Nat)) (σ:St):Gm:=⟨G.H0,G.bw,fun j=>((ix[j]?).join).isSome,cap ix σ,fun _=>none,G.src,fun j=>(ix[j]?).join.bind G.lv⟩
theorem fA {j:Nat} (h:Av ix g j=some x):∃ i,ix[j]?=some (some i)/\g i=some x:=by
 unfold Av at h
 cases e:ix[j]? with
 | none=>rw [e] at h;exact nsE h
 | some o =>
  rw [e] at h
  cases o with
  | none=>exact nsE h
  | some i=>exact ⟨i,rfl,h⟩
set_option tactic.hygienic true in
theorem mr {n:Nat} (h:x ∈ si ix n g):∃ i,some i ∉ ix/\g i=some x:=by
 obtain ⟨i,_,e⟩:=List.mem_filterMap.mp h
 split at e
 ·exact nsE e
 ·rename_i hn;exact ⟨i,hn,e⟩
theorem xp {n i:Nat} (hi:i < n) (hn:some i ∉ ix) (e:g i=some x):x ∈ si ix n g:=List.mem_filterMap.mpr ⟨i,List.mem_range.mpr hi,by rw [if_neg hn];exact e⟩
theorem Wf.cap (w:Wf K G H σ ρ T g) (hij:Inj ix):Wf K (yw G ix σ) H (cap ix σ) (sP ix ρ) (si ix ρ.length g ++ T) (Av ix g):=by
 have ne:∀ {i j:Nat},ix[j]?=some (some i)->∀ k,some k ∉ ix->i ≠ k:=fun e k hk q=>hk (by rw [<- q];exact Di e)
 refine ⟨by unfold L2.cap sP;rw [Dg,Dg],fun j=>?_,fun j x h=>?_,fun j x h=>?_,fun x hx=>?_,fun j k x y n hx hy=>?_,fun j x h y hy=>?_,?_,w.base,fun _ _=>rfl,⟨fun _ _ _ _ _=>rfl,fun _ _ _ _ _ _ _=>rfl,w.fx.bin,fun b o e=>(by cases e),fun j x h hl=>?_⟩⟩
 ·unfold Av sP
  rw [Dl]
  cases e:ix[j]? with
  | none=>rfl
  | some o =>
   cases o with
   | none=>rfl
   | some i=>exact w.sl i
 ·obtain ⟨i,e1,e2⟩:=fA h
  unfold L2.cap
  rw [Dl,e1]
  show some ((σ[i]?).getD none)=_
  rw [w.sv i x e2];rfl
 ·obtain ⟨i,_,e2⟩:=fA h
  have ok:=w.okS i x e2
  exact ⟨ok.rep,ok.own,ok.src⟩
 ·rcases De.mp hx with h | h
  ·obtain ⟨i,_,e⟩:=mr h
   have ok:=w.okS i x e
   exact ⟨ok.rep,ok.own,ok.src⟩
  ·have ok:=w.okT x h
   exact ⟨ok.rep,ok.own,ok.src⟩
 ·obtain ⟨i,e1,e2⟩:=fA hx
  obtain ⟨i',e3,e4⟩:=fA hy
  exact w.ss i i' x y (fun q=>n (hij j k i e1 (q ▸ e3))) e2 e4
 ·obtain ⟨i,e1,e2⟩:=fA h
  rcases De.mp hy with q | q
  ·obtain ⟨k,hk,e⟩:=mr q
   have:=ne e1 k hk
   exact ⟨w.ss i k x y this e2 e,w.ss k i y x (Ne.symm this) e e2⟩
  ·exact w.st i x e2 y q
 ·refine List.pairwise_append.mpr ⟨?_,w.tt,fun a ha b hb=>?_⟩
  ·unfold si
   rw [List.pairwise_filterMap]
   refine List.pairwise_lt_range.imp fun {i k} lt a ha b hb=>?_
   have ha':(if some i ∈ ix then none else g i)=some a:=ha
   have hb':(if some k ∈ ix then none else g k)=some b:=hb
   split at ha'
   ·cases ha'
   ·split at hb'
    ·cases hb'
    ·exact ⟨w.ss i k a b (Do lt) ha' hb',w.ss k i b a (Nat.ne_of_gt lt) hb' ha'⟩
  ·obtain ⟨k,hk,e⟩:=mr ha
   exact w.st k a e b hb
 ·obtain ⟨i,e1,e2⟩:=fA h
  show (ix[j]?).join.bind G.lv=_
  rw [e1]
  exact w.fx.lvS i x e2 hl
theorem Wf.perm {T T':List It3} (w:Wf K G H σ ρ T g) (p:T.Perm T'):Wf K G H σ ρ T' g :=
 ⟨w.len,w.sl,w.sv,w.okS,fun x hx=>w.okT x (p.mem_iff.mpr hx),w.ss,fun i x e y hy=>w.st i x e y (p.mem_iff.mpr hy),(p.pairwise_iff fun h=>Apart3.symm h).mp w.tt,w.base,w.pro,w.fx.sub fun x hx=>p.mem_iff.mpr hx⟩
set_option tactic.hygienic true in
theorem jD:∀ {ix:List (Option Nat)} {τ ρ ρ2:Sto},uncap ix τ ρ=some ρ2->Inj ix->ρ2.length = ρ.length/\(∀ i,some i ∉ ix->(ρ2[i]?).join=(ρ[i]?).join) /\
  ∀ (j i:Nat),ix[j]?=some (some i)->∃ p q,(ρ[i]?).join=some p/\(τ[j]?).join=some q/\(ρ2[i]?).join=some q/\(q.2=p.2\/q.2=.z)
 | [],τ,ρ,ρ2,e,_=>by cases e;exact ⟨rfl,fun _ _=>rfl,fun j i h=>by simp at h⟩
 | none :: ix,τ,ρ,ρ2,e,hij=>by
  unfold uncap at e
  obtain ⟨h1,h2,h3⟩:=jD e fun j k i a b=>by
   have:=hij (j+1) (k+1) i (by simpa using a) (by simpa using b)
   omega
  refine ⟨h1,fun i hi=>h2 i fun q=>hi (C6 _ q),fun j i h=>?_⟩
  cases j with
  | zero=>simp at h
  | succ j =>
   obtain ⟨p,q,a,b,c⟩:=h3 j i (by simpa using h)
   exact ⟨p,q,a,by rw [List.getElem?_tail] at b;exact b,c⟩
 | some i0 :: ix,τ,ρ,ρ2,e,hij=>by
  unfold uncap at e
  cases e1:(ρ[i0]?).join with
  | none=>rw [e1] at e;exact nsE e
  | some p =>
   obtain ⟨d,f⟩:=p
   cases e2:τ.head? with
   | none=>rw [e1,e2] at e;exact nsE e
   | some o =>
    cases o with
    | none=>rw [e1,e2] at e;exact nsE e
    | some q =>
     obtain ⟨d',f'⟩:=q
     rw [e1,e2] at e
     dsimp only at e
     split at e
     ·rename_i hf
      have hi0:=fu e1
      have no0:some i0 ∉ ix:=fun m=>by
       obtain ⟨k,hk,ek⟩:=List.mem_iff_getElem.mp m
       have:=hij 0 (k+1) i0 rfl (by simp [hk,ek])
       omega
      obtain ⟨h1,h2,h3⟩:=jD e fun j k i a b=>by
       have:=hij (j+1) (k+1) i (by simpa using a) (by simpa using b)
       omega
      refine ⟨by rw [h1,List.length_set],fun i hi=>?_,fun j i h=>?_⟩
      ·rw [h2 i fun q=>hi (C6 _ q),cM hi0,if_neg (fun q=>hi (by rw [q];exact C5))]
      ·cases j with
       | zero =>
        simp at h
        subst h
        refine ⟨(d,f),(d',f'),e1,?_,?_,hf⟩
        ·rw [List.head?_eq_getElem?] at e2;rw [e2];rfl
        ·rw [h2 i0 no0,cM hi0,if_pos rfl]
       | succ j =>
        have hji:ix[j]?=some (some i):=by simpa using h
        obtain ⟨p,q,a,b,c⟩:=h3 j i hji
        have ii:i ≠ i0:=fun z=>no0 (by rw [<- z];exact Di hji)
        rw [cM hi0,if_neg ii] at a
        exact ⟨p,q,a,by rw [List.getElem?_tail] at b;exact b,c⟩
     ·exact nsE e
theorem Wf.uncap {τ':St} {τρ ρ2:Sto} {gC:Nat->Option It3} {R:List It3} (w:Wf K G H σ ρ T g) (hH:∀ b o,H b=some o->G.H0 b=some o) (hij:Inj ix) (e:L3.uncap ix τρ ρ=some ρ2) (hR:∀ x ∈ R,x.f=.z) (w2:Wf K (yw G ix σ) H' τ' τρ (R ++ (si ix ρ.length g ++ T)) gC) :
  ∃ g2,Wf K G H' σ ρ2 (R ++ T) g2:=by
 obtain ⟨hl,h2,h3⟩:=jD e hij
 let inv (i:Nat):Option Nat:=(List.range ix.length).find? fun j=>decide (ix[j]?=some (some i))
 have inv_some:∀ i j,inv i=some j->ix[j]?=some (some i):=fun i j h=>by simpa using List.find?_some h
 have inv_none:∀ i,inv i=none->some i ∉ ix:=fun i h m=>by
  obtain ⟨k,hk,ek⟩:=List.mem_iff_getElem.mp m
  have:=List.find?_eq_none.mp h k (List.mem_range.mpr hk)
  simp [hk,ek] at this
 let g2 (i:Nat):Option It3:=match inv i with | some j=>gC j | none=>g i
 have val:∀ i u,g2 i=some u->(∃ j p q,ix[j]?=some (some i)/\gC j=some u/\(ρ[i]?).join=some p/\(τρ[j]?).join=some q/\(q.2=p.2\/q.2=.z))\/(some i ∉ ix/\g i=some u):=fun i u h=>by
  have h':(match inv i with | some j=>gC j | none=>g i)=some u:=h
  cases ei:inv i with
  | none=>rw [ei] at h';exact .inr ⟨inv_none i ei,h'⟩
  | some j =>
   rw [ei] at h'
   obtain ⟨p,q,a,b,_,c⟩:=h3 j i (inv_some i j ei)
   exact .inl ⟨j,p,q,inv_some i j ei,h',a,b,c⟩
 have out:∀ i u,some i ∉ ix->g i=some u->u ∈ si ix ρ.length g:=fun i u hn e=>by
  have s:=w.sl i
  rw [e] at s
  exact xp (fu s.symm) hn e
 have back:∀ i j u,ix[j]?=some (some i)->gC j=some u->σ[i]?=some (some u.v):=fun i j u ej eu=>by
  have a:=w2.sv j u eu
  have b:=w2.pro j (by show ((ix[j]?).join).isSome=true;rw [ej];rfl)
  rw [a] at b
  have b:some (some u.v)=(L2.cap ix σ)[j]?:=b
  unfold L2.cap at b
  rw [Dl,ej] at b
  have b:some (some u.v)=some ((σ[i]?).getD none):=b
  cases q:σ[i]? with
  | none=>rw [q] at b;cases b
  | some o=>rw [q] at b;cases b;rfl
 have was:∀ i j u p q,ix[j]?=some (some i)->gC j=some u->(ρ[i]?).join=some p->(τρ[j]?).join=some q->(q.2=p.2\/q.2=.z)->∃ y,g i=some y/\y.v=u.v/\(u.f=y.f\/u.f=.z):=fun i j u p q ej eu ep eq hf=>by
  obtain ⟨y,y1,y2,y3,y4⟩:=w.slot (d:=p.1) (f:=p.2) ep
  have b:=back i j u ej eu
  rw [y4] at b
  have s:=w2.sl j
  rw [eu,eq] at s
  have s:some (u.d,u.f)=some q:=s
  refine ⟨y,y1,by injection b with b;injection b,?_⟩
  rw [y3,show u.f=q.2 by injection s with s;rw [<- s]]
  exact hf
 refine ⟨g2,⟨by rw [hl];exact w.len,fun i=>?_,fun i u h=>?_,fun i u h=>?_,fun u hu=>?_,fun i k a b n ha hb=>?_,fun i a h b hb=>?_,w2.tt.sublist ((List.Sublist.refl R).append (Dj _ T)),w2.base,w.pro,⟨fun u hu hf=>?_,fun i u h hp hf a ea=>?_,w2.fx.bin,fun b o hb=>?_,fun i u h hl=>?_⟩⟩⟩
 ·show (match inv i with | some j=>gC j | none=>g i).map _=_
  cases ei:inv i with
  | none=>rw [h2 i (inv_none i ei)];exact w.sl i
  | some j =>
   obtain ⟨p,q,a,b,c,_⟩:=h3 j i (inv_some i j ei)
   rw [c,<- b];exact w2.sl j
 ·rcases val i u h with ⟨j,p,q,ej,eu,_⟩ | ⟨hn,e⟩
  ·exact back i j u ej eu
  ·exact w.sv i u e
 ·rcases val i u h with ⟨j,p,q,ej,eu,_⟩ | ⟨hn,e⟩
  ·have ok:=w2.okS j u eu
   exact ⟨ok.rep,ok.own,ok.src⟩
  ·have ok:=w2.okT u (Da _ (C9 _ (out i u hn e)))
   exact ⟨ok.rep,ok.own,ok.src⟩
 ·have ok:=w2.okT u (by
   rcases De.mp hu with q | q
   ·exact C9 _ q
   ·exact Da _ (Da _ q))
  exact ⟨ok.rep,ok.own,ok.src⟩
 ·rcases val i a ha with ⟨j,p,q,ej,eu,_⟩ | ⟨hn,e⟩
  ·rcases val k b hb with ⟨j',p',q',ej',eu',_⟩ | ⟨hn',e'⟩
   ·exact w2.ss j j' a b (fun z=>n (by subst z;rw [ej] at ej';injection ej' with z;injection z)) eu eu'
   ·exact (w2.st j a eu b (Da _ (C9 _ (out k b hn' e')))).1
  ·rcases val k b hb with ⟨j',p',q',ej',eu',_⟩ | ⟨hn',e'⟩
   ·exact (w2.st j' b eu' a (Da _ (C9 _ (out i a hn e)))).2
   ·exact w.ss i k a b n e e'
 ·have hb':b ∈ R ++ (si ix ρ.length g ++ T):=by
   rcases De.mp hb with q | q
   ·exact C9 _ q
   ·exact Da _ (Da _ q)
  rcases val i a h with ⟨j,p,q,ej,eu,_⟩ | ⟨hn,e⟩
  ·exact w2.st j a eu b hb'
  ·rcases De.mp hb with q | q
   ·exact ((List.pairwise_append.mp w2.tt).2.2 b q a (C9 _ (out i a hn e))).symm
   ·exact w.st i a e b q
 ·rcases De.mp hu with q | q
  ·exact absurd (hR u q) hf
  ·exact w.fx.frT u q hf
 ·rcases val i u h with ⟨j,p,q,ej,eu,ep,eq,hc⟩ | ⟨hn,e⟩
  ·obtain ⟨y,y1,y2,y3⟩:=was i j u p q ej eu ep eq hc
   refine w.fx.frS i y y1 hp (fun z=>hf ?_) a (by rw [y2];exact ea)
   rcases y3 with h | h
   ·rw [h];exact z
   ·exact h
  ·exact w.fx.frS i u e hp hf a ea
 ·obtain ⟨o',ho⟩:=w.fx.ob b o hb
  have h0:=hH b o' ho
  by_cases q:G.bw b
  ·exact w2.fx.bin b q
  ·exact ⟨o',w2.base b o' h0 q⟩
 ·rcases val i u h with ⟨j,p,q,ej,eu,ep,eq,hc⟩ | ⟨hn,e⟩
  ·obtain ⟨y,y1,y2,y3⟩:=was i j u p q ej eu ep eq hc
   rw [<- y2]
   refine w.fx.lvS i y y1 ?_
   rcases y3 with h | h
   ·rw [<- h];exact hl
   ·rw [h] at hl;cases hl
  ·exact w.fx.lvS i u e hl
theorem vL {J:It} {H1:Hp} {ys els:List It3} {ds:List D} {bnd:D->Sto->Option Sto} {c:M3 Bool} {elt:EM} {tg:TG} {tc:TT} {te:TE} {Gc:Gm} {Rst:List It3} {ds':List D} {τρ τρ':Sto} {gC:Nat->Option It3} {Z:List V->Hp->Prop} {M:Addr->Prop}
  (hz:(16777216:Nat)=sizeLine) (hel:∀ x ∈ els,x ∈ Rst/\x.f=.z)
  (hgo:∀ H',(∀ b o,H1 b=some o->¬ Gc.bw b->H' b=some o)->(∀ (i:Nat) (d:D),ds[i]?=some d->J.go i H'/\∀ x H'',J.yld i H' x H''->∃ w,New K H' H'' (ff els) w/\w.d=d/\w.f=.z/\w.v=x)/\J.stop ds.length H')
  (h0:Gc.H0=H1) (hb:Bnd K Gc.pr tg bnd) (htc:∀ σ H Q,tT K Gc (fun _ _=>False) c σ H Q->tc σ H Q) (hte:∀ σ H Q,tE K Gc (fun _ _=>False) elt σ H Q->te σ H Q)
  (hlen:ds.length < 16777216) (w:Wf K Gc H1 τ τρ Rst gC) (e:bV bnd c elt ds τρ=some (.ok ds',τρ'))
  (hZ:∀ (us:List It3) (τ':St) (H':Hp) (g':Nat->Option It3),(∀ x ∈ us,x.f=.z)->us.map (·.d)=ds'->Wf K Gc H' τ' τρ' (us ++ Rst) g'->Z (us.map (·.v)) H'):rA J tg tc te Z τ H1:=by
 refine ⟨fun i m vs τ' H'=>i<=ds.length/\m=ds.length - i/\vs.length<=i/\∃ (us:List It3) (ρ2:Sto) (g2:Nat->Option It3) (r:List D),(∀ x ∈ us,x.f=.z)/\us.map (·.v)=vs/\Wf K Gc H' τ' ρ2 (us ++ Rst) g2/\bV bnd c elt (ds.drop i) ρ2=some (.ok r,τρ')/\us.map (·.d) ++ r=ds',⟨_,Nat.zero_le _,rfl,Dm _,[],τρ,gC,ds',fun _ h=>(by cases h),rfl,w,e,rfl⟩,?_⟩
 rintro i m vs τ1 H2 ⟨hi,rfl,hvl,us,ρ2,g2,r,huz,huv,w2,e2,hds⟩
 refine ⟨by omega,?_⟩
 obtain ⟨wgo,wstop⟩:=hgo H2 fun b o hb' hn=>w2.base b o (by rw [h0];exact hb') hn
 by_cases hlt:i < ds.length
 ·obtain ⟨d,hd⟩:∃ d,ds[i]?=some d:=⟨_,Dc hlt⟩
  have hdrop:ds.drop i=d :: ds.drop (i+1):=by
   rw [List.drop_eq_getElem_cons hlt]
   rw [Dc hlt] at hd
   cases hd;rfl
  rw [hdrop] at e2
  obtain ⟨go,yld⟩:=wgo i d hd
  refine .inr ⟨go,fun vs5 τ5 H5=>vs5.length<=i+1/\∃ (us:List It3) (ρ5:Sto) (g5:Nat->Option It3) (r:List D),(∀ x ∈ us,x.f=.z)/\us.map (·.v)=vs5/\Wf K Gc H5 τ5 ρ5 (us ++ Rst) g5/\bV bnd c elt (ds.drop (i+1)) ρ5=some (.ok r,τρ')/\us.map (·.d) ++ r=ds',
   fun vs5 τ5 H5 ⟨hl5,h5⟩=>⟨ds.length - (i+1),by omega,hlt,rfl,hl5,h5⟩,fun x H'' hy=>?_⟩
  obtain ⟨u,nu,ud,uf,uv⟩:=yld x H'' hy
  have w3:Wf K Gc H'' τ1 ρ2 (u :: (us ++ Rst)) g2:=w2.push nu fun c hc=>w2.alls (ys:=els) (fun y hy=>⟨.inr (Da _ (hel y hy).1),(hel y hy).2⟩) hc
  have e3:(match bnd d ρ2 with
   | none=>none
   | some τ1=>af c (fun b=>if b then af elt (fun r=>af (fU r) fun p=>af (bV bnd c elt (ds.drop (i+1))) fun l=>bF (p.1 :: l)) else bV bnd c elt (ds.drop (i+1))) τ1)=some (.ok r,τρ'):=e2
  cases e4:bnd d ρ2 with
  | none=>rw [e4] at e3;exact nsE e3
  | some ρ3 =>
   rw [e4] at e3
   dsimp only at e3
   rw [<- uv]
   refine hb Gc H'' τ1 ρ2 ρ3 _ g2 u _ rfl uf w3 (by rw [ud];exact e4) fun τ4 g4 w4=>?_
   refine htc _ _ _ (tT.seq (Le.refl K Gc _) w4 e3 (fun x hx=>by cases hx) fun b ρ5 e5 H5 g5 w5=>?_)
   cases b with
   | false =>
    simp only [DC,if_false] at e5 ⊢
    exact ⟨by omega,us,ρ5,g5,r,huz,huv,w5,e5,hds⟩
   | true =>
    simp only [if_true] at e5 ⊢
    refine hte _ _ _ (tE.seq (Le.refl K Gc _) w5 e5 (fun x hx=>by cases hx) fun ra ρ6 e6 v H6 ⟨Ts,g6,w6,a6⟩=>?_)
    obtain ⟨p,ρ7,g7,x7,e7,w7,f1,f2,_,f3⟩:=a6.take w6 e6
    have w8:=Wf.lowT (Ts:=[x7]) w7
    unfold af at e7
    cases e8:bV bnd c elt (ds.drop (i+1)) ρ7 with
    | none=>rw [e8] at e7;exact nsE e7
    | some pr =>
     obtain ⟨o,ρ8⟩:=pr
     rw [e8] at e7
     cases o with
     | error x=>cases e7
     | ok l =>
      cases e7
      refine ⟨by rw [Dw];simp;omega,us ++ [fc x7],ρ7,g7,l,fun y hy=>?_,by rw [List.map_append,huv,<- f3];rfl,?_,e8,?_⟩
      ·rcases De.mp hy with h | h
       ·exact huz y h
       ·rw [DB.mp h];rfl
      ·exact w8.perm (by
        show ([fc x7] ++ (us ++ Rst)).Perm (us ++ [fc x7] ++ Rst)
        rw [<- List.append_assoc]
        exact (List.perm_append_comm).append_right Rst)
      ·rw [List.map_append,List.append_assoc]
       show us.map (·.d) ++ ((fc x7).d :: l)=ds'
       rw [show (fc x7).d=p.1 from f1]
       exact hds
 ·have ei:i=ds.length:=by omega
  subst ei
  rw [List.drop_length] at e2
  cases e2
  rw [List.append_nil] at hds
  subst huv
  exact .inl ⟨wstop,hZ us τ1 H2 g2 huz hds w2⟩
end
end L3
end
section
namespace L3
open PySem L2
section
variable {K:FG} {G G0:Gm} {W W0:D->Sto->Prop} {H H':Hp} {σ τ:St} {ρ ρ':Sto} {T T':List It3} {g:Nat->Option It3} {x y z:It3} {α β:Type} {ix:List (Option Nat)}
noncomputable def cz (ix:List (Option Nat)):Gm:=⟨fun _=>none,fun _=>False,fun j=>((ix[j]?).join).isSome,[],fun _=>none,fun _=>False,fun _=>none⟩
noncomputable abbrev noX:D->Sto->Prop:=fun _ _=>False
theorem t8 {G1:Gm} (h:G1.pr=(cz ix).pr) (le:Le K G W G1 noX):Le K G W (cz ix) noX:=⟨le.pr.trans h,fun H σ ρ T g e w q=>by
 obtain ⟨_,_,_,_,f⟩:=le.ex H σ ρ T g e w q
 exact f.elim⟩
theorem y6 {G1:Gm} {m:EM} {Q:VK} (h:G1.pr=(cz ix).pr) (q:tE K G1 noX m σ H Q):tE K (cz ix) noX m σ H Q:=by
 obtain ⟨G,W,le,r⟩:=q
 exact ⟨G,W,t8 h le,r⟩
theorem yS {G1:Gm} {m:M3 Bool} {Q:Bool->Hp->Prop} (h:G1.pr=(cz ix).pr) (q:tT K G1 noX m σ H Q):tT K (cz ix) noX m σ H Q:=by
 obtain ⟨G,W,le,r⟩:=q
 exact ⟨G,W,t8 h le,r⟩
noncomputable def ce:M3 Bool:=bF true
theorem Bg {Q:Bool->Hp->Prop} (h:tT K G0 W0 ce σ H Q):tYes σ H Q:=by
 refine h.use fun G W le ρ T g o ρ' w e q=>?_
 cases e
 exact q _ _ w
set_option tactic.hygienic true in
theorem kJ {bnd:D->Sto->Option Sto} {c:M3 Bool} {elt:EM}:∀ {ds ds':List D} {τρ τρ':Sto},bV bnd c elt ds τρ=some (.ok ds',τρ')->ds'.length<=ds.length
 | [],ds',τρ,τρ',e=>by cases e;exact Dm _
 | d :: ds,ds',τρ,τρ',e=>by
  unfold bV at e
  split at e
  ·exact nsE e
  ·rename_i τ1 _
   unfold af at e
   split at e
   ·exact nsE e
   ·cases e
   ·rename_i b τ2 _
    cases b with
    | false =>
     simp only [DC,if_false] at e
     have:=kJ e
     simp;omega
    | true =>
     simp only [if_true] at e
     split at e
     ·exact nsE e
     ·cases e
     ·split at e
      ·exact nsE e
      ·cases e
      ·split at e
       ·exact nsE e
       ·cases e
       ·rename_i l τ5 h5
        cases e
        have:=kJ h5
        simp;omega
set_option tactic.hygienic true in
theorem qV {im:IM} {bnd:D->Sto->Option Sto} {c:M3 Bool} {elt:EM} {tg:TG} {o:Except D R3} {Z:List V->Hp->Prop} (hz:(16777216:Nat)=sizeLine) (hij:Inj ix) (hb:Bnd K (cz ix).pr tg bnd) (le:Le K G W G0 W0) (w:Wf K G H σ ρ T g) (e:bL im bnd c elt ix ρ=some (o,ρ')) (he:∀ x,o=.error x->W x ρ')
  (hZ:∀ (us:List It3) (H':Hp) (g':Nat->Option It3) (Ts:List It3) (ds:List D),o=.ok (.val (.lst ds) .u)->(∀ x ∈ us,x.f=.z)->us.map (·.d)=ds->us.length<=16777216->Wf K G H' σ ρ' (us ++ T) g'->Z (us.map (·.v)) H') :
  tI K G0 W0 im σ H fun J H1=>rA J tg (tT K (cz ix) noX c) (tE K (cz ix) noX elt) Z (cap ix σ) H1:=by
 refine tI.seq le w e he fun p ρ1 e1=>?_
 intro J H1 vs Ts g1 ys w1 a1 hys hw
 have his:=us_u (is:=pls p.1) w1
 have hus:∀ i y,i ∈ pls p.1->g1 i=some y->y.f=.u->i ∈ us ρ1 (pls p.1):=fun i y hi ey hf=>wn w1 hi ey hf
 generalize us ρ1 (pls p.1)=is at e1 his hus
 have w2:=w1.enter is
 obtain ⟨els,hels,walk⟩:=hw
 have hM:∀ b,(∃ j y,j ∉ is/\g1 j=some y/\y.f=.u/\y.v=.ref b)->MutAt H1 b:=fun b ⟨j,y,_,ey,hf,hv⟩=>by
  obtain ⟨_,a,L',v1,v2,_⟩:=(w1.okS j y ey).own (by rw [hf];intro q;cases q)
  rw [hv] at v1;cases v1
  exact (w1.okS j y ey).rep.inH b (by rw [v2];exact C5)
 have hysM:∀ y ∈ ys,∀ b ∈ y.L,¬ ∃ j y,j ∉ is/\g1 j=some y/\y.f=.u/\y.v=.ref b:=fun y hy b hb ⟨j,y',nj,ey',hf,hv⟩=>by
  have hfz:y'.f ≠ .z:=by rw [hf];intro q;cases q
  rcases hys y hy with ⟨i,hi,ei⟩ | hy
  ·by_cases ij:i=j
   ·subst ij
    rw [ei] at ey';cases ey'
    exact nj (hus i y hi ei hf)
   ·exact w1.ss j i y' y (Ne.symm ij) ey' ei hfz b hv hb
  ·exact (w1.st j y' ey' y (C9 _ hy)).1 hfz b hv hb
 have hitm:∀ y ∈ ys,Itm (Ts ++ T) g1 y:=fun y hy=>by
  rcases hys y hy with ⟨i,_,ei⟩ | h
  ·exact .inl ⟨i,ei⟩
  ·exact .inr (C9 _ h)
 have kid:∀ x ∈ els,∀ c ∈ x.L,fw ((Ts ++ T).map bX) (fun j=>if j ∈ is then (g1 j).map bX else g1 j) c/\(H1 c=none\/(G.H0 c=none\/G.src c)):=fun x hx c hc=>by
  obtain ⟨nr,sr⟩:=w1.kids hitm ((hels x hx).2.2 c hc)
  refine ⟨⟨fun i z ez hf hv=>?_,fun z hz hf hv=>?_⟩,.inr sr⟩
  ·have ez:(if i ∈ is then (g1 i).map bX else g1 i)=some z:=ez
   by_cases q:i ∈ is
   ·rw [if_pos q] at ez
    obtain ⟨z0,e0,e1⟩:=C8.mp ez
    subst e1
    exact nr.1 i z0 e0 (fun q=>hf (lentF_z.mpr q)) hv
   ·rw [if_neg q] at ez
    exact nr.1 i z ez hf hv
  ·obtain ⟨z0,h0,rfl⟩:=Dk.mp hz
   exact nr.2 z0 h0 (fun q=>hf (lentF_z.mpr q)) hv
 have w3:Wf K (fM G H1 g1 is) H1 σ (aZ eR is ρ1) (els ++ (Ts ++ T).map bX) (fun j=>if j ∈ is then (g1 j).map bX else g1 j):=w2.pushAll fun x hx=>⟨(hels x hx).1,(hels x hx).2.1,fun c hc=>kid x hx c hc⟩
 have w4:=w3.cap hij
 cases e2:bV bnd c elt p.2 (sP ix (aZ eR is ρ1)) with
 | none=>rw [e2] at e1;exact nsE e1
 | some rr =>
  obtain ⟨o2,τρ⟩:=rr
  rw [e2] at e1
  cases o2 with
  | error x=>exact nsE e1
  | ok ds =>
   dsimp only at e1
   split at e1
   ·rename_i hlen
    cases e3:uncap ix τρ (aZ eR is ρ1) with
    | none=>rw [e3] at e1;exact nsE e1
    | some ρ3 =>
     rw [e3] at e1
     have eo:o=.ok (.val (.lst ds) .u)/\ρ'=aZ ju is ρ3:=by cases e1;exact ⟨rfl,rfl⟩
     obtain ⟨eo,eρ⟩:=eo
     refine vL (K:=K) (Gc:=yw (fM G H1 g1 is) ix σ) (els:=els) (M:=fun _=>False) (ys:=ys) hz (fun x hx=>⟨Da _ (C9 _ hx),(hels x hx).1⟩) (fun H' hk=>walk _ H' hM hk hysM) rfl hb (fun σ' H Q q=>yS (G1:=yw (fM G H1 g1 is) ix σ) rfl q) (fun σ' H Q q=>y6 (G1:=yw (fM G H1 g1 is) ix σ) rfl q) hlen w4 e2 fun us τ' H' g' huz hud w5=>?_
     obtain ⟨g6,w6⟩:=Wf.uncap w3 (fun b o h=>h) hij e3 huz w5
     have w7:=Wf.leave (T:=Ts ++ T) (T':=T) (R:=us) w1 his (Dj Ts T) (w6.sub ((List.Sublist.refl us).append (by
      rw [List.map_append]
      exact (Dj (Ts.map bX) (T.map bX)).trans (Dj els _))))
     have hle:us.length<=16777216:=by
      have h1:us.length=ds.length:=by rw [<- hud,Dg]
      have h2:=kJ e2
      omega
     rw [<- eρ] at w7
     exact hZ us H' _ Ts ds eo huz hud hle w7
   ·exact nsE e1
theorem oj {us:List It3} {p:Addr} (w:Wf K G H σ ρ (us ++ T) g) (huz:∀ x ∈ us,x.f=.z) (hp:H p=none) :
  Wf K G (upd H p (.lst (us.map (·.v)))) σ ρ (⟨.lst (us.map (·.d)),.ref p,p :: (us.map (·.L)).flatten,.u⟩ :: T) g:=by
 have hi:∀ y ∈ us,Itm (us ++ T) g y/\y.f=.z:=fun y hy=>⟨.inr (C9 _ hy),huz y hy⟩
 have np:p ∉ (us.map (·.L)).flatten:=fun hc=>by
  obtain ⟨y,hm,hc⟩:=gz hc
  obtain ⟨o,ho⟩:=((w.itm (hi y hm).1).rep.inH p hc).ex
  rw [hp] at ho;exact nsE ho
 have n:New K H (upd H p (.lst (us.map (·.v)))) (ff us) ⟨.lst (us.map (·.d)),.ref p,p :: (us.map (·.L)).flatten,.u⟩:=⟨bW hp,.lst bC ((lD fun y hy=>(w.itm (hi y hy).1).rep).same (bW hp)),fun c hc=>by
  rcases Db.mp hc with e | hc
  ·rw [e];exact .inl hp
  ·exact .inr (gz hc),fun _=>⟨rfl,p,_,rfl,rfl,np,hp⟩⟩
 exact (w.push n fun c h=>w.alls hi h).sub (List.Sublist.cons_cons _ (Dj us T))
theorem y9 {im:IM} {bnd:D->Sto->Option Sto} {c:M3 Bool} {elt:EM} {tg:TG} {Q:VK} (hz:(16777216:Nat)=sizeLine) (hij:Inj ix) (hb:Bnd K (cz ix).pr tg bnd) (h:tE K G0 W0 (bL im bnd c elt ix) σ H Q) :
  AR (tI K G0 W0 im) tg (tT K (cz ix) noX c) (tE K (cz ix) noX elt) ix σ H Q:=by
 refine h.use fun G W le ρ T g o ρ' w e q=>?_
 refine qV hz hij hb le w e q.err fun us H' g' Ts ds eo huz hud hl w1=>?_
 subst eo hud
 intro p hp
 have w2:=oj w1 huz hp
 exact q (.ref p) _ ⟨[_],g',w2,Ar.val (⟨.lst (us.map (·.d)),.ref p,p :: (us.map (·.L)).flatten,.u⟩:It3)⟩
set_option tactic.hygienic true in
theorem rE {i:Nat} {im:IM} {bnd:D->Sto->Option Sto} {c:M3 Bool} {elt:EM} {tg:TG} {E:Ends} (hz:(16777216:Nat)=sizeLine) (hij:Inj ix) (hb:Bnd K (cz ix).pr tg bnd) (hp:G0.pr i=false) (h:tS K G0 W0 (bd i (bL im bnd c elt ix)) E σ H) :
  AU i (tI K G0 W0 im) tg (tT K (cz ix) noX c) (tE K (cz ix) noX elt) ix E σ H:=by
 refine h.use fun G W le ρ T g r ρ' w e q=>?_
 unfold bd af at e
 cases e1:bL im bnd c elt ix ρ with
 | none=>rw [e1] at e;exact nsE e
 | some pr =>
  obtain ⟨o,ρ1⟩:=pr
  rw [e1] at e
  have herr:∀ x,o=.error x->W x ρ1:=fun x hx=>by subst hx;cases e;exact q
  refine qV hz hij hb le w e1 herr fun us H' g' Ts ds eo huz hud hl w1=>?_
  subst eo hud
  intro p hp'
  have w2:=oj w1 huz hp'
  have e:(if i < ρ1.length then some ((.ok .nx,ρ1.set i (some (D.lst (us.map (·.d)),Fl.u))):Except D Flw × Sto) else none)=some (r,ρ'):=e
  split at e
  ·rename_i hi
   cases e
   exact q _ _ _ (w2.store (f:=.u) hi (by rw [le.pr];exact hp) (.inl rfl) (by intro h;cases h))
  ·exact nsE e
end
end L3
end
section
namespace L3
open PySem L2
section
variable {K:FG} {G G0:Gm} {W W0:D->Sto->Prop} {H H':Hp} {σ:St} {ρ ρ':Sto} {T T':List It3} {g:Nat->Option It3} {x y z:It3} {α β:Type}
theorem Wf.mutate {i:Nat} {a:Addr} {o':HO} {d':D} {L0:List Addr} (w:Wf K G H σ ρ T g) (ey:g i=some y) (hu:y.f=.u) (ev:y.v=.ref a) (hm:kg d'=true) (rep:Rep K (upd H a o') d' (.ref a) (a :: L0)) (na:a ∉ L0)
  (hk:∀ c ∈ L0,fw T g c/\(G.H0 c=none\/G.src c)):Wf K G (upd H a o') σ (ρ.set i (some (d',.u))) T (fun j=>if j=i then some ⟨d',.ref a,a :: L0,.u⟩ else g j):=by
 have hfz:y.f ≠ .z:=by rw [hu];intro q;cases q
 have oy:=w.okS i y ey
 obtain ⟨_,a',L',v1,v2,v3,v4⟩:=oy.own hfz
 rw [ev] at v1;cases v1
 have hi:i < ρ.length:=by
  have:=w.sl i
  rw [ey] at this
  exact fu this.symm
 have ma:MutAt H a:=oy.rep.inH a (by rw [v2];exact C5)
 have val:∀ j u,(if j=i then some (⟨d',.ref a,a :: L0,.u⟩:It3) else g j)=some u->(j=i/\u=⟨d',.ref a,a :: L0,.u⟩)\/(j ≠ i/\g j=some u):=fun j u h=>by
  by_cases q:j=i
  ·rw [if_pos q] at h;cases h;exact .inl ⟨q,rfl⟩
  ·rw [if_neg q] at h;exact .inr ⟨q,h⟩
 have keep:∀ u,ItOk K G H u->a ∉ u.L->ItOk K G (upd H a o') u:=fun u ou hn=>ou.keep (M:=fun b=>b=a) (fun b o hb n=>by rw [aR n];exact hb) (fun b e=>by rw [e];exact ma) fun b hb e=>hn (by rw [<- e];exact hb)
 have nS:∀ j u,j ≠ i->g j=some u->a ∉ u.L:=fun j u n e=>w.ss i j y u (Ne.symm n) ey e hfz a ev
 have nT:∀ u ∈ T,a ∉ u.L:=fun u hu'=>(w.st i y ey u hu').1 hfz a ev
 have dom:∀ b o,H b=some o->∃ o'',upd H a o' b=some o'':=fun b o hb=>by
  by_cases q:b=a
  ·rw [q,bC];exact ⟨_,rfl⟩
  ·rw [aR q];exact ⟨o,hb⟩
 refine ⟨by rw [List.length_set];exact w.len,fun j=>?_,fun j u h=>?_,fun j u h=>?_,fun u hu'=>keep u (w.okT u hu') (nT u hu'),fun j k p q n hp hq=>?_,fun j u h t ht=>?_,w.tt,fun b o e n=>?_,w.pro,⟨w.fx.frT,fun j u h hp hf b eb=>?_,fun b hb=>?_,fun b o hb=>?_,fun j u h hl=>?_⟩⟩
 ·rw [cM hi]
  by_cases q:j=i
  ·rw [if_pos q,if_pos q];rfl
  ·rw [if_neg q,if_neg q];exact w.sl j
 ·rcases val j u h with ⟨rfl,rfl⟩ | ⟨n,h⟩
  ·rw [w.sv j y ey,ev]
  ·exact w.sv j u h
 ·rcases val j u h with ⟨rfl,rfl⟩ | ⟨n,h⟩
  ·refine ⟨rep,fun _=>⟨hm,a,L0,rfl,rfl,na,fun _=>v4 hu⟩,fun c hc=>?_⟩
   rcases Db.mp hc with e | hc
   ·rw [e];exact oy.src a (by rw [v2];exact C5)
   ·exact (hk c hc).2
  ·exact keep u (w.okS j u h) (nS j u n h)
 ·rcases val j p hp with ⟨ej,ep⟩ | ⟨n1,hp'⟩
  ·rcases val k q hq with ⟨ek,eq⟩ | ⟨n2,hq'⟩
   ·exact absurd (ej.trans ek.symm) n
   ·rw [ep]
    intro _ c ec
    cases ec
    exact nS k q n2 hq'
  ·rcases val k q hq with ⟨ek,eq⟩ | ⟨n2,hq'⟩
   ·rw [eq]
    intro hf c ec hc
    rcases Db.mp hc with e | hc
    ·obtain ⟨_,b,L2,u1,u2,_⟩:=(w.okS j p hp').own hf
     rw [ec] at u1;cases u1
     exact nS j p n1 hp' (by rw [<- e,u2];exact C5)
    ·exact (hk c hc).1.1 j p hp' hf ec
   ·exact w.ss j k p q n hp' hq'
 ·rcases val j u h with ⟨ej,eu⟩ | ⟨n,h'⟩
  ·rw [eu]
   refine ⟨fun _ c ec=>by cases ec;exact nT t ht,fun hf c ec hc=>?_⟩
   rcases Db.mp hc with e | hc
   ·obtain ⟨_,b,L2,u1,u2,_⟩:=(w.okT t ht).own hf
    rw [ec] at u1;cases u1
    exact nT t ht (by rw [<- e,u2];exact C5)
   ·exact (hk c hc).1.2 t ht hf ec
  ·exact w.st j u h' t ht
 ·have:b ≠ a:=fun z=>by
   subst z
   rcases v4 hu with h | h
   ·rw [e] at h;cases h
   ·exact n h
  rw [aR this];exact w.base b o e n
 ·rcases val j u h with ⟨ej,eu⟩ | ⟨n,h'⟩
  ·subst ej
   rw [eu] at eb
   cases eb
   exact w.fx.frS j y ey hp hfz a ev
  ·exact w.fx.frS j u h' hp hf b eb
 ·obtain ⟨o,ho⟩:=w.fx.bin b hb
  exact dom b o ho
 ·obtain ⟨o2,ho⟩:=w.fx.ob b o hb
  exact dom b o2 ho
 ·rcases val j u h with ⟨ej,eu⟩ | ⟨n,h'⟩
  ·rw [eu] at hl;cases hl
  ·exact w.fx.lvS j u h' hl
noncomputable def MutD (K:FG) (r:V->List V->Hp->VK->Prop) (f:D->List D->Option (D × D)):Prop:=∀ (a:Addr) (d:D) (L0:List Addr) (as:List It3) (H:Hp) (Q:VK) (p:D × D),Rep K H d (.ref a) (a :: L0)->kg d=true->a ∉ L0->(∀ x ∈ as,Rep K H x.d x.v x.L)->(∀ x ∈ as,a ∉ x.L)->f d (as.map (·.d))=some p ->
 (∀ (o':HO) (L1:List Addr) (w:It3),Rep K (upd H a o') p.1 (.ref a) (a :: L1)->kg p.1=true->(∀ c ∈ L1,c ∈ L0\/ff as c)->w.f=.z->w.d=p.2->Rep K (upd H a o') w.d w.v w.L->(∀ c ∈ w.L,c ∈ L0\/ff as c)->Q w.v (upd H a o'))->r (.ref a) (as.map (·.v)) H Q
noncomputable def chk (ok:D->Bool) (i:Nat):M3 Unit:=fun ρ=>match (ρ[i]?).join with
 | some (d,_)=>if ok d then some (.ok (),ρ) else none
 | none=>none
theorem pP {i:Nat} {k:R3->M3 β} {r:Except D β} (e:af (ac i) k ρ=some (r,ρ')):∃ p,(ρ[i]?).join=some p/\k (.pl i) ρ=some (r,ρ'):=by
 unfold af ac at e
 cases q:(ρ[i]?).join with
 | none=>rw [q] at e;exact nsE e
 | some p=>rw [q] at e;exact ⟨p,rfl,e⟩
theorem yr {ok:D->Bool} {i:Nat} {k:Unit->M3 β} {r:Except D β} (e:af (chk ok i) k ρ=some (r,ρ')):(∀ p,(ρ[i]?).join=some p->ok p.1=true)/\k () ρ=some (r,ρ'):=by
 unfold af chk at e
 cases q:(ρ[i]?).join with
 | none=>rw [q] at e;exact nsE e
 | some p =>
  rw [q] at e
  dsimp only at e
  cases h:ok p.1 with
  | false=>rw [h] at e;exact nsE e
  | true=>rw [h] at e;exact ⟨fun p' e'=>by cases e';exact h,e⟩
noncomputable def sE (ok:D->Bool) (f:D->List D->Option (D × D)) (i:Nat) (ms:M3 (List R3)):EM:=af (ac i) fun _=>af (chk ok i) fun _=>af ms fun rs=>af (gives rs) fun ds=>fun ρ=>match (ρ[i]?).join with
 | some (d,.u)=>match f d ds with
  | some p=>some (.ok (.val p.2 .z),ρ.set i (some (p.1,.u)))
  | none=>none
 | _=>none
theorem Wf.changed {i:Nat} {d:D} {as us:List It3} {r:V->List V->Hp->VK->Prop} {f:D->List D->Option (D × D)} {p:D × D} {v:V} {Q:VK} (hr:MutD K r f) (w:Wf K G H σ ρ (us ++ T) g) (e:(ρ[i]?).join=some (d,.u)) (hv:σ[i]?=some (some v)) (ha:∀ y ∈ as,Itm (us ++ T) g y/\y.f=.z)
  (ef:f d (as.map (·.d))=some p) (q:∀ v H',Got K G σ (ρ.set i (some (p.1,.u))) T (.val p.2 .z) v H'->Q v H'):r v (as.map (·.v)) H Q:=by
 obtain ⟨y,y1,y2,y3,y4⟩:=w.slot e
 rw [hv] at y4
 injection y4 with y4
 injection y4 with y4
 have hfz:y.f ≠ .z:=by rw [y3];intro q;cases q
 have oy:=w.okS i y y1
 obtain ⟨m,a,L0,v1,v2,v3,_⟩:=oy.own hfz
 have ra:=oy.rep
 rw [v1,v2,y2] at ra
 rw [y2] at m
 rw [y4,v1]
 have na:∀ x ∈ as,a ∉ x.L:=fun x hx hc=>by
  have:=(w.kid (ha x hx).1 hc fun hf=>absurd (ha x hx).2 hf).1 i y y1 hfz
  exact this v1
 refine hr a d L0 as H Q p ra m v3 (fun x hx=>(w.itm (ha x hx).1).rep) na ef fun o' L1 u r1 m1 s1 uf ud ur us1=>?_
 have hsrc:∀ c,(c ∈ L0\/ff as c)->fw (us ++ T) g c/\(G.H0 c=none\/G.src c):=fun c hc=>by
  rcases hc with hc | hc
  ·have hc':c ∈ y.L:=by rw [v2];exact C6 _ hc
   exact ⟨w.kid (.inl ⟨i,y1⟩) hc' fun _ ez=>by rw [v1] at ez;cases ez;exact v3 hc,oy.src c hc'⟩
  ·exact w.alls ha hc
 have nL:∀ c,(c ∈ L0\/ff as c)->c ≠ a:=fun c hc z=>(hsrc c hc).1.1 i y y1 hfz (by rw [z];exact v1)
 have w1:=w.mutate (o':=o') y1 y3 v1 m1 r1 (fun h=>nL a (s1 a h) rfl) fun c hc=>hsrc c (s1 c hc)
 have w2:=w1.pushAll (ws:=[u]) fun x hx=>by
  rw [DB.mp hx]
  refine ⟨uf,ur,fun c hc=>?_⟩
  have s:=hsrc c (us1 c hc)
  refine ⟨⟨fun j z ez hf hz=>?_,s.1.2⟩,s.2⟩
  have ez:(if j=i then some (⟨p.1,.ref a,a :: L1,.u⟩:It3) else g j)=some z:=ez
  by_cases q:j=i
  ·rw [if_pos q] at ez
   cases ez
   cases hz
   exact nL a (us1 a hc) rfl
  ·rw [if_neg q] at ez
   exact s.1.1 j z ez hf hz
 rw [<- ud,<- uf] at q
 exact q u.v _ ⟨[u],_,w2.sub ((List.Sublist.refl [u]).append (Dj us T)),.val u⟩
theorem By {i:Nat} {Ty:String} {ok:D->Bool} {ms:M3 (List R3)} {r:V->List V->Hp->VK->Prop} {f:D->List D->Option (D × D)} {Q:VK} (hr:MutD K r f) (hok:∀ d v L H,ok d=true->Rep K H d v L->tyV K Ty v H) (h:tE K G0 W0 (sE ok f i ms) σ H Q):tBM K Ty r (uM i) (tA K G0 W0 ms) σ H Q:=by
 refine h.use fun G W le ρ T g o ρ' w e q=>?_
 obtain ⟨p0,e0,e⟩:=pP e
 obtain ⟨hk,e⟩:=yr e
 obtain ⟨d0,f0⟩:=p0
 obtain ⟨y,y1,y2,y3,y4⟩:=w.slot e0
 refine ⟨y.v,y4,hok d0 y.v y.L H (hk _ e0) (by rw [<- y2];exact (w.okS i y y1).rep),?_⟩
 refine tA.seq le w e q.err fun rs ρ1 e1 vs H1 Ts g1 w1 a1=>?_
 obtain ⟨ds,ρ2,g2,e2,_,w2,_,ys,hy,f1,f2⟩:=a1.gives w1 e1
 subst f1 f2
 cases e3:(ρ2[i]?).join with
 | none=>rw [e3] at e2;exact nsE e2
 | some p3 =>
  obtain ⟨d3,f3⟩:=p3
  rw [e3] at e2
  cases f3 with
  | u =>
   dsimp only at e2
   cases e4:f d3 (ys.map (·.d)) with
   | none=>rw [e4] at e2;exact nsE e2
   | some p =>
    rw [e4] at e2
    cases e2
    exact w2.changed hr e3 y4 hy e4 q
  | l=>exact nsE e2
  | z=>exact nsE e2
noncomputable def mh (t:V->V->V->Hp->(Hp->Prop)->Prop):V->List V->Hp->VK->Prop:=fun x vs H Q=>∃ k v,vs=[k,v]/\t x k v H fun H'=>Q .non H'
noncomputable def rN (f:D->List D->Option (D × D)) (i:Nat) (mk mv:EM):SM:=af mv fun rv=>af (ac i) fun _=>af mk fun rk=>af (gives [rk,rv]) fun ds=>fun ρ=>match (ρ[i]?).join with
 | some (d,.u)=>match f d ds with
  | some p=>some (.ok .nx,ρ.set i (some (p.1,.u)))
  | none=>none
 | _=>none
theorem Bk {i:Nat} {mk mv:EM} {t:wd} {f:D->List D->Option (D × D)} {E:Ends} (hr:MutD K (mh t) f) (h:tS K G0 W0 (rN f i mk mv) E σ H):wx (tE K G0 W0 mv) (gSub (uM i) (tE K G0 W0 mk) t) E σ H:=by
 refine h.use fun G W le ρ T g r ρ' w e q=>?_
 refine tE.seq le w e q.err fun rv ρ1 e1 v H1 ⟨Ts,g1,w1,a1⟩=>?_
 obtain ⟨p0,e0,e1⟩:=pP e1
 obtain ⟨d0,f0⟩:=p0
 obtain ⟨y,y1,y2,y3,y4⟩:=w1.slot e0
 refine ⟨y.v,y4,?_⟩
 ·refine tE.seq le w1 e1 q.err fun rk ρ2 e2 vk H2 ⟨Us,g2,w2,a2⟩=>?_
  have a3:Ars σ [rk,rv] [vk,v] (([] ++ Ts) ++ Us):=.cons a2 (.cons a1 .nil)
  have w3:Wf K G H2 σ ρ2 ((([] ++ Ts) ++ Us) ++ T) g2:=w2.perm (by
   rw [List.nil_append,<- List.append_assoc]
   exact (List.perm_append_comm).append_right T)
  obtain ⟨ds,ρ3,g3,e3,_,w4,_,ys,hy,f1,f2⟩:=a3.gives w3 e2
  subst f1
  cases e4:(ρ3[i]?).join with
  | none=>rw [e4] at e3;exact nsE e3
  | some p3 =>
   obtain ⟨d3,f3⟩:=p3
   rw [e4] at e3
   cases f3 with
   | u =>
    dsimp only at e3
    cases e5:f d3 (ys.map (·.d)) with
    | none=>rw [e5] at e3;exact nsE e3
    | some p =>
     rw [e5] at e3
     cases e3
     have:=w4.changed (Q:=fun _ H'=>E.nx σ H') hr e4 y4 hy e5 fun v' H' ⟨Vs,g5,w5,a5⟩=>q _ _ _ (w5.sub (Dj Vs T))
     rw [f2] at this
     obtain ⟨k',v',ekv,ht⟩:=this
     cases ekv
     exact ht
   | l=>exact nsE e3
   | z=>exact nsE e3
end
end L3
end
section
namespace L3
open PySem L2
structure RE (X:Cx) (G0:Gm) (W0:D->Sto->Prop) (e:Expr) (m:EM):Prop where
 h:PE X e (tE X.K G0 W0 m)
structure RT (X:Cx) (G0:Gm) (W0:D->Sto->Prop) (e:Expr) (m:M3 Bool):Prop where
 h:PT X e (tT X.K G0 W0 m)
structure RW (X:Cx) (G0:Gm) (W0:D->Sto->Prop) (e:Expr) (m:M3 Bool):Prop where
 h:PW X e (tT X.K G0 W0 m)
structure RA (X:Cx) (G0:Gm) (W0:D->Sto->Prop) (es:List Expr) (m:M3 (List R3)):Prop where
 h:PA X es (tA X.K G0 W0 m)
structure RS (X:Cx) (G0:Gm) (W0:D->Sto->Prop) (s:Stmt) (m:SM):Prop where
 h:PS X s (tS X.K G0 W0 m)
structure RSs (X:Cx) (G0:Gm) (W0:D->Sto->Prop) (s:List Stmt) (m:SM):Prop where
 h:PSs X s (tS X.K G0 W0 m)
structure RI (X:Cx) (G0:Gm) (W0:D->Sto->Prop) (tg iter:Expr) (m:IM):Prop where
 h:PI X tg iter (tI X.K G0 W0 m)
structure RG (X:Cx) (pr:Nat->Bool) (target:Expr) (bnd:D->Sto->Option Sto):Prop where
 h:∃ tg,PG X target tg/\Bnd X.K pr tg bnd
structure RGs (X:Cx) (pr:Nat->Bool) (targets:List Expr) (bnd:List D->Sto->Option Sto):Prop where
 h:∃ tg,PGs X targets tg/\yN X.K pr tg bnd
theorem PE.imp {X:Cx} {e:Expr} {t t':TE} (h:PE X e t) (f:∀ σ H Q,t' σ H Q->t σ H Q):PE X e t':=fun pins s σ H Q I q=>h pins s σ H Q I (f σ H Q q)
theorem PT.imp {X:Cx} {e:Expr} {t t':TT} (h:PT X e t) (f:∀ σ H Q,t' σ H Q->t σ H Q):PT X e t':=fun pins s σ H Q I q=>h pins s σ H Q I (f σ H Q q)
theorem PW.imp {X:Cx} {e:Expr} {t t':TT} (h:PW X e t) (f:∀ σ H Q,t' σ H Q->t σ H Q):PW X e t':=fun wh pins s σ H Q I q=>h wh pins s σ H Q I (f σ H Q q)
theorem PA.imp {X:Cx} {e:List Expr} {t t':TA} (h:PA X e t) (f:∀ σ H Q,t' σ H Q->t σ H Q):PA X e t':=fun pos pins s σ H Q I q=>h pos pins s σ H Q I (f σ H Q q)
theorem PS.imp {X:Cx} {e:Stmt} {t t':TS} (h:PS X e t) (f:∀ D σ H,t' D σ H->t D σ H):PS X e t':=fun pins s σ H D I q=>h pins s σ H D I (f D σ H q)
theorem PSs.imp {X:Cx} {e:List Stmt} {t t':TS} (h:PSs X e t) (f:∀ D σ H,t' D σ H->t D σ H):PSs X e t':=fun pins s σ H D I q=>h pins s σ H D I (f D σ H q)
theorem PI.imp {X:Cx} {tg e:Expr} {t t':TI} (h:PI X tg e t) (f:∀ σ H R,t' σ H R->t σ H R):PI X tg e t':=fun pins s σ H R I q=>h pins s σ H R I (f σ H R q)
theorem szl:(16777216:Nat)=sizeLine:=by rw [sizeLine_eq]
section
variable {X:Cx} {G0:Gm} {W0:D->Sto->Prop} {a b c e:Expr} {es:List Expr} {pos:Pos} {ma mb mc m:EM} {ms:M3 (List R3)} {t u:M3 Bool} {gk:List Expr}
theorem wY (i:Nat) {x:Str} (hN:X.N[i]?=some x) (hv:Vis X.env.scope x) (hd:(x == ("__debug__":Str))=false) (hcd:(x == ("__classdict__":Str))=false):RE X G0 W0 (.Name x pos) (ac i):=⟨PE.imp (jH hN hv hd hcd) fun _ _ _ h=>Bv h⟩
theorem ae {i j}:RE X G0 W0 (.Constant (.int i) j pos) (mC (.int i)):=⟨PE.imp B9 fun _ _ _ h=>jN (fun _=>.int i) h⟩
theorem fY {i j}:RE X G0 W0 (.Constant (.bool i) j pos) (mC (.bl i)):=⟨PE.imp pe_bl fun _ _ _ h=>jN (fun _=>.bl i) h⟩
theorem rY {j}:RE X G0 W0 (.Constant .none j pos) (mC .non):=⟨PE.imp B6 fun _ _ _ h=>jN (fun _=>.non) h⟩
theorem cG {x:Str} {i:Int} {tk:Tok} (hg:Gl X x) (hm:X.mg x=some (.int i tk)) (hd:(x == ("__debug__":Str))=false):RE X G0 W0 (.Name x pos) (mC (.int i)):=⟨PE.imp (zJ (v:=V.int i) hg hm ⟨_,rfl⟩ hd) fun _ _ _ h=>jN (fun _=>.int i) h⟩
theorem av {op:Operator} {r:R2} {f:D->D->Option (D × Fl)} (ho:OpR X (binaryOp op) r) (hd:OpD X.K r f) (ha:RE X G0 W0 a ma) (hb:RE X G0 W0 b mb):RE X G0 W0 (.BinOp a op b pos) (ah f ma mb):=⟨PE.imp (pe_op ho ha.h hb.h) fun _ _ _ h=>lQ hd h⟩
theorem kS {op:UnaryOp} {r:V->Hp->VK->Prop} {f:D->Option (D × Fl)} (ho:UnR X (unaryOp op) r) (hd:UnD X.K r f) (ha:RE X G0 W0 a ma):RE X G0 W0 (.UnaryOp op a pos) (mUn f ma):=⟨PE.imp (pe_un ho ha.h) fun _ _ _ h=>AN hd h⟩
theorem gl {op:CmpOp} {r:R2} {f:D->D->Option (D × Fl)} (ho:OpR X (compareOp op) r) (hd:OpD X.K r f) (ha:RE X G0 W0 a ma) (hb:RE X G0 W0 b mb) (hm:behindInMarks op b=false):RE X G0 W0 (.Compare a [op] [b] pos) (ah f ma mb):=⟨PE.imp (zM ho ha.h hb.h hm) fun _ _ _ h=>lQ hd h⟩
theorem aE {r:R2} {f:D->D->Option (D × Fl)} (ho:IxR X r) (hd:OpD X.K r f) (ha:RE X G0 W0 a ma) (hb:RE X G0 W0 b mb) (hs:uF b):RE X G0 W0 (.Subscript a b pos) (ah f ma mb):=⟨PE.imp (pe_ix ho ha.h hb.h hs) fun _ _ _ h=>lQ hd h⟩
theorem gS (ha:RE X G0 W0 a ma) (hb:RE X G0 W0 (.BoolOp .And (b :: gk) pos) mb):RE X G0 W0 (.BoolOp .And (a :: b :: gk) pos) (i5 ma mb):=⟨PE.imp (Cc ha.h hb.h) fun _ _ _ h=>BA h⟩
theorem re_or (ha:RE X G0 W0 a ma) (hb:RE X G0 W0 (.BoolOp .Or (b :: gk) pos) mb):RE X G0 W0 (.BoolOp .Or (a :: b :: gk) pos) (mOr ma mb):=⟨PE.imp (pe_or ha.h hb.h) fun _ _ _ h=>tE_or h⟩
theorem iJ {op} (h:RE X G0 W0 a ma):RE X G0 W0 (.BoolOp op [a] pos) ma:=⟨B4 h.h⟩
theorem BN (ha:RE X G0 W0 a ma):RE X G0 W0 (.UnaryOp .Not a pos) (Cq ma):=⟨PE.imp (B5 ha.h) fun _ _ _ h=>Bx h⟩
theorem re_if (hc:RT X G0 W0 c t) (ha:RE X G0 W0 a ma) (hb:RE X G0 W0 b mb):RE X G0 W0 (.IfExp c a b pos) (mIf t ma mb):=⟨PE.imp (xn hc.h ha.h hb.h) fun _ _ _ h=>tE_if h⟩
noncomputable def iZ (f f':D->D->Option (D × Fl)) (ma mb mc:EM):EM:=af ma fun ra=>af mb fun rb=>af (der ra) fun da=>af (der rb) fun db=>af (bD ((f da db).bind fun p=>asB p.1)) fun k=>if k then af mc fun rc=>af (der rb) fun db=>af (der rc) fun dc=>bD ((f' db dc).map fun p=>R3.val p.1 p.2) else bF (.val (.bl false) .z)
theorem eX (ha:RE X G0 W0 a ma) (he:∀ whole,isTrue a X.env whole=(do let v <- whole;standAt a.pos;holding [v] (truthy v))):RT X G0 W0 a (cB ma):=⟨PT.imp (BU ha.h he) fun _ _ _ h=>Bi h⟩
theorem qe (h:RW X G0 W0 a t):RT X G0 W0 a t:=⟨h.h.pt⟩
theorem ze (ha:RT X G0 W0 a t):RW X G0 W0 (.BoolOp .And [a] pos) t:=⟨zv ha.h⟩
theorem jE (ha:RT X G0 W0 a t):RW X G0 W0 (.BoolOp .Or [a] pos) t:=⟨BS ha.h⟩
theorem BG (ha:RT X G0 W0 a t) (hb:RW X G0 W0 (.BoolOp .And (b :: gk) pos) u):RW X G0 W0 (.BoolOp .And (a :: b :: gk) pos) (sU t u):=⟨PW.imp (BT ha.h hb.h) fun _ _ _ h=>Bj h⟩
theorem lZ (ha:RT X G0 W0 a t) (hb:RW X G0 W0 (.BoolOp .Or (b :: gk) pos) u):RW X G0 W0 (.BoolOp .Or (a :: b :: gk) pos) (cOr t u):=⟨PW.imp (pw_or ha.h hb.h) fun _ _ _ h=>tT_or h⟩
theorem eh (ha:RT X G0 W0 a t):RT X G0 W0 (.UnaryOp .Not a pos) (jc t):=⟨PT.imp (BV ha.h) fun _ _ _ h=>Bh h⟩
theorem ad:RA X G0 W0 [] ai:=⟨PA.imp sh fun _ _ _ h=>wy h⟩
theorem aa (ha:RE X G0 W0 e m) (hr:RA X G0 W0 es ms) (hs:starEach (e :: es) X.env=(false,eval e X.env) :: starEach es X.env):RA X G0 W0 (e :: es) (ab m ms):=⟨PA.imp (lE ha.h hr.h hs) fun _ _ _ h=>tw h⟩
theorem bO {x1} (h:RA X G0 W0 es ms):RE X G0 W0 (.Tuple es x1 pos) (cL ms):=⟨PE.imp (B3 h.h) fun _ _ _ h=>Bw szl h⟩
theorem iK (h:RA X G0 W0 es ms):RE X G0 W0 (.List es pos) (lp ms):=⟨PE.imp (B7 h.h) fun _ _ _ h=>Bz szl h⟩
theorem aI {x:Str} {p:Pos} {id:String} {r:List V->Hp->VK->Prop} {f:List D->Option (D × Fl)} (hc:CallR X (.builtin id) r) (hd:gL X.K r f) (hg:Gl X x) (hm:X.mg x=none) (hv:bootBuiltins x=some (.builtin id)) (ha:RA X G0 W0 (e :: es) ms) (hn:x ≠ "__name__") (hdb:(x == ("__debug__":Str))=false)
  (he:starEach (e :: es) X.env=(false,eval e X.env) :: starEach es X.env) (hpl:(backTo pos (starEach es X.env)).any (·.1)=false):RE X G0 W0 (.Call (.Name x p) (e :: es) [] pos) (aD f ms):=⟨PE.imp (ml hc hg hm hv ha.h hn hdb he hpl) fun _ _ _ h=>jO hd h⟩
theorem cO {x:Str} {p:Pos} {T:String} {r:List V->Hp->VK->Prop} {f:List D->Option (D × Fl)} (hc:CallR X (.type T) r) (hd:gL X.K r f) (hg:Gl X x) (hm:X.mg x=none) (hv:bootBuiltins x=some (.type T)) (ha:RA X G0 W0 (e :: es) ms) (hn:x ≠ "__name__") (hdb:(x == ("__debug__":Str))=false)
  (he:starEach (e :: es) X.env=(false,eval e X.env) :: starEach es X.env) (hpl:(backTo pos (starEach es X.env)).any (·.1)=false):RE X G0 W0 (.Call (.Name x p) (e :: es) [] pos) (aD f ms):=⟨PE.imp (u7 hc hg hm hv ha.h hn hdb he hpl) fun _ _ _ h=>jO hd h⟩
variable {st:Stmt} {sts:List Stmt} {sm sn:SM}
theorem bo:RSs X G0 W0 [] d9:=⟨PSs.imp zD fun _ _ _ h=>Bq h⟩
theorem ag (h1:RS X G0 W0 st sm) (h2:RSs X G0 W0 sts sn):RSs X G0 W0 (st :: sts) (aK sm sn):=⟨PSs.imp (xg h1.h h2.h) fun _ _ _ h=>Bo h⟩
theorem ak (h1:RS X G0 W0 st sm):RSs X G0 W0 [st] sm:=⟨zC h1.h⟩
theorem dI (he:RE X G0 W0 e m) (hs:swapsWith e none pos.line X.env=pure false):RS X G0 W0 (.Expr e pos) (fH m):=⟨PS.imp (zE he.h hs) fun _ _ _ h=>yT h⟩
theorem aH (np:Nat) (hnp:∀ i,np<=i->G0.pr i=false) (he:RE X G0 W0 e m):RS X G0 W0 (.Return (some e) pos) (ba np m):=⟨PS.imp (BY he.h) fun _ _ _ h=>Bp hnp h⟩
theorem cZ {x y:List Stmt} (hc:RT X G0 W0 c t) (ha:RSs X G0 W0 x sm) (hb:RSs X G0 W0 y sn):RS X G0 W0 (.If c x y pos) (sIf t sm sn):=⟨PS.imp (ps_if hc.h ha.h hb.h) fun _ _ _ h=>tS_if h⟩
theorem aJ (i:Nat) {x:Str} {pos':Pos} (hN:X.N.Nodup) (hi:X.N[i]?=some x) (hx:Loc X.env.scope x) (he:RE X G0 W0 e m) (hs:swapsWith e (some (.Name x pos')) pos.line X.env=pure false) (hf:X.fn x=true\/X.env.scope.names.lookup x=some .local) (hp:G0.pr i=false):RS X G0 W0 (.Assign [.Name x pos'] e pos) (bd i m):=⟨PS.imp (BW hN hi hx he.h hs hf) fun _ _ _ h=>Bm hp h⟩
theorem qf {body:List Stmt} (hp:PassesOwn (model X.prog X.w) X.A X.env X.xe) (hc:RT X G0 W0 c t) (hb:RSs X G0 W0 body sm):RS X G0 W0 (.While c body [] pos) (gi t sm):=⟨PS.imp (xh hp hc.h hb.h) fun _ _ _ h=>wu h⟩
theorem en {tg iter:Expr} {body:List Stmt} {im:IM} {bnd:D->Sto->Option Sto} (hp:PassesOwn (model X.prog X.w) X.A X.env X.xe) (hc:X.calm=true) (hi:RI X G0 W0 tg iter im) (hg:RG X G0.pr tg bnd) (hb:RSs X G0 W0 body sm) (hs:∀ x,foldedSetIterable iter X.env x=pure x):RS X G0 W0 (.For tg iter body [] pos) (fQ im bnd sm):=by
 obtain ⟨g,h1,h2⟩:=hg.h
 exact ⟨PS.imp (BZ hp hc hi.h h1 hb.h hs) fun _ _ _ h=>Br h2 h⟩
theorem cn (i:Nat) {x:Str} {pr:Nat->Bool} (hN:X.N.Nodup) (hi:X.N[i]?=some x) (hx:Loc X.env.scope x) (hf:X.fn x=true\/X.env.scope.names.lookup x=some .local) (hp:pr i=false):RG X pr (.Name x pos) (aw i):=⟨_,aW hN hi hx hf,aO hp⟩
theorem zp {pr:Nat->Bool}:RGs X pr [] sX:=⟨_,oR,mU⟩
theorem qi {pr:Nat->Bool} {bn:D->Sto->Option Sto} {bs:List D->Sto->Option Sto} (h1:RG X pr e bn) (h2:RGs X pr es bs) (hs:(assignEach (e :: es) X.env).map (·.2)=assign e X.env :: (assignEach es X.env).map (·.2)):RGs X pr (e :: es) (iA bn bs):=by
 obtain ⟨g,a1,a2⟩:=h1.h
 obtain ⟨gs,b1,b2⟩:=h2.h
 exact ⟨_,iN a1 b1 hs,gJ a2 b2⟩
theorem BM {pr:Nat->Bool} {k n:Nat} {bs:List D->Sto->Option Sto} (hc:X.calm=true) (h:RGs X pr es bs) (hn:(assignEach es X.env).length=n) (hst:(assignEach es X.env).findIdx? (·.1)=none):RG X pr (.Tuple es k pos) (sW n bs):=by
 obtain ⟨gs,b1,b2⟩:=h.h
 exact ⟨_,sf hc b1 hn hst,pI b2⟩
theorem bf {elt tg iter:Expr} {ifs:List Expr} {scope:Scope} {im:IM} {bnd:D->Sto->Option Sto} {cm:M3 Bool} {em:EM} (NY:List Str) (ix:List (Option Nat)) (hc:X.calm=true) (hi:RI X G0 W0 tg iter im)
  (ht:∀ s H C fp,PTs (bx X NY scope s H C fp) ifs (tT X.K (cz ix) noX cm)) (he:∀ s H C fp,RE (bx X NY scope s H C fp) (cz ix) noX elt em)
  (ck:kI scope X.N X.env.scope NY ix=true) (hij:Inj ix) (hs:∀ x,foldedSetIterable iter X.env x=pure x) (hgu:∃ tg',Bnd X.K (cz ix).pr tg' bnd/\∀ s H C fp,PG (bx X NY scope s H C fp) tg tg'):RE X G0 W0 (.ListComp elt [⟨tg,iter,ifs,0⟩] scope pos) (bL im bnd cm em ix):=by
 obtain ⟨tg',b1,b2⟩:=hgu
 exact ⟨PE.imp (zL NY ix hc hi.h b2 ht (fun s H C fp=>(he s H C fp).h) ck hs) fun _ _ _ h=>y9 szl hij b1 h⟩
end
end L3
end
section
namespace L3
open PySem L2
noncomputable def am (F:Fn) (ms:M3 (List R3)):EM:=af ms fun rs=>fun ρ=>match prs (frz (qQ rs) ρ) rs with
 | none=>none
 | some ps=>match F ps with
  | none=>none
  | some (.ok p,qs)=>if qs.length=ps.length then some (.ok (.val p.1 p.2),back rs ps qs (frz (qQ rs) ρ)) else none
  | some (.error _,_)=>none
noncomputable def uN (K:FG) (F:Fn):Sp:=fun vs H Q _=>∃ (ps:List It3) (p:D × Fl) (fs:List (D × Fl)),vs=ps.map (·.v)/\(∀ p ∈ ps,Arg K H p)/\ps.Pairwise Apart3/\F (ps.map fun p=>(p.d,p.f))=some (.ok p,fs) /\
 ∀ x qs H',Behind K H H' ps qs x->x.d=p.1->x.f=p.2->qs.map (fun q=>(q.d,q.f))=fs->Q x.v H'
section
variable {K:FG} {G G0:Gm} {W W0:D->Sto->Prop} {H H':Hp} {σ:St} {ρ ρ':Sto} {T T':List It3} {g:Nat->Option It3} {x y z:It3} {α β:Type}
theorem ww {F:Fn} {ms:M3 (List R3)} {Q:VK} (h:tE K G0 W0 (am F ms) σ H Q):tA K G0 W0 ms σ H fun vs H1=>uN K F vs H1 Q E0:=by
 refine h.use fun G W le ρ T g o ρ' w e q=>?_
 refine tA.seq le w e q.err fun rs ρ1 e1 vs H1 Ts g1 w1 a1=>?_
 obtain ⟨g2,w2,z2⟩:=Wf.frz (is:=qQ rs) w1
 cases e2:prs (L3.frz (qQ rs) ρ1) rs with
 | none=>rw [e2] at e1;exact nsE e1
 | some pfs =>
  rw [e2] at e1
  dsimp only at e1
  have hd:∀ i,2<=(pls rs).count i->∀ y,g2 i=some y->y.f=.z:=fun i hc y ey=>by
   have hm:i ∈ qQ rs:=DD.mpr ⟨List.count_pos_iff.mp (by omega),by simpa using hc⟩
   have s1:=w2.sl i
   rw [ey] at s1
   have hy:∃ y0,g1 i=some y0:=by
    cases q1:g1 i with
    | some y0=>exact ⟨y0,rfl⟩
    | none =>
     exfalso
     have s2:=w1.sl i
     rw [q1] at s2
     have:=qN (is:=qQ rs) s2.symm
     rw [this] at s1
     cases s1
   obtain ⟨y0,ey0⟩:=hy
   obtain ⟨y',e3,_,e5⟩:=z2 i y0 ey0
   rw [ey] at e3
   cases e3
   exact e5 hm
  obtain ⟨ps,f1,f2,f3,f4,f5⟩:=Ars.args a1 w2 hd e2
  have hit:∀ p ∈ ps,Itm (Ts ++ T) g2 p:=fun p hp=>by
   rcases f4 p hp with ⟨i,_,ei⟩ | h
   ·exact .inl ⟨i,ei⟩
   ·exact .inr (C9 _ h)
  have harg:∀ p ∈ ps,Arg K H1 p:=fun p hp=>⟨(w2.itm (hit p hp)).rep,fun hf=>by
   obtain ⟨m,a,L',v1,v2,v3,_⟩:=(w2.itm (hit p hp)).own hf
   exact ⟨m,a,L',v1,v2,v3⟩⟩
  subst f2
  cases e3:F pfs with
  | none=>rw [e3] at e1;exact nsE e1
  | some r =>
   obtain ⟨out,fs⟩:=r
   rw [e3] at e1
   cases out with
   | ok p =>
    dsimp only at e1
    split at e1
    ·cases e1
     refine ⟨ps,p,fs,rfl,harg,f3,by rw [f1];exact e3,?_⟩
     intro x qs H' B x1 x2 hq
     obtain ⟨g',w3,px⟩:=Wf.after w2 e2 f1 f4 f5 B.toBehindX
     have w4:=px x B.rep B.own B.src B.apx
     rw [hq] at w4
     rw [<- x1,<- x2] at q
     exact q x.v H' ⟨[x],g',w4,.val x⟩
    ·exact nsE e1
   | error er=>exact nsE e1
noncomputable def fL (b:Bool) (p:It3):It3:=if b then fc p else p
theorem n4:∀ {mask:List Bool} {ps:List It3},(List.zipWith fL mask ps).map (fun p=>(p.d,p.f))=List.zipWith vt mask (ps.map fun p=>(p.d,p.f))
 | [],_=>rfl
 | _ :: _,[]=>rfl
 | b :: mask,p :: ps=>by
  simp only [List.zipWith_cons_cons,Dq,n4]
  cases b <;> rfl
theorem vq {mask:List Bool} {ps:List It3} {i:Nat} {q:It3} (h:(List.zipWith fL mask ps)[i]?=some q):∃ b p,mask[i]?=some b/\ps[i]?=some p/\q=fL b p:=by
 rw [List.getElem?_zipWith] at h
 cases e1:mask[i]? with
 | none=>rw [e1] at h;exact nsE h
 | some b =>
  cases e2:ps[i]? with
  | none=>rw [e1,e2] at h;exact nsE h
  | some p=>rw [e1,e2] at h;cases h;exact ⟨b,p,rfl,rfl,rfl⟩
theorem qG {mask:List Bool} {ps:List It3} {i:Nat} {p:It3} (hl:ps.length=mask.length) (h:ps[i]?=some p):∃ b,mask[i]?=some b/\(List.zipWith fL mask ps)[i]?=some (fL b p):=by
 have hi:i < mask.length:=by have:=(Dh.mp h).1;omega
 refine ⟨mask[i],Dc hi,?_⟩
 rw [List.getElem?_zipWith,Dc hi,h]
theorem fK (b:Bool) (p:It3):(fL b p).d=p.d/\(fL b p).v=p.v/\(fL b p).L=p.L/\((fL b p).f=p.f\/(fL b p).f=.z):=by
 cases b
 ·exact ⟨rfl,rfl,rfl,.inl rfl⟩
 ·exact ⟨rfl,rfl,rfl,.inr rfl⟩
theorem NoRoot.low {a b a' b':It3} (h:NoRoot a b) (hv:a'.v=a.v) (hf:a'.f=a.f\/a'.f=.z) (hL:b'.L=b.L):NoRoot a' b':=fun q c e=>by
 rw [hL]
 rcases hf with f | f
 ·exact h (by rw [<- f];exact q) c (by rw [<- hv];exact e)
 ·exact absurd f q
noncomputable def prM (mask:List Bool) (i:Nat):Bool:=match mask[i]? with
 | some b=>!b
 | none=>false
theorem Ad {α β:Type} {f:α->β} {l:List α} {i:Nat} {a:α} (h:l[i]?=some a):(l.map f)[i]?=some (f a):=by rw [Dl,h];rfl
set_option tactic.hygienic true in
theorem uj {mask:List Bool} {m:SM} {n:Nat} {vs:List V} {Q:VK} {E:XK} (hn:mask.length<=n) (h:uN K (fnM mask n m) vs H Q E) :
  ∃ G:Gm,G.pr=prM mask/\tS K G noX m { nx:=fun _ H'=>Q .non H',rt:=Q } (vs.map some ++ List.replicate (n - vs.length) none) H:=by
 obtain ⟨ps,p,fs,rfl,ha,hp,hF,q⟩:=h
 unfold fnM at hF
 rw [Dg] at hF
 split at hF
 ·rename_i hl
  rw [<- n4] at hF
  generalize hps:List.zipWith fL mask ps=ps' at hF
  have hl':ps'.length=ps.length:=by rw [<- hps,List.length_zipWith];omega
  have hv:ps'.map (·.v)=ps.map (·.v):=by
   refine List.ext_getElem? fun i=>?_
   rw [Dl,Dl]
   cases e:ps[i]? with
   | none=>rw [List.getElem?_eq_none (by have:=List.getElem?_eq_none_iff.mp e;omega)]
   | some u =>
    obtain ⟨b,_,e2⟩:=qG (mask:=mask) hl e
    rw [hps] at e2
    rw [e2]
    show some (fL b u).v=some u.v
    rw [(fK b u).2.1]
  have up:∀ (i:Nat) (u:It3),ps'[i]?=some u->∃ b u0,mask[i]?=some b/\ps[i]?=some u0/\u=fL b u0:=fun i u e=>by rw [<- hps] at e;exact vq e
  have upm:∀ u ∈ ps',∃ b u0,u0 ∈ ps/\u=fL b u0:=fun u hu=>by
   obtain ⟨i,hi,e⟩:=List.mem_iff_getElem.mp hu
   obtain ⟨b,u0,_,e2,e3⟩:=up i u (by rw [Dc hi,e])
   exact ⟨b,u0,Di e2,e3⟩
  have ha':∀ u ∈ ps',Arg K H u:=fun u hu=>by
   obtain ⟨b,u0,h0,rfl⟩:=upm u hu
   obtain ⟨e1,e2,e3,e4⟩:=fK b u0
   refine ⟨by rw [e1,e2,e3];exact (ha u0 h0).rep,fun hf=>?_⟩
   rw [e1,e2,e3]
   refine (ha u0 h0).own fun z=>hf ?_
   rcases e4 with f | f
   ·rw [f];exact z
   ·exact f
  have hp':ps'.Pairwise Apart3:=by
   rw [List.pairwise_iff_getElem]
   intro i j hi hj lt
   obtain ⟨b,u0,_,e2,e3⟩:=up i _ (Dc hi)
   obtain ⟨b',u0',_,e2',e3'⟩:=up j _ (Dc hj)
   have ap:=eQ hp (fun _ _=>Apart3.symm) (Do lt) e2 e2'
   rw [e3,e3']
   obtain ⟨_,a2,a3,a4⟩:=fK b u0
   obtain ⟨_,b2,b3,b4⟩:=fK b' u0'
   exact ⟨ap.1.low a2 a4 b3,ap.2.low b2 b4 a3⟩
  have hpr:∀ (i:Nat) (u:It3),ps'[i]?=some u->u.f ≠ .z->prM mask i=true:=fun i u e hf=>by
   obtain ⟨b,u0,e1,e2,e3⟩:=up i u e
   unfold prM
   rw [e1]
   cases b with
   | false=>rfl
   | true=>rw [e3] at hf;exact absurd rfl hf
  have alls:∀ c,ff ps' c->ff ps c:=fun c ⟨u,hu,hc⟩=>by
   obtain ⟨b,u0,h0,rfl⟩:=upm u hu
   exact ⟨u0,h0,by rw [<- (fK b u0).2.2.1];exact hc⟩
  have lift:∀ {H':Hp} {qs:List It3},BehindX K H H' ps' qs->BehindX K H H' ps qs:=fun {H' qs} B=>by
   refine ⟨fun b o hb hn=>B.frame b o hb fun u hu hf hv=>?_,Paired.ofGet ?_ fun k u v eu ev=>?_,B.apart⟩
   ·obtain ⟨b',u0,h0,rfl⟩:=upm u hu
    obtain ⟨_,e2,_,e4⟩:=fK b' u0
    rcases e4 with f | f
    ·exact hn u0 h0 (by rw [<- f];exact hf) (by rw [<- e2];exact hv)
    ·rw [f] at hf;cases hf
   ·rw [<- hl'];exact Paired.length B.back
   ·obtain ⟨b,_,e2⟩:=qG (mask:=mask) hl eu
    rw [hps] at e2
    have b1:=Paired.at B.back e2 ev
    obtain ⟨a1,a2,a3,a4⟩:=fK b u
    refine ⟨fun hz=>?_,by rw [b1.v,a2],?_,b1.arg,fun c hc=>(b1.src c hc).imp id (alls c),fun hf b' hb'=>?_⟩
    ·have:fL b u=u:=by
      cases b
      ·rfl
      ·obtain ⟨d,v,L,f⟩:=u
       have hz:f=.z:=hz
       subst hz;rfl
     rw [<- this]
     exact b1.z (by rw [this];exact hz)
    ·rcases b1.f with h | h
     ·rcases a4 with f | f
      ·exact .inl (h.trans f)
      ·exact .inr (h.trans f)
     ·exact .inr h
    ·rcases a4 with f | f
     ·exact b1.there (by rw [f];exact hf) b' (by rw [a2];exact hb')
     ·-- lowered: as it was
      obtain ⟨_,a,L',v1,v2,_⟩:=(ha u (Di eu)).own (by rw [hf];intro q;cases q)
      rw [hb'] at v1;cases v1
      have hq:=b1.z f
      have r:=b1.arg.rep
      rw [hq,a1,a2,a3] at r
      exact (r.inH b' (by rw [v2];exact C5)).ex
  have hnn:ps'.length<=n:=by omega
  have wf:=wm (K:=K) (H:=H) (n:=n) (pr:=prM mask) hnn ha' hp' hpr
  rw [hv] at wf
  refine ⟨gOf H (prM mask) ((ps.map (·.v)).map some ++ List.replicate (n - (ps.map (·.v)).length) none) ps',rfl,?_⟩
  have h0:∀ (i:Nat) (u:It3),ps'[i]?=some u->((ps.map (·.v)).map some ++ List.replicate (n - (ps.map (·.v)).length) none)[i]?=some (some u.v):=fun i u e=>nK (by rw [<- hv];exact Ad e)
  unfold fn0 at hF
  cases e:m (k8 n (ps'.map fun p=>(p.d,p.f))) with
  | none=>rw [e] at hF;exact nsE hF
  | some rr =>
   obtain ⟨r,ρ2⟩:=rr
   rw [e] at hF
   refine tS.mk (r:=r) (Le.refl K _ _) wf e ?_
   have fin:∀ {x:It3} {σ':St} {H':Hp} {g':Nat->Option It3} {d:D} {f:Fl},Wf K (gOf H (prM mask) ((ps.map (·.v)).map some ++ List.replicate (n - (ps.map (·.v)).length) none) ps') H' σ' ρ2 [x] g'->x.d=d->x.f=f ->
     ((jx ρ2 0 (ps'.map fun p=>(p.d,p.f))).map fun fs=>((.ok (d,f),fs):Except D (D × Fl) × List (D × Fl)))=some (.ok p,fs)->Q x.v H':=fun {x σ' H' g' d f} w1 xd xf hF=>by
    cases e5:jx ρ2 0 (ps'.map fun p=>(p.d,p.f)) with
    | none=>rw [e5] at hF;exact nsE hF
    | some fs' =>
     rw [e5] at hF
     cases hF
     obtain ⟨qs,B,hq⟩:=sV (n:=n) ha' hp' hpr h0 w1 e5
     have BX:=lift B.toBehindX
     exact q x qs H' ⟨BX,B.rep,B.own,fun c hc=>(B.src c hc).imp id (alls c),B.apx⟩ xd xf hq
   cases r with
   | error er=>
    dsimp only at hF
    cases e5:jx ρ2 0 (ps'.map fun p=>(p.d,p.f)) with
    | none=>rw [e5] at hF;exact nsE hF
    | some fs'=>rw [e5] at hF;cases hF
   | ok fl =>
    cases fl with
    | nx =>
     intro σ' H' g' w1
     obtain ⟨Ts,g2,w2,a2⟩:=w1.const .non
     obtain ⟨x,rfl,x1,x2,x3⟩:=a2.val_inv
     have:=fin w2 x1 x2 hF
     rw [x3] at this
     exact this
    | br=>exact nsE hF
    | ct=>exact nsE hF
    | rt d f =>
     intro x σ' H' g' w1 x1 x2
     exact fin w1 x1 x2 hF
 ·exact nsE hF
end
noncomputable abbrev aG (P:Program) (w:World) (K:FG) (mg:Str->Option Value) (base:Heap) (x:Str) (k:Nat) (ps:List Str) (F:Fn):Prop:=Callee P w K mg base x k ps (uN K F)
set_option tactic.hygienic true in
theorem aP {P:Program} {w:World} {K:FG} {mg:Str->Option Value} {base:Heap} {x:Str} {st:Stmt} {k:Nat} {N ps:List Str} {mask:List Bool} {m:SM} {nn:Nat} (D:Def K mg x st) (S:FnScope N ps (aj st)) (hml:mask.length=ps.length) (hnn:N.length=nn)
  (hb:∀ (kV doc pm:Value) (an:Option Addr) (cdv ct:Value) (us:List Value),us.length=ps.length->bindArgs (PySem.W.fnOf x x (bT st) (bq st) (aj st) .none kV doc pm an cdv ct) ⟨us,[]⟩=pure (ps.zip us))
  (body:∀ (cdv:Value) (A:Around) (outer:List Env) (s:Shared) (H:Hp) (E:XK) (f:Addr) (G:Gm),Room k (A.deeper (PyProof.Rows.envOfC x (aj st) s.heap.objs.size f cdv))->G.pr=prM mask->RSs (qS CX0 P w K mg base N x (aj st) f cdv A outer s H E).nox G noX (bq st) m) :
  aG P w K mg base x (k+1) ps (fnM mask nn m):=by
 refine D.callee hb fun f fd F=>F.ok S (fun vs H Q E h=>?_) fun cdv A outer s H vs Q E hr h=>?_
 ·obtain ⟨ps',p,fs,rfl,_,_,hF,_⟩:=h
  unfold fnM at hF
  rw [Dg] at hF ⊢
  split at hF
  ·rename_i e;rw [e,hml]
  ·exact nsE hF
 ·have hle:mask.length<=nn:=by
   rw [hml,<- hnn]
   have:=congrArg List.length S.pre
   rw [Dy] at this
   omega
  obtain ⟨G,hG,ht⟩:=uj hle h
  subst hnn
  exact ⟨_,(body cdv A outer s H E f G hr hG).h,ht⟩
theorem al {X:Cx} {G0:Gm} {W0:D->Sto->Prop} {x:Str} {p pos:Pos} {e:Expr} {es:List Expr} {ms:M3 (List R3)} {k:Nat} {ps:List Str} {F:Fn} (c:aG X.prog X.w X.K X.mg X.base x k ps F) (hr:Room k X.A) (ha:RA X G0 W0 (e :: es) ms) (hg:Gl X x) (hdb:(x == ("__debug__":Str))=false)
  (he:starEach (e :: es) X.env=(false,eval e X.env) :: starEach es X.env) (hpl:(backTo pos (starEach es X.env)).any (·.1)=false):RE X G0 W0 (.Call (.Name x p) (e :: es) [] pos) (am F ms) :=
 ⟨PE.imp (pe_fn c hr ha.h hg hdb he hpl) fun _ _ _ h=>ww h⟩
end L3
end
section
namespace L3
open PySem L2
noncomputable def orD (f g:D->D->Option (D × Fl)) (a b:D):Option (D × Fl):=match f a b with
 | some p=>some p
 | none=>g a b
section
variable {K:FG} {H:Hp} {Ks:Addr->Prop} {d:D} {v:V} {L:List Addr} {X:Cx}
theorem fj (r:Rep K H d v []):New K H H Ks ⟨d,v,[],.z⟩:=⟨Same.refl _,r,fun _ h=>(by cases h),fun h=>absurd rfl h⟩
theorem qv (r:Rep K H d v L) (h:∀ c ∈ L,Ks c):New K H H Ks ⟨d,v,L,.z⟩:=⟨Same.refl _,r,fun c hc=>.inr (h c hc),fun h=>absurd rfl h⟩
theorem Cl {p:Addr} {ds:List D} {vs:List V} (hp:H p=none) (r:Reps (Rep K H) ds vs L) (h:∀ c ∈ L,Ks c):New K H (upd H p (.lst vs)) Ks ⟨.lst ds,.ref p,p :: L,.u⟩:=by
 have np:p ∉ L:=fun hc=>by obtain ⟨o,ho⟩:=(r.inH p hc).ex;rw [hp] at ho;exact nsE ho
 refine ⟨bW hp,.lst bC (r.same (bW hp)),fun c hc=>?_,fun _=>⟨rfl,p,L,rfl,rfl,np,hp⟩⟩
 rcases Db.mp hc with e | hc
 ·rw [e];exact .inl hp
 ·exact .inr (h c hc)
theorem z4 {p:Addr} {ds:List D} {vs:List V} (hp:H p=none) (r:Reps (Rep K H) ds vs L) (h:∀ c ∈ L,Ks c):New K H (upd H p (.tup vs)) Ks ⟨.tup ds,.ref p,L,.z⟩ :=
 ⟨bW hp,.tup bC (r.same (bW hp)),fun c hc=>.inr (h c hc),fun h=>absurd rfl h⟩
theorem kF {y:It3} {ys:List It3} (hy:y ∈ ys) (h:Arg K H y) (hm:kg y.d=false):∀ c ∈ y.L,fO ys c:=fun c hc=>⟨y,hy,hc,fun hf=>by
 have:=(h.own hf).1
 rw [hm] at this;cases this⟩
theorem sI {y:It3} {ys:List It3} {a:Addr} {L:List Addr} (hy:y ∈ ys) (h:Arg K H y) (hv:y.v=.ref a) (hL:y.L=a :: L):∀ c ∈ L,fO ys c:=fun c hc=>⟨y,hy,by rw [hL];exact C6 _ hc,fun hf e=>by
 obtain ⟨_,a',L',v1,v2,v3⟩:=h.own hf
 rw [hv] at v1;cases v1
 rw [hL] at v2;cases v2
 rw [hv] at e;cases e
 exact v3 hc⟩
theorem OpD.or {r r':R2} {f g:D->D->Option (D × Fl)} (h:OpD K r f) (h':OpD K r' g):OpD K (fun x y H Q=>r x y H Q\/r' x y H Q) (orD f g):=fun a b H Q p ra rb e q=>by
 unfold orD at e
 cases ef:f a.d b.d with
 | some p'=>rw [ef] at e;cases e;exact .inl (h a b H Q _ ra rb ef q)
 | none=>rw [ef] at e;exact .inr (h' a b H Q p ra rb e q)
noncomputable def fN (C:Int->Int->Bool) (g:Int->Int->D):D->D->Option (D × Fl)
 | .int i,.int j=>if C i j then some (g i j,.z) else none
 | _,_=>none
set_option tactic.hygienic true in
theorem ki {C:Int->Int->Prop} {Cb:Int->Int->Bool} {g:Int->Int->V} {gd:Int->Int->D} (hC:∀ i j,Cb i j=true->C i j) (hg:∀ i j H,Rep K H (gd i j) (g i j) []):OpD K (rI C g) (fN Cb gd):=fun a b H Q p ra rb e q=>by
 obtain ⟨da,va,La,fa⟩:=a
 obtain ⟨db,vb,Lb,fb⟩:=b
 obtain ⟨ra,oa⟩:=ra
 obtain ⟨rb,ob⟩:=rb
 dsimp only at ra rb
 cases da <;> try (exact nsE e)
 rename_i i
 obtain ⟨rfl,rfl⟩:=ra.view
 cases db <;> try (exact nsE e)
 rename_i j
 obtain ⟨rfl,rfl⟩:=rb.view
 have e:(if Cb i j then some (gd i j,Fl.z) else none)=some p:=e
 split at e
 ·rename_i hc
  cases e
  exact ⟨i,j,rfl,rfl,hC i j hc,q ⟨gd i j,g i j,[],.z⟩ H (fj (hg i j H)) rfl rfl⟩
 ·exact nsE e
theorem rI_of {g:Int->Int->V}:rI0 g=rI (fun _ _=>True) g:=by
 funext x y H Q
 unfold rI0 rI
 apply propext
 constructor
 ·rintro ⟨i,j,a,b,c⟩;exact ⟨i,j,a,b,trivial,c⟩
 ·rintro ⟨i,j,a,b,_,c⟩;exact ⟨i,j,a,b,c⟩
theorem i6 {g:Int->Int->V} {gd:Int->Int->D} (hg:∀ i j H,Rep K H (gd i j) (g i j) []):OpD K (rI0 g) (fN (fun _ _=>true) gd):=by
 rw [rI_of]
 exact ki (fun _ _ _=>trivial) hg
noncomputable abbrev rB:Int->Int->Bool:=fun _ _=>true
noncomputable abbrev addI:=fN rB fun i j=>.int (i+j)
noncomputable abbrev gh:=fN rB fun i j=>.int (i - j)
noncomputable abbrev fS:=fN (fun i j=>decide ((-(2 ^ 64) < i/\i < 2 ^ 64)\/(-(2 ^ 64) < j/\j < 2 ^ 64))) fun i j=>.int (i * j)
noncomputable abbrev qy:=fN (fun _ j=>decide (0 < j)) fun i j=>.int (i % j)
noncomputable abbrev xk:=fN (fun i j=>decide (0<=j/\j<=1000000/\i.natAbs < 2 ^ 64)) fun i j=>.int (i ^ j.toNat)
noncomputable abbrev ltI:=fN rB fun i j=>.bl (decide (i < j))
noncomputable abbrev leI:=fN rB fun i j=>.bl (decide (i<=j))
noncomputable abbrev gtI:=fN rB fun i j=>.bl (decide (j < i))
theorem od_addI:OpD K (rI0 fun i j=>.int (i+j)) addI:=i6 fun i j _=>.int _
theorem bz:OpD K (rI0 fun i j=>.int (i - j)) gh:=i6 fun i j _=>.int _
theorem bG:OpD K (rI CMul fun i j=>.int (i * j)) fS:=ki (fun i j h=>by simpa [CMul,wg,yK] using h) fun i j _=>.int _
theorem jo:OpD K (rI (fun _ j=>0 < j) fun i j=>.int (i % j)) qy:=ki (fun i j h=>by simpa [CMul,wg,yK] using h) fun i j _=>.int _
theorem tY:OpD K (rI yK fun i j=>.int (i ^ j.toNat)) xk:=ki (fun i j h=>by simpa [CMul,wg,yK] using h) fun i j _=>.int _
theorem nU:OpD K (rI0 fun i j=>.bl (decide (i < j))) ltI:=i6 fun i j _=>.bl _
theorem nV:OpD K (rI0 fun i j=>.bl (decide (i<=j))) leI:=i6 fun i j _=>.bl _
theorem A0:OpD K (rI0 fun i j=>.bl (decide (j < i))) gtI:=i6 fun i j _=>.bl _
noncomputable def CS:D->D->Option (D × Fl)
 | .tup xs,.tup ys=>if xs.length+ys.length<=16777216 then some (.tup (xs ++ ys),.z) else none
 | _,_=>none
noncomputable def CU:D->D->Option (D × Fl)
 | .lst xs,.lst ys=>if xs.length+ys.length<=16777216 then some (.lst (xs ++ ys),.u) else none
 | _,_=>none
noncomputable def CT:D->D->Option (D × Fl)
 | .str xs,.str ys=>if xs.length+ys.length<=16777216 then some (.str (xs ++ ys),.z) else none
 | _,_=>none
theorem Reps.len {ds:List D} {vs:List V} (r:Reps (Rep K H) ds vs L):ds.length=vs.length:=by
 induction r with
 | nil=>rfl
 | cons _ _ ih=>simp [ih]
theorem Reps.append {ds ds':List D} {vs vs':List V} {L L':List Addr} (r:Reps (Rep K H) ds vs L) (r':Reps (Rep K H) ds' vs' L'):Reps (Rep K H) (ds ++ ds') (vs ++ vs') (L ++ L'):=by
 induction r with
 | nil=>exact r'
 | cons a _ ih=>rw [List.append_assoc];exact .cons a ih
theorem Reps.nil_iff {ds:List D} {vs:List V} (r:Reps (Rep K H) ds vs L):ds=[] ↔ vs=[]:=by cases r <;> simp
noncomputable def oP (K:FG):R2:=fun x y H Q=>∃ a b ys,x=.ref a/\y=.ref b/\SqT K H a []/\SqT K H b ys/\Q (.ref b) H
theorem xt:OpR X (binaryOp .Add) (oP X.K):=by
 intro pins s σ H x y v u Q I rx ry h
 obtain ⟨a,b,ys,rfl,rfl,ha,hb,q⟩:=h
 cases rx
 cases ry
 obtain ⟨its,r1,p1,_⟩:=I.tuple ha
 obtain ⟨its2,r2,p2,_⟩:=I.tuple hb
 have e:its=[]:=r1.nil_iff.mpr rfl
 subst e
 obtain ⟨⟨cls,dd,data,sl⟩,ho,hc,n,hd⟩:=id p1
 obtain ⟨⟨cls2,dd2,data2,sl2⟩,ho2,hc2,n2,hd2⟩:=id p2
 simp only at hc hd hc2 hd2
 subst hc hd hc2 hd2
 exact concat_meets ⟨_,ho,rfl⟩ ⟨_,ho2,rfl⟩ noFill_tuple_add seq_tuple_add PySem.F.slot_tuple_add PySem.F.entry_tuple_add (PySem.F.args_tuple_add_2 _ _)
   (PyProof.Rows.tuple_addW0 a b _ _ n n2 dd dd2 sl sl2 (by simp)) ⟨ho,ho2,⟨.ref b,H,I,rfl,q⟩⟩
set_option tactic.hygienic true in
theorem od_catT:OpD K (fun x y H Q=>tR K x y H Q\/oP K x y H Q) CS:=fun a b H Q p ra rb e q=>by
 obtain ⟨da,va,La,fa⟩:=a
 obtain ⟨db,vb,Lb,fb⟩:=b
 obtain ⟨ra,oa⟩:=ra
 obtain ⟨rb,ob⟩:=rb
 dsimp only at ra rb
 cases da <;> try (exact nsE e)
 rename_i xs
 obtain ⟨pa,vs,rfl,ha,rs⟩:=ra.view
 cases db <;> try (exact nsE e)
 rename_i ys
 obtain ⟨pb,ws,rfl,hb,rs'⟩:=rb.view
 have e:(if xs.length+ys.length<=16777216 then some (D.tup (xs ++ ys),Fl.z) else none)=some p:=e
 split at e
 ·rename_i hl
  cases e
  by_cases hx:vs=[]
  ·have hx0:=rs.nil_iff.mpr hx
   subst hx hx0
   refine .inr ⟨pa,pb,ws,rfl,rfl,SqT.of ha,SqT.of hb,?_⟩
   exact q ⟨.tup ys,.ref pb,Lb,.z⟩ H (qv (.tup hb rs') (kF (y:=⟨.tup ys,.ref pb,Lb,fb⟩) (C6 _ (DB.mpr rfl)) ⟨.tup hb rs',ob⟩ rfl)) rfl rfl
  ·refine .inl ⟨pa,pb,vs,ws,rfl,rfl,SqT.of ha,SqT.of hb,hx,by rw [<- rs.len,<- rs'.len,<- szl];exact hl,fun hw=>?_,fun hw p hp=>?_⟩
   ·have hy0:=rs'.nil_iff.mpr hw
    subst hy0
    refine q ⟨.tup (xs ++ []),.ref pa,La,.z⟩ H (qv (by rw [List.append_nil];exact .tup ha rs) (kF (y:=⟨.tup xs,.ref pa,La,fa⟩) C5 ⟨.tup ha rs,oa⟩ rfl)) rfl rfl
   ·refine q ⟨.tup (xs ++ ys),.ref p,La ++ Lb,.z⟩ _ (z4 hp (rs.append rs') fun c hc=>?_) rfl rfl
    rcases De.mp hc with h | h
    ·exact kF (y:=⟨.tup xs,.ref pa,La,fa⟩) C5 ⟨.tup ha rs,oa⟩ rfl c h
    ·exact kF (y:=⟨.tup ys,.ref pb,Lb,fb⟩) (C6 _ (DB.mpr rfl)) ⟨.tup hb rs',ob⟩ rfl c h
 ·exact nsE e
set_option tactic.hygienic true in
theorem zZ:OpD K zu CU:=fun a b H Q p ra rb e q=>by
 obtain ⟨da,va,La,fa⟩:=a
 obtain ⟨db,vb,Lb,fb⟩:=b
 obtain ⟨ra,oa⟩:=ra
 obtain ⟨rb,ob⟩:=rb
 dsimp only at ra rb
 cases da <;> try (exact nsE e)
 rename_i xs
 obtain ⟨pa,vs,La,rfl,rfl,ha,rs⟩:=ra.view
 cases db <;> try (exact nsE e)
 rename_i ys
 obtain ⟨pb,ws,Lb,rfl,rfl,hb,rs'⟩:=rb.view
 have e:(if xs.length+ys.length<=16777216 then some (D.lst (xs ++ ys),Fl.u) else none)=some p:=e
 split at e
 ·rename_i hl
  cases e
  refine ⟨pa,pb,vs,ws,rfl,rfl,ha,hb,by rw [<- rs.len,<- rs'.len,<- szl];exact hl,fun p hp=>?_⟩
  refine q ⟨.lst (xs ++ ys),.ref p,p :: (La ++ Lb),.u⟩ _ (Cl hp (rs.append rs') fun c hc=>?_) rfl rfl
  rcases De.mp hc with h | h
  ·exact sI (y:=⟨.lst xs,.ref pa,pa :: La,fa⟩) C5 ⟨.lst ha rs,oa⟩ rfl rfl c h
  ·exact sI (y:=⟨.lst ys,.ref pb,pb :: Lb,fb⟩) (C6 _ (DB.mpr rfl)) ⟨.lst hb rs',ob⟩ rfl rfl c h
 ·exact nsE e
set_option tactic.hygienic true in
theorem od_catS:OpD K (fun x y H Q=>∃ i j,x=.str i/\y=.str j/\i.length+j.length<=sizeLine/\Q (.str (i ++ j)) H) CT:=fun a b H Q p ra rb e q=>by
 obtain ⟨da,va,La,fa⟩:=a
 obtain ⟨db,vb,Lb,fb⟩:=b
 obtain ⟨ra,oa⟩:=ra
 obtain ⟨rb,ob⟩:=rb
 dsimp only at ra rb
 cases da <;> try (exact nsE e)
 rename_i i
 obtain ⟨rfl,rfl⟩:=ra.view
 cases db <;> try (exact nsE e)
 rename_i j
 obtain ⟨rfl,rfl⟩:=rb.view
 have e:(if i.length+j.length<=16777216 then some (D.str (i ++ j),Fl.z) else none)=some p:=e
 split at e
 ·rename_i hl
  cases e
  exact ⟨i,j,rfl,rfl,by rw [<- szl];exact hl,q ⟨.str (i ++ j),.str (i ++ j),[],.z⟩ H (fj (.str _)) rfl rfl⟩
 ·exact nsE e
noncomputable abbrev cv:=orD addI (orD CT (orD CS CU))
theorem bh:OpD K (fun x y H Q=>rI0 (fun i j=>.int (i+j)) x y H Q\/((∃ i j,x=.str i/\y=.str j/\i.length+j.length<=sizeLine/\Q (.str (i ++ j)) H)\/((tR K x y H Q\/oP K x y H Q)\/zu x y H Q))) cv:=od_addI.or (od_catS.or (od_catT.or zZ))
theorem aV:OpR X (binaryOp .Add) (fun x y H Q=>rI0 (fun i j=>.int (i+j)) x y H Q\/((∃ i j,x=.str i/\y=.str j/\i.length+j.length<=sizeLine/\Q (.str (i ++ j)) H)\/((tR X.K x y H Q\/oP X.K x y H Q)\/zu x y H Q))):=op_add.or (op_add_str.or ((op_catT.or xt).or Cf))
noncomputable def eqS:D->D->Option Bool
 | .non,.non=>some true | .non,.int _=>some false | .int _,.non=>some false | .non,.bl _=>some false | .bl _,.non=>some false | .non,.str _=>some false | .str _,.non=>some false
 | .int i,.int j=>some (decide (i=j)) | .bl i,.bl j=>some (decide (i=j)) | .str i,.str j=>some (decide (i=j))
 | .int _,.str _=>some false | .str _,.int _=>some false | .bl _,.str _=>some false | .str _,.bl _=>some false
 | _,_=>none
theorem yh {a b:D} {u v:V} {L L':List Addr} {k:Bool} (ra:Rep K H a u L) (rb:Rep K H b v L') (e:eqS a b=some k):BE u v=true/\k=decide (u=v):=by
 cases a <;> cases b <;> first | exact nsE e | (obtain ⟨rfl,rfl⟩:=ra.view;obtain ⟨rfl,rfl⟩:=rb.view;cases e;exact ⟨rfl,by simp⟩)
noncomputable def xY:D->Bool
 | .non=>true
 | _=>false
noncomputable def isN:D->D->Option (D × Fl)
 | a,.non=>some (.bl (xY a),.z)
 | _,_=>none
theorem Rep.non_iff {a:D} {u:V} (ra:Rep K H a u L):xY a=decide (u=.non):=by cases ra <;> simp [xY]
theorem Ci:OpD K (fun x y H Q=>y=.non/\Q (.bl (decide (x=.non))) H) isN:=fun a b H Q p ra rb e q=>by
 obtain ⟨db,vb,Lb,fb⟩:=b
 obtain ⟨rb,ob⟩:=rb
 dsimp only at rb
 cases db <;> try (exact nsE e)
 obtain ⟨rfl,rfl⟩:=rb.view
 unfold isN at e
 cases e
 refine ⟨rfl,?_⟩
 rw [<- ra.rep.non_iff]
 exact q ⟨_,_,[],.z⟩ H (fj (.bl _)) rfl rfl
noncomputable def oX:D->Option (D × Fl)
 | .int i=>some (.int (-i),.z)
 | _=>none
theorem iF:UnD K (rU fun i=>.int (-i)) oX:=fun a H Q p ra e q=>by
 obtain ⟨da,va,La,fa⟩:=a
 obtain ⟨ra,oa⟩:=ra
 dsimp only at ra
 cases da <;> try (exact nsE e)
 obtain ⟨rfl,rfl⟩:=ra.view
 cases e
 exact ⟨_,rfl,q ⟨_,_,[],.z⟩ H (fj (.int _)) rfl rfl⟩
theorem Reps.at:∀ {ds:List D} {vs:List V} {L:List Addr} {i:Nat} {d:D},Reps (Rep K H) ds vs L->ds[i]?=some d->∃ v L',vs[i]?=some v/\Rep K H d v L'/\∀ c ∈ L',c ∈ L
 | _,_,_,_,_,.nil,h=>by simp at h
 | _,_,_,0,_,.cons r _,h=>by simp at h;subst h;exact ⟨_,_,rfl,r,fun c hc=>C9 _ hc⟩
 | _,_,_,i+1,_,.cons _ t,h=>by
  obtain ⟨v,L',h1,h2,h3⟩:=Reps.at (i:=i) t (by simpa using h)
  exact ⟨v,L',by simpa using h1,h2,fun c hc=>Da _ (h3 c hc)⟩
theorem Reps.atI {ds:List D} {vs:List V} {i:Int} {d:D} (r:Reps (Rep K H) ds vs L) (h:atI ds i=some d):∃ v L',atI vs i=some v/\Rep K H d v L'/\∀ c ∈ L',c ∈ L:=by
 unfold L2.atI at h ⊢
 rw [<- r.len]
 cases e:ixN ds.length i with
 | none=>rw [e] at h;exact nsE h
 | some j=>rw [e] at h;exact r.at h
noncomputable def ixD:D->D->Option (D × Fl)
 | .lst xs,.int i=>(atI xs i).map fun d=>(d,.z)
 | .fls xs,.int i=>(atI xs i).map fun d=>(d,.z)
 | .tup xs,.int i=>(atI xs i).map fun d=>(d,.z)
 | _,_=>none
set_option tactic.hygienic true in
theorem od_ix:OpD K (fun x y H Q=>xb K x y H Q\/xa K x y H Q) ixD:=fun a b H Q p ra rb e q=>by
 obtain ⟨da,va,La,fa⟩:=a
 obtain ⟨db,vb,Lb,fb⟩:=b
 obtain ⟨rb,ob⟩:=rb
 have ra0:=ra
 obtain ⟨ra,oa⟩:=ra
 dsimp only at ra rb
 cases da <;> try (exact nsE e)
 all_goals (cases db <;> try (exact nsE e))
 all_goals (rename_i xs i;obtain ⟨rfl,rfl⟩:=rb.view)
 ·obtain ⟨pa,vs,rfl,ha,rs⟩:=ra.view
  obtain ⟨d,h1,h2⟩:=C8.mp (show (atI xs i).map (fun d=>(d,Fl.z))=some p from e)
  subst h2
  obtain ⟨v,L',g1,g2,g3⟩:=rs.atI h1
  refine .inr ⟨pa,vs,i,v,rfl,rfl,SqT.of ha,g1,q ⟨d,v,L',.z⟩ H (qv g2 fun c hc=>?_) rfl rfl⟩
  exact kF (y:=⟨.tup xs,.ref pa,La,fa⟩) C5 ra0 rfl c (g3 c hc)
 ·obtain ⟨pa,vs,La,rfl,rfl,ha,rs⟩:=ra.view
  obtain ⟨d,h1,h2⟩:=C8.mp (show (atI xs i).map (fun d=>(d,Fl.z))=some p from e)
  subst h2
  obtain ⟨v,L',g1,g2,g3⟩:=rs.atI h1
  refine .inl ⟨pa,vs,i,v,rfl,rfl,SqL.of ha,g1,q ⟨d,v,L',.z⟩ H (qv g2 fun c hc=>?_) rfl rfl⟩
  exact sI (y:=⟨.lst xs,.ref pa,pa :: La,fa⟩) C5 ra0 rfl rfl c (g3 c hc)
 ·obtain ⟨pa,vs,rfl,ha,rs⟩:=ra.view
  obtain ⟨d,h1,h2⟩:=C8.mp (show (atI xs i).map (fun d=>(d,Fl.z))=some p from e)
  subst h2
  obtain ⟨v,L',g1,g2,g3⟩:=rs.atI h1
  refine .inl ⟨pa,vs,i,v,rfl,rfl,ha.sq,g1,q ⟨d,v,L',.z⟩ H (qv g2 fun c hc=>?_) rfl rfl⟩
  exact kF (y:=⟨.fls xs,.ref pa,La,fa⟩) C5 ra0 rfl c (g3 c hc)
theorem ix_ok:IxR X (fun x y H Q=>xb X.K x y H Q\/xa X.K x y H Q):=ix_list.or Cz
end
end L3
end
section
namespace L3
open PySem L2
section
variable {K:FG} {H:Hp} {Ks:Addr->Prop} {d:D} {v:V} {L:List Addr} {X:Cx}
noncomputable def c1 (f:D->Option (D × Fl)):List D->Option (D × Fl)
 | [d]=>f d
 | _=>none
noncomputable def c2 (f:D->D->Option (D × Fl)):List D->Option (D × Fl)
 | [d,d']=>f d d'
 | _=>none
theorem kQ {ys:List It3} {f:D->Option (D × Fl)} {p:D × Fl} (e:c1 f (ys.map (·.d))=some p):∃ y,ys=[y]/\f y.d=some p:=by
 match ys,e with
 | [],e=>exact nsE e
 | [y],e=>exact ⟨y,rfl,e⟩
 | _ :: _ :: _,e=>exact nsE e
theorem pH {ys:List It3} {f:D->D->Option (D × Fl)} {p:D × Fl} (e:c2 f (ys.map (·.d))=some p):∃ y z,ys=[y,z]/\f y.d z.d=some p:=by
 match ys,e with
 | [],e=>exact nsE e
 | [_],e=>exact nsE e
 | [y,z],e=>exact ⟨y,z,rfl,e⟩
 | _ :: _ :: _ :: _,e=>exact nsE e
noncomputable def xP:D->Option (D × Fl)
 | .lst xs=>some (.int xs.length,.z)
 | .fls xs=>some (.int xs.length,.z)
 | .tup xs=>some (.int xs.length,.z)
 | _=>none
noncomputable abbrev eS:=c1 xP
set_option tactic.hygienic true in
theorem cb:gL K (fun xs H Q=>∃ p ys,xs=[.ref p]/\(SqL K H p ys\/SqT K H p ys)/\Q (.int ys.length) H) eS:=fun ys H Q p ra e q=>by
 obtain ⟨y,rfl,e2⟩:=kQ e
 clear e
 have e:=e2
 clear e2
 have rr:=(ra y C5).rep
 obtain ⟨da,va,La,fa⟩:=y
 dsimp only at rr e
 cases da <;> try (exact nsE e)
 ·rename_i xs
  obtain ⟨pa,vs,rfl,ha,rs⟩:=rr.view
  cases e
  exact ⟨pa,vs,rfl,.inr (SqT.of ha),by rw [<- rs.len];exact q ⟨_,_,[],.z⟩ H (fj (.int _)) rfl rfl⟩
 ·rename_i xs
  obtain ⟨pa,vs,La,rfl,rfl,ha,rs⟩:=rr.view
  cases e
  exact ⟨pa,vs,rfl,.inl (SqL.of ha),by rw [<- rs.len];exact q ⟨_,_,[],.z⟩ H (fj (.int _)) rfl rfl⟩
 ·rename_i xs
  obtain ⟨pa,vs,rfl,ha,rs⟩:=rr.view
  cases e
  exact ⟨pa,vs,rfl,.inl ha.sq,by rw [<- rs.len];exact q ⟨_,_,[],.z⟩ H (fj (.int _)) rfl rfl⟩
noncomputable def tupQ:D->Option (D × Fl)
 | .lst xs=>some (.tup xs,.z)
 | .tup xs=>some (.tup xs,.z)
 | _=>none
noncomputable abbrev ld:=c1 tupQ
set_option tactic.hygienic true in
theorem il:gL K (fun xs H Q=>∃ p ys,xs=[.ref p]/\((SqL K H p ys/\∀ l,H l=none->Q (.ref l) (upd H l (.tup ys)))\/(SqT K H p ys/\Q (.ref p) H))) ld:=fun ys H Q p ra e q=>by
 obtain ⟨y,rfl,e2⟩:=kQ e
 clear e
 have e:=e2
 clear e2
 have ry:=ra y C5
 have rr:=ry.rep
 obtain ⟨da,va,La,fa⟩:=y
 dsimp only at rr e
 cases da <;> try (exact nsE e)
 ·rename_i xs
  obtain ⟨pa,vs,rfl,ha,rs⟩:=rr.view
  cases e
  exact ⟨pa,vs,rfl,.inr ⟨SqT.of ha,q ⟨.tup xs,.ref pa,La,.z⟩ H (qv (.tup ha rs) (kF (y:=⟨.tup xs,.ref pa,La,fa⟩) C5 ry rfl)) rfl rfl⟩⟩
 ·rename_i xs
  obtain ⟨pa,vs,La,rfl,rfl,ha,rs⟩:=rr.view
  cases e
  exact ⟨pa,vs,rfl,.inl ⟨SqL.of ha,fun l hl=>q ⟨.tup xs,.ref l,La,.z⟩ _ (z4 hl rs (sI (y:=⟨.lst xs,.ref pa,pa :: La,fa⟩) C5 ry rfl rfl)) rfl rfl⟩⟩
noncomputable def absQ:D->Option (D × Fl)
 | .int i=>some (.int (if i < 0 then -i else i),.z)
 | _=>none
theorem Rep.int_inv {i:Int} (r:Rep K H (.int i) v L):v=.int i:=by cases r;rfl
noncomputable def qJ (C:Int->Int->Bool) (g:Int->Int->D):D->D->Option (D × Fl)
 | .int i,.int j=>if C i j then some (g i j,.z) else none
 | _,_=>none
set_option tactic.hygienic true in
theorem kG {a b:D} {C:Int->Int->Bool} {g:Int->Int->D} {p:D × Fl} (e:qJ C g a b=some p):∃ i j,a=.int i/\b=.int j/\C i j=true/\p=(g i j,.z):=by
 cases a <;> cases b <;> try (exact nsE e)
 rename_i i j
 have e:(if C i j then some (g i j,Fl.z) else none)=some p:=e
 split at e
 ·rename_i h;cases e;exact ⟨i,j,rfl,rfl,h,rfl⟩
 ·exact nsE e
noncomputable abbrev A3:=c2 (qJ rB fun i j=>.int (if j > i then j else i))
noncomputable abbrev A2:=c2 (qJ rB fun i j=>.int (if j < i then j else i))
noncomputable abbrev yl:=c2 (qJ (fun _ j=>decide (0 < j/\j < 1073741824)) fun i j=>.tup [.int (i / j),.int (i % j)])
theorem AE:gL K (fun xs H Q=>∃ i j,xs=[.int i,.int j]/\Q (.int (if j > i then j else i)) H) A3:=fun ys H Q p ra e q=>by
 obtain ⟨y,z,rfl,e2⟩:=pH e
 clear e
 have e:=e2
 clear e2
 obtain ⟨i,j,ei,ej,_,rfl⟩:=kG e
 have r1:=(ra y C5).rep
 have r2:=(ra z (C6 _ C5)).rep
 rw [ei] at r1
 rw [ej] at r2
 refine ⟨i,j,?_,q ⟨_,_,[],.z⟩ H (fj (.int _)) rfl rfl⟩
 show [y.v,z.v]=_
 rw [r1.int_inv,r2.int_inv]
theorem AB:gL K (fun xs H Q=>∃ i j,xs=[.int i,.int j]/\Q (.int (if j < i then j else i)) H) A2:=fun ys H Q p ra e q=>by
 obtain ⟨y,z,rfl,e2⟩:=pH e
 clear e
 have e:=e2
 clear e2
 obtain ⟨i,j,ei,ej,_,rfl⟩:=kG e
 have r1:=(ra y C5).rep
 have r2:=(ra z (C6 _ C5)).rep
 rw [ei] at r1
 rw [ej] at r2
 refine ⟨i,j,?_,q ⟨_,_,[],.z⟩ H (fj (.int _)) rfl rfl⟩
 show [y.v,z.v]=_
 rw [r1.int_inv,r2.int_inv]
theorem vM:gL K (fun xs H Q=>∃ i j,xs=[.int i,.int j]/\wg i j/\∀ p,H p=none->Q (.ref p) (upd H p (.tup [.int (i / j),.int (i % j)]))) yl:=fun ys H Q p ra e q=>by
 obtain ⟨y,z,rfl,e2⟩:=pH e
 clear e
 have e:=e2
 clear e2
 obtain ⟨i,j,ei,ej,hc,rfl⟩:=kG e
 have r1:=(ra y C5).rep
 have r2:=(ra z (C6 _ C5)).rep
 rw [ei] at r1
 rw [ej] at r2
 refine ⟨i,j,?_,by simpa [wg] using hc,fun p hp=>q ⟨_,.ref p,[],.z⟩ _ (z4 hp (L:=[]) (.cons (L:=[]) (.int _) (.cons (L:=[]) (.int _) .nil)) fun c hc=>by cases hc) rfl rfl⟩
 show [y.v,z.v]=_
 rw [r1.int_inv,r2.int_inv]
noncomputable def km:List D->Option (List Bool)
 | []=>some []
 | .bl b :: ds=>(km ds).map (b :: ·)
 | _=>none
set_option tactic.hygienic true in
theorem rj:∀ {ds:List D} {bs:List Bool},km ds=some bs->ds=bs.map D.bl
 | [],bs,e=>by cases e;rfl
 | d :: ds,bs,e=>by
  cases d <;> try (exact nsE e)
  rename_i b
  obtain ⟨r,h1,h2⟩:=C8.mp (show (km ds).map (b :: ·)=some bs from e)
  subst h2
  rw [rj h1];rfl
theorem Reps.bls:∀ {bs:List Bool} {vs:List V} {L:List Addr},Reps (Rep K H) (bs.map D.bl) vs L->vs=bs.map V.bl
 | [],_,_,.nil=>rfl
 | b :: bs,_,_,.cons r rs=>by
  rw [Reps.bls rs]
  cases r;rfl
noncomputable def s9:D->Option (D × Fl)
 | .lst xs=>(km xs).map fun bs=>(.bl (bs.all id),.z)
 | _=>none
noncomputable abbrev pK:=c1 s9
set_option tactic.hygienic true in
theorem ja:gL K (fun xs H Q=>∃ (a:Addr) (bs:List Bool),xs=[.ref a]/\SqL K H a (bs.map V.bl)/\Q (.bl (bs.all id)) H) pK:=fun ys H Q p ra e q=>by
 obtain ⟨y,rfl,e2⟩:=kQ e
 clear e
 have e:=e2
 clear e2
 have rr:=(ra y C5).rep
 obtain ⟨da,va,La,fa⟩:=y
 dsimp only at rr e
 cases da <;> try (exact nsE e)
 rename_i xs
 obtain ⟨pa,vs,La,rfl,rfl,ha,rs⟩:=rr.view
 obtain ⟨bs,h1,h2⟩:=C8.mp (show (km xs).map (fun bs=>(D.bl (bs.all id),Fl.z))=some p from e)
 subst h2
 have:=rj h1
 subst this
 have:=rs.bls
 subst this
 exact ⟨pa,bs,rfl,SqL.of ha,q ⟨_,_,[],.z⟩ H (fj (.bl _)) rfl rfl⟩
noncomputable def iB (xs:List D) (lo hi:Option Int):List D:=(xs.drop (HT.sIx xs.length 0 lo)).take (HT.sIx xs.length xs.length hi - HT.sIx xs.length 0 lo)
end
end L3
end
section
namespace L3
open PySem L2
noncomputable def AT:D->Option (List D)
 | .lst xs=>some xs
 | .fls xs=>some xs
 | .tup xs=>some xs
 | _=>none
noncomputable def cT (m:EM):IM:=af m fun r=>af (der r) fun d=>bD ((AT d).map fun ds=>([r],ds))
noncomputable def iSeq (K:FG) (tl:TE):TI:=fun σ H R=>tl σ H fun x H1=>(∃ a,x=.ref a/\(∃ xs,SqL K H1 a xs)/\R (Itl K a) H1)\/∃ a,x=.ref a/\(∃ xs,SqT K H1 a xs)/\R (Itt K a) H1
theorem B1 {X:Cx} {tg l:Expr} {tl:TE} (hl:PE X l tl):PI X tg l (iSeq X.K tl):=by
 intro pins s σ H R I h
 exact thn (hl pins s σ H _ I h) fun v s1 ⟨x,H1,I1,r1,q1⟩=>by
   rcases q1 with ⟨a,e,⟨xs,hq⟩,q⟩ | ⟨a,e,⟨xs,hq⟩,q⟩
   ·subst e
    cases r1
    obtain ⟨its,rv,p,hz⟩:=I1.list hq
    refine wpAny_pyIter_list p.isList ?_
    refine ⟨s1.heap.objs.size,[s1.heap.objs.size],_,_,H1,rfl,I1.kept (t':=s1.toks) fun b o e=>C7 _ e,uJ a _,⟨_,Df _ rfl,rfl,rfl⟩,fun b hb=>?_,q⟩
    have e:b=s1.heap.objs.size:=by simpa using hb
    subst e
    exact I1.fpOk (Dm _) (I1.hok.fresh (Dm _))
   ·subst e
    cases r1
    obtain ⟨its,rv,p,hz⟩:=I1.tuple hq
    refine wpAny_pyIter_tuple (show s1.heap.IsTuple a its.toArray from p) ?_
    refine ⟨s1.heap.objs.size,[s1.heap.objs.size],_,_,H1,rfl,I1.kept (t':=s1.toks) fun b o e=>C7 _ e,rC a _,⟨_,Df _ rfl,rfl,rfl⟩,fun b hb=>?_,q⟩
    have e:b=s1.heap.objs.size:=by simpa using hb
    subst e
    exact I1.fpOk (Dm _) (I1.hok.fresh (Dm _))
section
variable {K:FG} {G G0:Gm} {W W0:D->Sto->Prop} {H H':Hp} {σ:St} {ρ ρ':Sto} {T T':List It3} {g:Nat->Option It3} {x y z:It3} {α β:Type} {X:Cx}
theorem Ar.item2 {r:R3} {v:V} {Ts:List It3} {d:D} (w:Wf K G H σ ρ (Ts ++ T) g) (a:Ar σ r v Ts) (e:der r ρ=some (.ok d,ρ)):∃ y,y.d=d/\y.v=v/\((∃ i,i ∈ pls [r]/\g i=some y)\/y ∈ Ts):=by
 cases a with
 | @pl i v h =>
  have er:der (.pl i) ρ=((ρ[i]?).join).map fun p=>(.ok p.1,ρ):=rfl
  rw [er] at e
  cases q:(ρ[i]?).join with
  | none=>rw [q] at e;exact nsE e
  | some p =>
   rw [q] at e
   obtain ⟨y,e1,e2,e3,e4⟩:=w.slot (d:=p.1) (f:=p.2) q
   have e5:p.1=d:=by cases e;rfl
   rw [h] at e4
   injection e4 with e4
   injection e4 with e4
   exact ⟨y,e2.trans e5,e4.symm,.inl ⟨i,C5,e1⟩⟩
 | val x=>cases e;exact ⟨x,rfl,rfl,.inr (by simp)⟩
theorem ow {J:It} {H1:Hp} {y:It3} {ds:List D} {vs:List V} {L0:List Addr} (hr:Reps (Rep K H1) ds vs L0) (hk:∀ c ∈ L0,fO [y] c) (hL:∀ c ∈ L0,c ∈ y.L)
  (hgo:∀ (M:Addr->Prop) (H':Hp),(∀ b,M b->MutAt H1 b)->(∀ b o,H1 b=some o->¬ M b->H' b=some o)->(∀ b ∈ y.L,¬ M b)->(∀ (i:Nat) (v:V),vs[i]?=some v->J.go i H'/\∀ x H'',J.yld i H' x H''->H''=H'/\x=v)/\J.stop vs.length H'):Walk K J H1 [y] ds:=by
 obtain ⟨ws,h1,h2,h3⟩:=Reps.split hr
 refine ⟨ws,fun x hx=>⟨(h3 x hx).1,(h3 x hx).2.1,fun c hc=>hk c ((h3 x hx).2.2 c hc)⟩,fun M H' hm hkp hM=>?_⟩
 obtain ⟨go,stop⟩:=hgo M H' hm hkp (hM y C5)
 refine ⟨fun i d hd=>?_,by rw [hr.len];exact stop⟩
 have hi:∃ u,ws[i]?=some u/\u.d=d:=by
  rw [<- h1,Dl] at hd
  obtain ⟨u,a,b⟩:=C8.mp hd
  exact ⟨u,a,b⟩
 obtain ⟨u,eu,ud⟩:=hi
 have hv:vs[i]?=some u.v:=by rw [<- h2,Dl,eu];rfl
 obtain ⟨g1,g2⟩:=go i u.v hv
 refine ⟨g1,fun x H'' hy=>?_⟩
 obtain ⟨e1,e2⟩:=g2 x H'' hy
 subst e1 e2
 have hu:=Di eu
 refine ⟨u,⟨Same.refl _,(h3 u hu).2.1.keep hkp hm fun b hb=>hM y C5 b (hL b ((h3 u hu).2.2 b hb)),fun c hc=>.inr ⟨u,hu,hc⟩,fun hf=>absurd (h3 u hu).1 hf⟩,ud,(h3 u hu).1,rfl⟩
theorem nB {y:It3} {a:Addr} {ds:List D} {vs:List V} (hq:∀ H',SqL K H' a vs->True) (hs:∀ (M:Addr->Prop) (H':Hp),(∀ b,M b->MutAt H b)->(∀ b o,H b=some o->¬ M b->H' b=some o)->(∀ b ∈ y.L,¬ M b)->SqL K H' a vs) :
  ∀ (M:Addr->Prop) (H':Hp),(∀ b,M b->MutAt H b)->(∀ b o,H b=some o->¬ M b->H' b=some o)->(∀ b ∈ y.L,¬ M b)->(∀ (i:Nat) (v:V),vs[i]?=some v->(Itl K a).go i H'/\∀ x H'',(Itl K a).yld i H' x H''->H''=H'/\x=v)/\(Itl K a).stop vs.length H':=fun M H' hm hk hM=>by
 have sq:SqL K H' a vs:=hs M H' hm hk hM
 refine ⟨fun i v hv=>⟨⟨vs,v,sq,hv⟩,fun x H'' ⟨e1,e2⟩=>⟨e1,?_⟩⟩,⟨vs,sq,Dm _⟩⟩
 have:=e2 vs sq
 rw [hv] at this
 injection this with this
 exact this.symm
theorem Bu {m:EM} {R:It->Hp->Prop} (h:tI K G0 W0 (cT m) σ H R):iSeq K (tE K G0 W0 m) σ H R:=by
 obtain ⟨G,W,le,ρ,T,g,o,ρ',w,e,q⟩:=h
 have herr:∀ x,o=.error x->W x ρ':=fun x hx=>by subst hx;exact q
 refine tE.seq le w e herr fun ra ρ1 e1 v H1 ⟨Ts,g1,w1,a1⟩=>?_
 obtain ⟨d,d1,e2⟩:=bg e1
 obtain ⟨p,e3,rfl,rfl⟩:=cF e2
 obtain ⟨ds,e4,e5⟩:=C8.mp e3
 subst e5
 obtain ⟨y,y1,y2,y3⟩:=a1.item2 w1 d1
 have hy:Itm (Ts ++ T) g1 y:=by
  rcases y3 with ⟨i,_,ei⟩ | h
  ·exact .inl ⟨i,ei⟩
  ·exact .inr (C9 _ h)
 have ar:=(w1.itm hy).arg
 have qq:∀ J,Walk K J H1 [y] ds->R J H1:=fun J hw=>q J H1 [v] Ts g1 [y] w1 (by simpa using Ars.cons a1 .nil) (fun z hz=>by rw [DB.mp hz];exact y3) hw
 clear e1 e2 e3 q
 subst y1 y2
 have ar0:=ar
 obtain ⟨da,va,La,fa⟩:=y
 obtain ⟨rr,oo⟩:=ar
 dsimp only at rr e4
 cases da with
 | tup xs =>
  obtain ⟨pa,vs,rfl,ha,rs⟩:=rr.view
  cases e4
  refine .inr ⟨pa,rfl,⟨_,SqT.of ha⟩,qq _ (ow rs (kF (y:=⟨.tup ds,.ref pa,La,fa⟩) C5 ar0 rfl) (fun c hc=>hc) fun M H' hm hk hM=>?_)⟩
  have sq:SqT K H' pa vs:=SqT.of (hk pa _ ha fun z=>(hm pa z).notup ha)
  refine ⟨fun i v hv=>⟨⟨vs,v,sq,hv⟩,fun x H'' ⟨e1,e2⟩=>⟨e1,?_⟩⟩,⟨vs,sq,Dm _⟩⟩
  have:=e2 vs sq
  rw [hv] at this
  injection this with this
  exact this.symm
 | lst xs =>
  obtain ⟨pa,vs,La,rfl,rfl,ha,rs⟩:=rr.view
  cases e4
  refine .inl ⟨pa,rfl,⟨_,SqL.of ha⟩,qq _ (ow rs (sI (y:=⟨.lst ds,.ref pa,pa :: La,fa⟩) C5 ar0 rfl rfl) (fun c hc=>C6 _ hc) (nB (ds:=ds) (fun _ _=>trivial) fun M H' hm hk hM=>SqL.of (hk pa _ ha (hM pa C5))))⟩
 | fls xs =>
  obtain ⟨pa,vs,rfl,ha,rs⟩:=rr.view
  cases e4
  refine .inl ⟨pa,rfl,⟨_,ha.sq⟩,qq _ (ow rs (kF (y:=⟨.fls ds,.ref pa,La,fa⟩) C5 ar0 rfl) (fun c hc=>hc) (nB (ds:=ds) (fun _ _=>trivial) fun M H' hm hk hM=>(ha.keep hk hm).sq))⟩
 | _=>exact nsE e4
theorem cX {tg l:Expr} {m:EM} (h:RE X G0 W0 l m):RI X G0 W0 tg l (cT m):=⟨PI.imp (B1 h.h) fun _ _ _ h=>Bu h⟩
noncomputable def bc (lo:Int) (n:Nat):List D:=(List.range n).map fun (k:Nat)=>D.int (lo+(k:Int))
theorem pO {H1:Hp} {ys:List It3} {lo:Int} {n:Nat}:Walk K (Itr lo n) H1 ys (bc lo n):=by
 refine ⟨[],fun x hx=>(by cases hx),fun M H' _ _ _=>⟨fun i d hd=>?_,?_⟩⟩
 ·unfold bc at hd
  rw [Dl] at hd
  obtain ⟨k,a,b⟩:=C8.mp hd
  obtain ⟨hk,e⟩:=Dh.mp a
  rw [List.getElem_range] at e
  subst e
  rw [List.length_range] at hk
  refine ⟨hk,fun x H'' ⟨e1,e2⟩=>?_⟩
  subst e1
  exact ⟨⟨d,x,[],.z⟩,fj (by rw [<- b,e2];exact .int _),rfl,rfl,rfl⟩
 ·show n<=(bc lo n).length
  unfold bc
  simp
noncomputable def du (j:Int):Bool:=decide (-(2 ^ 62)<=j/\j < 2 ^ 62)
noncomputable def dC:List D->Option (List D)
 | [.int j]=>if du j then some (bc 0 j.toNat) else none
 | _=>none
noncomputable def gj:List D->Option (List D)
 | [.int i,.int j]=>if du i && du j then some (bc i (j - i).toNat) else none
 | _=>none
noncomputable def bm (f:List D->Option (List D)) (ms:M3 (List R3)):IM:=af ms fun rs=>af (ik rs) fun ds=>bD ((f ds).map fun xs=>([],xs))
set_option tactic.hygienic true in
theorem yY {ms:M3 (List R3)} {R:It->Hp->Prop} (h:tI K G0 W0 (bm dC ms) σ H R):A7 (tA K G0 W0 ms) σ H R:=by
 obtain ⟨G,W,le,ρ,T,g,o,ρ',w,e,q⟩:=h
 have herr:∀ x,o=.error x->W x ρ':=fun x hx=>by subst hx;exact q
 refine tA.seq le w e herr fun rs ρ1 e1 vs H1 Ts g1 w1 a1=>?_
 obtain ⟨ds,d1,e2⟩:=eE e1
 obtain ⟨p,e3,rfl,rfl⟩:=cF e2
 obtain ⟨xs,e4,e5⟩:=C8.mp e3
 subst e5
 obtain ⟨ys,i1,f1,f2⟩:=a1.items w1 (fun x hx=>C9 _ hx) d1
 subst f1 f2
 match ys,e4,i1,a1 with
 | [],e4,_,_=>exact nsE e4
 | y :: z :: r,e4,_,_=>cases hd:y.d <;> (rw [Dq,Dq,hd] at e4;exact nsE e4)
 | [y],e4,i1,a1 =>
  have rr:=(w1.itm (i1 y C5)).rep
  cases hd:y.d <;> (rw [Dq,hd] at e4;try (exact nsE e4))
  rename_i j
  rw [hd] at rr
  have e4:(if du j then some (bc 0 j.toNat) else none)=some xs:=e4
  split at e4
  ·rename_i hj
   cases e4
   have hj:=of_decide_eq_true hj
   refine ⟨j,by show [y.v]=_;rw [rr.int_inv],hj.1,hj.2,?_⟩
   exact q _ H1 [] [] g1 [] (w1.sub (Dj Ts T)) .nil (fun _ h=>by cases h) pO
  ·exact nsE e4
set_option tactic.hygienic true in
theorem yX {ms:M3 (List R3)} {R:It->Hp->Prop} (h:tI K G0 W0 (bm gj ms) σ H R):A6 (tA K G0 W0 ms) σ H R:=by
 obtain ⟨G,W,le,ρ,T,g,o,ρ',w,e,q⟩:=h
 have herr:∀ x,o=.error x->W x ρ':=fun x hx=>by subst hx;exact q
 refine tA.seq le w e herr fun rs ρ1 e1 vs H1 Ts g1 w1 a1=>?_
 obtain ⟨ds,d1,e2⟩:=eE e1
 obtain ⟨p,e3,rfl,rfl⟩:=cF e2
 obtain ⟨xs,e4,e5⟩:=C8.mp e3
 subst e5
 obtain ⟨ys,i1,f1,f2⟩:=a1.items w1 (fun x hx=>C9 _ hx) d1
 subst f1 f2
 have inv:∀ {ds:List D},gj ds=some xs->∃ i j,ds=[.int i,.int j]/\du i=true/\du j=true/\xs=bc i (j - i).toNat:=fun {ds} h=>by
  unfold gj at h
  split at h
  ·rename_i i j
   split at h
   ·rename_i hh
    cases h
    simp only [Bool.and_eq_true] at hh
    exact ⟨i,j,rfl,hh.1,hh.2,rfl⟩
   ·exact nsE h
  ·exact nsE h
 obtain ⟨i,j,eds,hi,hj,rfl⟩:=inv e4
 match ys,eds,i1,a1 with
 | [],eds,_,_=>cases eds
 | [y],eds,_,_=>exact absurd (congrArg List.length eds) (by simp)
 | y :: z :: u :: r,eds,_,_=>exact absurd (congrArg List.length eds) (by simp)
 | [y,z],eds,i1,a1 =>
  have r1:=(w1.itm (i1 y C5)).rep
  have r2:=(w1.itm (i1 z (C6 _ C5))).rep
  have h1:y.d=.int i:=by injection eds
  have h2:z.d=.int j:=by injection eds with _ h;injection h
  rw [h1] at r1
  rw [h2] at r2
  have hi:=of_decide_eq_true hi
  have hj:=of_decide_eq_true hj
  refine ⟨i,j,by show [y.v,z.v]=_;rw [r1.int_inv,r2.int_inv],⟨hi.1,hi.2,hj.1,hj.2⟩,?_⟩
  exact q _ H1 [] [] g1 [] (w1.sub (Dj Ts T)) .nil (fun _ h=>by cases h) pO
theorem df {tg a:Expr} {p pos:Pos} {ms:M3 (List R3)} (hg:Gl X "range") (hm:X.mg "range"=none) (ha:RA X G0 W0 [a] ms) (hs:starEach [a] X.env=[(false,eval a X.env)]):RI X G0 W0 tg (.Call (.Name "range" p) [a] [] pos) (bm dC ms):=⟨PI.imp (u6 hg hm ha.h hs) fun _ _ _ h=>yY h⟩
theorem jm {tg a b:Expr} {p pos:Pos} {ms:M3 (List R3)} (hg:Gl X "range") (hm:X.mg "range"=none) (ha:RA X G0 W0 [a,b] ms) (hs:starEach [a,b] X.env=[(false,eval a X.env),(false,eval b X.env)]) (hs2:starEach [b] X.env=[(false,eval b X.env)]):RI X G0 W0 tg (.Call (.Name "range" p) [a,b] [] pos) (bm gj ms):=⟨PI.imp (u5 hg hm ha.h hs hs2) fun _ _ _ h=>yX h⟩
end
end L3
end
section
namespace L3
open PySem L2
section
variable {K:FG} {G G0:Gm} {W W0:D->Sto->Prop} {H H':Hp} {σ:St} {ρ ρ':Sto} {T T':List It3} {g:Nat->Option It3} {x y z:It3} {α β:Type} {X:Cx} {L:List Addr}
noncomputable def wH (bnd:D->Sto->Option Sto) (m:EM):SM:=af m fun r=>af (fU r) fun p=>fun ρ=>(bnd p.1 ρ).map fun ρ1=>(.ok .nx,ρ1)
theorem Bs {bnd:D->Sto->Option Sto} {tg:TG} {m:EM} {E:Ends} (hb:Bnd K G0.pr tg bnd) (h:tS K G0 W0 (wH bnd m) E σ H):wx (tE K G0 W0 m) tg E σ H:=by
 refine h.use fun G W le ρ T g r ρ' w e q=>?_
 refine tE.seq le w e q.err fun ra ρ1 e1 v H1 ⟨Ts,g1,w1,a1⟩=>?_
 obtain ⟨p,ρ2,g2,x,e2,w2,f1,_,_,f3⟩:=a1.take w1 e1
 have w3:=Wf.lowT (Ts:=[x]) w2
 obtain ⟨ρ3,e3,e4⟩:=C8.mp e2
 cases e4
 rw [<- f3]
 exact hb G H1 σ ρ2 _ T g2 (fc x) _ le.pr rfl w3 (by show bnd x.d ρ2=_;rw [f1];exact e3) fun σ2 g3 w4=>q _ _ _ w4
theorem BL {tg e:Expr} {pos:Pos} {bnd:D->Sto->Option Sto} {m:EM} (hg:RG X G0.pr tg bnd) (he:RE X G0 W0 e m) (hs:swapsWithSole [tg] e pos.line X.env=pure false) (hw:swappedStores [tg] e X.env=pure none) (h1:(assignEach [tg] X.env).map (·.2)=[assign tg X.env]):RS X G0 W0 (.Assign [tg] e pos) (wH bnd m):=by
 obtain ⟨g,a,b⟩:=hg.h
 exact ⟨PS.imp (xj he.h a hs hw h1) fun _ _ _ h=>Bs b h⟩
theorem rT {i:Nat} {y:Str} {py spos:Pos} {elt tg iter:Expr} {ifs:List Expr} {scope:Scope} {pos:Pos} {im:IM} {bnd:D->Sto->Option Sto} {cm:M3 Bool} {em:EM} (hN:X.N.Nodup) (hy:X.N[i]?=some y) (hx:Loc X.env.scope y) (NY:List Str) (ix:List (Option Nat)) (hc:X.calm=true) (hi:RI X G0 W0 tg iter im)
  (ht:∀ s H C fp,PTs (bx X NY scope s H C fp) ifs (tT X.K (cz ix) noX cm)) (he:∀ s H C fp,RE (bx X NY scope s H C fp) (cz ix) noX elt em)
  (ck:kI scope X.N X.env.scope NY ix=true) (hij:Inj ix) (hsw:swapsWith (.ListComp elt [⟨tg,iter,ifs,0⟩] scope pos) (some (.Name y py)) spos.line X.env=pure true) (hf:X.fn y=true\/X.env.scope.names.lookup y=some .local)
  (hs:∀ x,foldedSetIterable iter X.env x=pure x) (hp:G0.pr i=false) (hgu:∃ tg',Bnd X.K (cz ix).pr tg' bnd/\∀ s H C fp,PG (bx X NY scope s H C fp) tg tg'):RS X G0 W0 (.Assign [.Name y py] (.ListComp elt [⟨tg,iter,ifs,0⟩] scope pos) spos) (bd i (bL im bnd cm em ix)):=by
 obtain ⟨tg',b1,b2⟩:=hgu
 exact ⟨PS.imp (r6 hN hy hx NY ix hc hi.h b2 ht (fun s H C fp=>(he s H C fp).h) ck hsw hf hs) fun _ _ _ h=>rE szl hij b1 hp h⟩
noncomputable def isL:D->Bool
 | .lst _=>true
 | _=>false
theorem sL:∀ d v L H,isL d=true->Rep K H d v L->tyV K "list" v H:=fun d v L H h r=>by
 cases r with
 | lst ha _=>exact .inl ⟨rfl,_,SqL.of ha⟩
 | _=>cases h
noncomputable def AG:D->List D->Option (D × D)
 | .lst xs,[d]=>if xs.length < 16777216 then some (.lst (xs ++ [d]),.non) else none
 | _,_=>none
set_option tactic.hygienic true in
theorem Co:MutD K tU AG:=fun a d L0 as H Q p r m na ra nA e q=>by
 cases d with
 | lst xs =>
  obtain ⟨_,vs,_,e1,e2,ha,rs⟩:=r.view
  cases e1
  cases e2
  match as,e,ra,nA with
  | [],e,_,_=>exact nsE e
  | _ :: _ :: _,e,_,_=>exact nsE e
  | [y],e,ra,nA =>
   have e:(if xs.length < 16777216 then some (D.lst (xs ++ [y.d]),D.non) else none)=some p:=e
   split at e
   ·rename_i hl
    cases e
    refine ⟨a,vs,y.v,rfl,rfl,ha,by rw [<- rs.len,<- szl];exact hl,?_⟩
    have ry:=ra y C5
    have ny:=nA y C5
    have ma:MutAt H a:=.inl ⟨_,ha⟩
    have keep:∀ {d v L},Rep K H d v L->a ∉ L->Rep K (upd H a (.lst (vs ++ [y.v]))) d v L:=fun {d v L} r n=>r.keep (M:=fun b=>b=a) (fun b o hb h=>by rw [aR h];exact hb) (fun b e=>by rw [e];exact ma) fun b hb e=>n (by rw [<- e];exact hb)
    have keeps:Reps (Rep K (upd H a (.lst (vs ++ [y.v])))) xs vs L0:=rs.keep (M:=fun b=>b=a) (fun b o hb h=>by rw [aR h];exact hb) (fun b e=>by rw [e];exact ma) fun b hb e=>na (by rw [<- e];exact hb)
    exact q (.lst (vs ++ [y.v])) (L0 ++ (y.L ++ [])) ⟨.non,.non,[],.z⟩ (.lst bC (keeps.append (.cons (keep ry ny) .nil))) rfl (fun c hc=>by
     rcases De.mp hc with h | h
     ·exact .inl h
     ·rw [List.append_nil] at h;exact .inr ⟨y,C5,h⟩) rfl rfl .non fun c hc=>by cases hc
   ·exact nsE e
 | _=>exact nsE e
noncomputable def vG:D->List D->Option (D × D)
 | .lst xs,[.lst ys]=>if xs.length+ys.length<=16777216 then some (.lst (xs ++ ys),.non) else none
 | _,_=>none
theorem ext2 {xs:List D} (a:D) {b:D} {r:List D}:vG (.lst xs) (a :: b :: r)=none:=by cases a <;> rfl
set_option tactic.hygienic true in
theorem xG:MutD K tO vG:=fun a d L0 as H Q p r m na ra nA e q=>by
 cases d with
 | lst xs =>
  obtain ⟨_,vs,_,e1,e2,ha,rs⟩:=r.view
  cases e1
  cases e2
  match as,e,ra,nA with
  | [],e,_,_=>exact nsE e
  | y :: _ :: _,e,_,_=>exact nsE ((ext2 y.d).symm.trans e)
  | [y],e,ra,nA =>
   have ry:=ra y C5
   have ny:=nA y C5
   obtain ⟨yd,yv,yL,yf⟩:=y
   dsimp only at ry ny e
   cases yd with
   | lst ys =>
    obtain ⟨b,ws,L1,rfl,rfl,hb,rs'⟩:=ry.view
    have e:(if xs.length+ys.length<=16777216 then some (D.lst (xs ++ ys),D.non) else none)=some p:=e
    split at e
    ·rename_i hl
     cases e
     refine ⟨a,b,vs,ws,rfl,rfl,ha,hb,by rw [<- rs.len,<- rs'.len,<- szl];exact hl,?_⟩
     have ma:MutAt H a:=.inl ⟨_,ha⟩
     have keeps:∀ {ds vs' L},Reps (Rep K H) ds vs' L->a ∉ L->Reps (Rep K (upd H a (.lst (vs ++ ws)))) ds vs' L:=fun {ds vs' L} r n=>r.keep (M:=fun b=>b=a) (fun b o hb h=>by rw [aR h];exact hb) (fun b e=>by rw [e];exact ma) fun b hb e=>n (by rw [<- e];exact hb)
     exact q (.lst (vs ++ ws)) (L0 ++ L1) ⟨.non,.non,[],.z⟩ (.lst bC ((keeps rs na).append (keeps rs' fun h=>ny (C6 _ h)))) rfl (fun c hc=>by
      rcases De.mp hc with h | h
      ·exact .inl h
      ·exact .inr ⟨_,C5,C6 _ h⟩) rfl rfl .non fun c hc=>by cases hc
    ·exact nsE e
   | _=>exact nsE e
 | _=>exact nsE e
noncomputable def zc:D->List D->Option (D × D)
 | .lst xs,[.int i,d]=>(ixN xs.length i).map fun j=>(.lst (xs.set j d),.non)
 | _,_=>none
theorem Reps.set:∀ {ds:List D} {vs:List V} {L L':List Addr} {d:D} {v:V} (j:Nat),Reps (Rep K H) ds vs L->Rep K H d v L'->∃ L2,Reps (Rep K H) (ds.set j d) (vs.set j v) L2/\∀ c ∈ L2,c ∈ L\/c ∈ L'
 | _,_,_,_,_,_,j,.nil,_=>⟨[],.nil,fun c hc=>by cases hc⟩
 | _,_,_,L',_,_,0,.cons (L:=L1) (L':=L1') r rs,r'=>⟨L' ++ L1',.cons r' rs,fun c hc=>by
  rcases De.mp hc with h | h
  ·exact .inr h
  ·exact .inl (Da _ h)⟩
 | _,_,_,L',_,_,j+1,.cons (L:=L1) (L':=L1') r rs,r'=>by
  obtain ⟨L2,h1,h2⟩:=Reps.set j rs r'
  refine ⟨L1 ++ L2,.cons r h1,fun c hc=>?_⟩
  rcases De.mp hc with h | h
  ·exact .inl (C9 _ h)
  ·rcases h2 c h with h | h
   ·exact .inl (Da _ h)
   ·exact .inr h
theorem set1 {xs:List D} (a:D):zc (.lst xs) [a]=none:=by cases a <;> rfl
theorem set3' {xs:List D} (a:D) {b c:D} {r:List D}:zc (.lst xs) (a :: b :: c :: r)=none:=by cases a <;> rfl
theorem z9:MutD K (mh tL) zc:=fun a d L0 as H Q p r m na ra nA e q=>by
 cases d with
 | lst xs =>
  obtain ⟨_,vs,_,e1,e2,ha,rs⟩:=r.view
  cases e1
  cases e2
  match as,e,ra,nA with
  | [],e,_,_=>exact nsE e
  | [y],e,_,_=>exact nsE ((set1 y.d).symm.trans e)
  | y :: _ :: _ :: _,e,_,_=>exact nsE ((set3' y.d).symm.trans e)
  | [k,y],e,ra,nA =>
   have rk:=ra k C5
   have ry:=ra y (C6 _ C5)
   have ny:=nA y (C6 _ C5)
   obtain ⟨kd,kv,kL,kf⟩:=k
   dsimp only at rk
   cases kd with
   | int i =>
    obtain ⟨rfl,rfl⟩:=rk.view
    obtain ⟨j,h1,h2⟩:=C8.mp (show (ixN xs.length i).map (fun j=>(D.lst (xs.set j y.d),D.non))=some p from e)
    subst h2
    refine ⟨.int i,y.v,rfl,a,vs,i,j,rfl,rfl,ha,by rw [<- rs.len];exact h1,?_⟩
    have ma:MutAt H a:=.inl ⟨_,ha⟩
    have ry':Rep K (upd H a (.lst (vs.set j y.v))) y.d y.v y.L:=ry.keep (M:=fun b=>b=a) (fun b o hb h=>by rw [aR h];exact hb) (fun b e=>by rw [e];exact ma) fun b hb e=>ny (by rw [<- e];exact hb)
    have keeps:Reps (Rep K (upd H a (.lst (vs.set j y.v)))) xs vs L0:=rs.keep (M:=fun b=>b=a) (fun b o hb h=>by rw [aR h];exact hb) (fun b e=>by rw [e];exact ma) fun b hb e=>na (by rw [<- e];exact hb)
    obtain ⟨L2,h3,h4⟩:=keeps.set j ry'
    exact q (.lst (vs.set j y.v)) L2 ⟨.non,.non,[],.z⟩ (.lst bC h3) rfl (fun c hc=>(h4 c hc).imp id fun h=>⟨y,C6 _ C5,h⟩) rfl rfl .non fun c hc=>by cases hc
   | _=>exact nsE e
 | _=>exact nsE e
theorem oN {i:Nat} {x:Str} {pn apos cpos:Pos} {id:String} {nm:Str} {Ty:String} {e:Expr} {es:List Expr} {ok:D->Bool} {r:V->List V->Hp->VK->Prop} {f:D->List D->Option (D × D)} {ms:M3 (List R3)} (pa:PlainAttrs Ty) (slot:Slot Ty nm id) (hty:typeOf (.builtin id)=pure (.type "method_descriptor")) (hm:MtR X id r) (hr:MutD X.K r f) (hok:∀ d v L H,ok d=true->Rep X.K H d v L->tyV X.K Ty v H)
  (ho:PE X (.Name x pn) (uM i)) (ha:RA X G0 W0 (e :: es) ms) (hbase:attributeBase (.Name x pn) nm X.env (eval (.Name x pn) X.env)=eval (.Name x pn) X.env)
  (hfew:((backTo cpos (starEach (e :: es) X.env)).all (fun x=>!x.1) && (backToKw cpos (keywordEach [] X.env)).all (fun x=>x.1.isSome) && decide ((e :: es).length+([]:List Keyword).length+(if ([]:List Keyword).isEmpty then 0 else 1) < 30))=true)
  (hline:(apos.endLine == cpos.line)=true) (hs:starEach (e :: es) X.env=(false,eval e X.env) :: starEach es X.env) (hplain:(backTo cpos (starEach es X.env)).any (·.1)=false):RE X G0 W0 (.Call (.Attribute (.Name x pn) nm apos) (e :: es) [] cpos) (sE ok f i ms) :=
 ⟨PE.imp (pe_bm pa slot hty hm ho ha.h hbase hfew hline hs hplain) fun _ _ _ h=>By hr hok h⟩
theorem rS {i:Nat} {x:Str} {pn p2 pos:Pos} {k e:Expr} {mk mv:EM} {t:wd} {f:D->List D->Option (D × D)} (hs:yJ X t) (hr:MutD X.K (mh t) f) (ho:PE X (.Name x pn) (uM i)) (hk:RE X G0 W0 k mk) (hv:RE X G0 W0 e mv)
  (ha:∀ v,assign (.Subscript (.Name x pn) k p2) X.env v=(do
   let ov <- holding [v] (eval (.Name x pn) X.env)
   let iv <- holding [v,ov] (eval k X.env)
   standAt p2
   holding [v,ov,iv] (setItem ov iv v)
   release [v,ov,iv] []))
  (h1:swapsWithSole [.Subscript (.Name x pn) k p2] e pos.line X.env=pure false) (h2:swappedStores [.Subscript (.Name x pn) k p2] e X.env=pure none) (h3:(assignEach [.Subscript (.Name x pn) k p2] X.env).map (·.2)=[assign (.Subscript (.Name x pn) k p2) X.env]):RS X G0 W0 (.Assign [.Subscript (.Name x pn) k p2] e pos) (rN f i mk mv) :=
 ⟨PS.imp (xj hv.h (B2 ho hk.h hs ha) h1 h2 h3) fun _ _ _ h=>Bk hr h⟩
end
end L3
end
section
namespace L3
open PySem L2
section
variable {K:FG} {G G0:Gm} {W W0:D->Sto->Prop} {H H':Hp} {σ:St} {ρ ρ':Sto} {T T':List It3} {g:Nat->Option It3} {x y z:It3} {α β:Type} {X:Cx} {L:List Addr}
theorem bv {Y:Cx} {ix:List (Option Nat)}:PTs Y [] (tT K (cz ix) noX ce):=fun pins s σ H Q I h=>zA pins s σ H Q I (Bg h)
theorem gw {Y:Cx} {c:Expr} {ix:List (Option Nat)} {m:M3 Bool} (h:RT Y (cz ix) noX c m):PTs Y [c] (tT Y.K (cz ix) noX m):=zz h.h
theorem bQ {ix:List (Option Nat)} (h:(ix.filterMap id).Nodup):Inj ix:=by
 intro j k i hj hk
 induction ix generalizing j k with
 | nil=>simp at hj
 | cons o ix ih =>
  cases o with
  | none =>
   have h':(ix.filterMap id).Nodup:=by simpa using h
   cases j with
   | zero=>simp at hj
   | succ j =>
    cases k with
    | zero=>simp at hk
    | succ k=>rw [ih h' j k (by simpa using hj) (by simpa using hk)]
  | some i0 =>
   have h':(i0 :: ix.filterMap id).Nodup:=by simpa using h
   obtain ⟨n,h''⟩:=List.nodup_cons.mp h'
   have mem:∀ m:Nat,ix[m]?=some (some i0)->False:=fun m e=>n (List.mem_filterMap.mpr ⟨some i0,Di e,rfl⟩)
   cases j with
   | zero =>
    simp at hj
    cases k with
    | zero=>rfl
    | succ k=>subst hj;exact (mem k (by simpa using hk)).elim
   | succ j =>
    cases k with
    | zero=>simp at hk;subst hk;exact (mem j (by simpa using hj)).elim
    | succ k=>rw [ih h'' j k (by simpa using hj) (by simpa using hk)]
noncomputable def lY:SM:=fun _=>none
theorem jW {st:Stmt}:RS X G0 W0 st lY:=⟨PS.imp xi fun _ _ _ h=>by
 refine h.use fun G W le ρ T g r ρ' w e q=>?_
 cases e⟩
theorem pW {r r':R2} {f f':D->D->Option (D × Fl)} {ma mb mc:EM} {Q:VK} (ho:OpD K r f) (ho':OpD K r' f') (h:tE K G0 W0 (iZ f f' ma mb mc) σ H Q):oA r r' (tE K G0 W0 ma) (tE K G0 W0 mb) (tE K G0 W0 mc) σ H Q:=by
 refine h.use fun G W le ρ T g o ρ' w e q=>?_
 refine tE.seq le w e q.err fun ra ρ1 e1 va H1 ⟨Ts,g1,w1,a1⟩=>?_
 refine tE.seq le w1 e1 q.err fun rb ρ2 e2 vb H2 ⟨Us,g2,w2,a2⟩=>?_
 obtain ⟨da,d1,e3⟩:=bg e2
 obtain ⟨db,d2,e4⟩:=bg e3
 obtain ⟨k,e5,e6⟩:=jp e4
 obtain ⟨ya,i1,f1,f2⟩:=a1.item w2 (fun x hx=>Da _ (C9 _ hx)) d1
 obtain ⟨yb,i2,f3,f4⟩:=a2.item w2 (fun x hx=>C9 _ hx) d2
 obtain ⟨p,e7,e8⟩:=DA.mp e5
 have hp:=yD e8
 subst f1 f2 f4
 rw [<- f3] at e7
 refine ho ya yb H2 _ p (w2.itm i1).arg (w2.itm i2).arg e7 fun u H3 nu ud uf=>?_
 have w3:=w2.push nu fun c h=>w2.kids (ys:=[ya,yb]) (fun y hy=>by
  rcases Db.mp hy with h | hy
  ·rw [h];exact i1
  ·rw [DB.mp hy];exact i2) h
 have ru:=nu.rep
 rw [ud,hp] at ru
 refine ⟨k,ru.bl_eq.1,?_⟩
 have w4:=w3.sub (List.sublist_cons_self u _)
 cases k with
 | false =>
  cases e6
  have w5:=w4.sub (T':=T) ((Dj Ts T).trans (Dj Us _))
  exact q _ _ (w5.const (.bl false))
 | true =>
  simp only [if_true] at e6 ⊢
  refine tE.seq le w4 e6 q.err fun rc ρ5 e9 vc H5 ⟨Vs,g5,w5,a5⟩=>?_
  obtain ⟨db',d3,e10⟩:=bg e9
  obtain ⟨dc,d4,e11⟩:=bg e10
  obtain ⟨p',e12,rfl,rfl⟩:=cF e11
  obtain ⟨yb',i3,f5,f6⟩:=a2.item w5 (fun x hx=>Da _ (C9 _ hx)) d3
  obtain ⟨yc,i4,f7,f8⟩:=a5.item w5 (fun x hx=>C9 _ hx) d4
  cases ef:f' db' dc with
  | none=>rw [ef] at e12;exact nsE e12
  | some s =>
   rw [ef] at e12
   cases e12
   have w6:=w5
   rw [show Vs ++ (Us ++ (Ts ++ T))=(Vs ++ (Us ++ Ts)) ++ T by simp] at w6
   have i3':Itm ((Vs ++ (Us ++ Ts)) ++ T) g5 yb':=by simpa using i3
   have i4':Itm ((Vs ++ (Us ++ Ts)) ++ T) g5 yc:=by simpa using i4
   rw [<- f6,<- f8]
   refine ho' yb' yc H5 Q s (w5.itm i3).arg (w5.itm i4).arg (by rw [f5,f7];exact ef) (qP w6 (fun y hy=>?_) q)
   rcases Db.mp hy with h | hy
   ·rw [h];exact i3'
   ·rw [DB.mp hy];exact i4'
theorem qk {op op':CmpOp} {r r':R2} {f f':D->D->Option (D × Fl)} {a b c:Expr} {pos:Pos} {ma mb mc:EM} (ho:OpR X (compareOp op) r) (hd:OpD X.K r f) (ho':OpR X (compareOp op') r') (hd':OpD X.K r' f') (ha:RE X G0 W0 a ma) (hb:RE X G0 W0 b mb) (hc:RE X G0 W0 c mc)
  (h:PE X a (tE X.K G0 W0 ma)->PE X b (tE X.K G0 W0 mb)->PE X c (tE X.K G0 W0 mc)->PE X (.Compare a [op,op'] [b,c] pos) (oA r r' (tE X.K G0 W0 ma) (tE X.K G0 W0 mb) (tE X.K G0 W0 mc))):RE X G0 W0 (.Compare a [op,op'] [b,c] pos) (iZ f f' ma mb mc):=⟨PE.imp (h ha.h hb.h hc.h) fun _ _ _ h=>pW hd hd' h⟩
theorem bA {op:CmpOp} {r:R2} {f:D->D->Option (D × Fl)} {a b:Expr} {pos:Pos} {ma mb:EM} (ho:OpR X (compareOp op) r) (hd:OpD X.K r f) (ha:RE X G0 W0 a ma) (hb:RE X G0 W0 b mb) (hm:behindInMarks op b=false):RT X G0 W0 (.Compare a [op] [b] pos) (cB (ah f ma mb)):=⟨PT.imp (zB ho ha.h hb.h hm) fun _ _ _ h=>lQ hd (Bi h)⟩
theorem wU {op op':CmpOp} {r r':R2} {f f':D->D->Option (D × Fl)} {a b c:Expr} {pos:Pos} {ma mb mc:EM} (ho:OpR X (compareOp op) r) (hd:OpD X.K r f) (ho':OpR X (compareOp op') r') (hd':OpD X.K r' f') (ha:RE X G0 W0 a ma) (hb:RE X G0 W0 b mb) (hc:RE X G0 W0 c mc) (hm:lastMarks [op,op'] [b,c]=false):RT X G0 W0 (.Compare a [op,op'] [b,c] pos) (cB (iZ f f' ma mb mc)):=⟨PT.imp (xc ho ho' ha.h hb.h hc.h hm) fun _ _ _ h=>pW hd hd' (Bi h)⟩
end
end L3
namespace L3
theorem aC {mask:List Bool} {i:Nat} (h:mask.length<=i):prM mask i=false:=by
 unfold prM
 rw [List.getElem?_eq_none h]
end L3
end
section
namespace L3
open PySem L2
structure Bl (mg:Str->Option Value):Prop where
 len:mg "len"=none
 range:mg "range"=none
 abs:mg "abs"=none
 divmod:mg "divmod"=none
 enumerate:mg "enumerate"=none
 tuple:mg "tuple"=none
 isinstance:mg "isinstance"=none
 int:mg "int"=none
 bool:mg "bool"=none
 all:mg "all"=none
 str:mg "str"=none
 max:mg "max"=none
 min:mg "min"=none
 list:mg "list"=none
 dict:mg "dict"=none
 repr:mg "repr"=none
 sorted:mg "sorted"=none
 set:mg "set"=none
 zip:mg "zip"=none
 reversed:mg "reversed"=none
theorem dy:bootBuiltins "len"=some (.builtin "len"):=by decide +kernel
theorem yB:bootBuiltins "divmod"=some (.builtin "divmod"):=by decide +kernel
theorem cS:bootBuiltins "tuple"=some (.type "tuple"):=by decide +kernel
theorem pJ:bootBuiltins "isinstance"=some (.builtin "isinstance"):=by decide +kernel
theorem b_int:bootBuiltins "int"=some (.type "int"):=by decide +kernel
theorem CZ:bootBuiltins "bool"=some (.type "bool"):=by decide +kernel
theorem la:bootBuiltins "all"=some (.builtin "all"):=by decide +kernel
theorem yA:bootBuiltins "max"=some (.builtin "max"):=by decide +kernel
theorem yz:bootBuiltins "min"=some (.builtin "min"):=by decide +kernel
theorem CY:bootBuiltins "dict"=some (.type "dict"):=by decide +kernel
theorem b_zip:bootBuiltins "zip"=some (.type "zip"):=by decide +kernel
end L3
end
section
namespace L3
open PySem L2
section
variable {K:FG} {G G0:Gm} {W W0:D->Sto->Prop} {H H':Hp} {σ:St} {ρ ρ':Sto} {T T':List It3} {g:Nat->Option It3} {x y z:It3} {α β:Type} {X:Cx} {L:List Addr}
theorem tv {m:EM} {Q Q':VK} (h:tE K G0 W0 m σ H Q) (f:∀ v H,Q v H->Q' v H):tE K G0 W0 m σ H Q':=by
 refine h.use fun G W le ρ T g o ρ' w e q=>?_
 refine tE.mk le w e ?_
 cases o with
 | ok r=>exact fun v H' g=>f v H' (q v H' g)
 | error x=>exact q
noncomputable def A4:D->Option String
 | .non=>some "NoneType" | .bl _=>some "bool" | .int _=>some "int" | .str _=>some "str"
 | .tup _=>some "tuple" | .lst _=>some "list" | .fls _=>some "list" | .dk _=>some "dict" | .dt _=>some "dict" | .exc _ _=>none
noncomputable def sK (t:String) (d:D):Option (D × Fl):=(A4 d).map fun k=>(.bl (qI k t),.z)
theorem Rep.kind {d:D} {v:V} {k:String} (r:Rep K H d v L) (e:A4 d=some k):KindOf K H v k:=by
 cases r with
 | non=>cases e;exact .non
 | bl b=>cases e;exact .bool b
 | int i=>cases e;exact .int i
 | str s=>cases e;exact .str s
 | tup h _=>cases e;exact .tuple (SqT.of h)
 | lst h _=>cases e;exact .list (SqL.of h)
 | lstF h _=>cases e;exact .list h.sq
 | dK h _ _=>cases e;exact .dK h
 | dT h _ _=>cases e;exact .dT h
 | exc _ _=>cases e
theorem ky {t:String} {tn:Str} {a:Expr} {p pT pos:Pos} {ma:EM} (hc:CallR X (.builtin "isinstance") (fun xs H Q=>∃ x k,xs=[x,.ty t]/\KindOf X.K H x k/\Q (.bl (qI k t)) H)) (hg:Gl X "isinstance") (hm:X.mg "isinstance"=none) (ht:PE X (.Name tn pT) (tC (.ty t))) (ha:RE X G0 W0 a ma)
  (he1:starEach [a,.Name tn pT] X.env=(false,eval a X.env) :: starEach [.Name tn pT] X.env) (he2:starEach [.Name tn pT] X.env=(false,eval (.Name tn pT) X.env) :: starEach [] X.env) (hpl:(backTo pos (starEach [.Name tn pT] X.env)).any (·.1)=false):RE X G0 W0 (.Call (.Name "isinstance" p) [a,.Name tn pT] [] pos) (mUn (sK t) ma) :=
 ⟨PE.imp (ml hc hg hm pJ (lE ha.h (lE ht sh he2) he1) (by decide) (by decide) he1 hpl) fun σ H Q h=>by
  have h:=AN (r:=fun x H Q=>∃ k,KindOf X.K H x k/\Q (.bl (qI k t)) H) (fun a H Q p ra e q=>by
   obtain ⟨k,h1,h2⟩:=C8.mp e
   subst h2
   exact ⟨k,ra.rep.kind h1,q ⟨.bl (qI k t),.bl (qI k t),[],.z⟩ H (fj (.bl _)) rfl rfl⟩) h
  refine tv h fun x H1 ⟨k,hk,q⟩=>?_
  exact ⟨x,k,rfl,hk,q⟩⟩
noncomputable def xW:D->Option Key
 | .int i=>some (.inl i)
 | .str s=>some (.inr s)
 | _=>none
noncomputable def eC:List D->Option (List Key)
 | []=>some []
 | d :: ds=>match xW d,eC ds with
  | some k,some ks=>some (k :: ks)
  | _,_=>none
theorem vx {d:D} {v:V} {k:Key} (r:Rep K H d v L) (e:xW d=some k):v=kV k:=by
 cases r <;> cases e <;> rfl
theorem gg:∀ {ds:List D} {vs:List V} {L:List Addr} {ks:List Key},Reps (Rep K H) ds vs L->eC ds=some ks->vs=ks.map kV
 | _,_,_,ks,.nil,e=>by cases e;rfl
 | _,_,_,ks,.cons (d:=d) (ds:=ds) r rs,e=>by
  unfold eC at e
  cases h1:xW d with
  | none=>rw [h1] at e;exact nsE e
  | some k =>
   cases h2:eC ds with
   | none=>rw [h1,h2] at e;exact nsE e
   | some ks' =>
    rw [h1,h2] at e
    cases e
    rw [vx r h1,gg rs h2];rfl
noncomputable def fT (kvs:List (List Key × D)) (k:List Key):Option D:=(kvs.find? fun kv=>decide (kv.1=k)).map (·.2)
noncomputable def fR (kvs:List (List Key × D)) (k:List Key) (v:D):List (List Key × D) :=
 if (kvs.any fun kv=>decide (kv.1=k))=true then kvs.map (fun kv=>if kv.1=k then (kv.1,v) else kv) else kvs ++ [(k,v)]
theorem qL:∀ {kvs:List (List Key × D)} {ps:List (List Key × V)} {L:List Addr} {k:List Key} {d:D},kvs.map (·.1)=ps.map (·.1)->Reps (Rep K H) (kvs.map (·.2)) (ps.map (·.2)) L->fT kvs k=some d->∃ v L',lc ps k=some v/\Rep K H d v L'/\∀ c ∈ L',c ∈ L
 | [],ps,L,k,d,hk,r,e=>by cases e
 | kv :: kvs,[],L,k,d,hk,r,e=>by cases hk
 | kv :: kvs,p :: ps,L,k,d,hk,r,e=>by
  have hk':kv.1=p.1/\kvs.map (·.1)=ps.map (·.1):=by simpa using hk
  generalize hr:(kv :: kvs).map (·.2)=xs at r
  generalize hp:(p :: ps).map (·.2)=ys at r
  cases r with
  | nil=>cases hr
  | cons a as =>
   cases hr
   cases hp
   unfold fT at e
   rw [List.find?_cons] at e
   by_cases h:kv.1=k
   ·rw [Dr h] at e
    cases e
    exact ⟨_,_,jL (hk'.1.symm.trans h),a,fun c hc=>C9 _ hc⟩
   ·rw [Ds h] at e
    obtain ⟨v,L',h1,h2,h3⟩:=qL hk'.2 as e
    exact ⟨v,L',by rw [jM (fun z=>h (hk'.1.trans z))];exact h1,h2,fun c hc=>Da _ (h3 c hc)⟩
noncomputable def qM:D->D->Option (D × Fl)
 | .dt kvs,.tup ks=>match eC ks with
  | some k=>(fT kvs k).map fun d=>(d,.z)
  | none=>none
 | _,_=>none
noncomputable def tQ:R2:=fun x y H Q=>∃ a v,x=.ref a/\DGet H a y (some v)/\Q v H
theorem zX:OpD K tQ qM:=fun a b H Q p ra rb e q=>by
 obtain ⟨da,va,La,fa⟩:=a
 obtain ⟨db,vb,Lb,fb⟩:=b
 have ra0:=ra
 obtain ⟨ra,oa⟩:=ra
 obtain ⟨rb,ob⟩:=rb
 dsimp only at ra rb e
 cases da with
 | dt kvs =>
  obtain ⟨pa,ps,L0,rfl,rfl,ha,hk,rs⟩:=ra.view
  cases db with
  | tup ks =>
   obtain ⟨pb,ws,rfl,hb,rs'⟩:=rb.view
   have e:(match eC ks with | some k=>(fT kvs k).map fun d=>(d,Fl.z) | none=>none)=some p:=e
   cases h1:eC ks with
   | none=>rw [h1] at e;exact nsE e
   | some k =>
    rw [h1] at e
    obtain ⟨d,h2,h3⟩:=C8.mp (show (fT kvs k).map (fun d=>(d,Fl.z))=some p from e)
    subst h3
    have hw:=gg rs' h1
    subst hw
    obtain ⟨v,L',g1,g2,g3⟩:=qL hk rs h2
    refine ⟨pa,v,rfl,by rw [<- g1];exact DGet.t ha hb,q ⟨d,v,L',.z⟩ H (qv g2 fun c hc=>?_) rfl rfl⟩
    exact sI (y:=⟨.dt kvs,.ref pa,pa :: L0,fa⟩) C5 ra0 rfl rfl c (g3 c hc)
  | _=>exact nsE e
 | _=>exact nsE e
open PySem.Spec PyProof.Rows in
theorem Aq (hu:X.A.units+1 < cLine):IxR X tQ:=by
 intro value slice pins s σ H x y v u Q I rx ry h hs
 obtain ⟨a,w,rfl,g,q⟩:=h
 cases rx
 have hT:=qR I g
 unfold subscriptTail
 refine C2 ?_
 rw [getitemInPython_of_ne hT.not_modules]
 refine C2 (wpAny_specialOf hT PySem.F.slot_dict_getitem.lookup ?_)
 have fin:wpAny (model X.prog X.w) X.A (subscripted slice false (.ref a) u) (fun r s₃=>wpAny (model X.prog X.w) X.A (letTemporaryGo value (.ref a) r >>= fun _=>pure r) (EP X pins σ Q) X.xe s₃) X.xe s:=by
  rw [hs]
  exact wpAny_operating (vK hu I g ry fun w' s3 I3 rw'=>C2 (wpAny_letTemporaryGo (C3 ⟨w,H,I3,rw',q⟩)))
 first
  | exact C3 (C2 fin)
  | exact C2 (C3 (C2 fin))
  | exact C2 fin
noncomputable abbrev aB:=orD ixD qM
theorem ay:OpD K (fun x y H Q=>(xb K x y H Q\/xa K x y H Q)\/tQ x y H Q) aB:=od_ix.or zX
theorem aA (hu:X.A.units+1 < cLine):IxR X (fun x y H Q=>(xb X.K x y H Q\/xa X.K x y H Q)\/tQ x y H Q):=ix_ok.or (Aq hu)
noncomputable def sF:EM:=bF (.val (.dt []) .u)
theorem qj {pos:Pos}:RE X G0 W0 (.Dict [] [] pos) sF:=⟨PE.imp xo fun σ H Q h=>by
 refine h.use fun G W le ρ T g o ρ' w e q=>?_
 cases e
 intro p hp
 refine q _ _ (Wf.done (Us:=[]) (ys:=[]) (x:=⟨.dt [],.ref p,[p],.u⟩) w (fun _ h=>(by cases h)) ⟨bW hp,.dT bC rfl .nil,fun c hc=>?_,fun _=>⟨rfl,p,[],rfl,rfl,(by simp),hp⟩⟩)
 rw [DB.mp hc];exact .inl hp⟩
noncomputable def tV:D->List D->Option (D × D)
 | .dt kvs,[.tup ks,v]=>match eC ks with
  | some k=>if kvs.length < 16777216 then some (.dt (fR kvs k v),.non) else none
  | none=>none
 | _,_=>none
noncomputable def tM:wd:=fun o i v H Q=>∃ a H',o=.ref a/\DPut H a i v H'/\Q H'
theorem wE (hu:X.A.units+1 < cLine):yJ X tM:=by
 intro pins s σ H o i v ov iv u Q I ro ri rv h
 obtain ⟨a,H',rfl,g,q⟩:=h
 cases ro
 exact vJ hu I g ri rv fun s' I'=>⟨H',I',q⟩
theorem qp:∀ {kvs:List (List Key × D)} {ps:List (List Key × V)} {L L':List Addr} {k:List Key} {d:D} {v:V},kvs.map (·.1)=ps.map (·.1)->Reps (Rep K H) (kvs.map (·.2)) (ps.map (·.2)) L->Rep K H d v L' ->
  ∃ L2,Reps (Rep K H) ((kvs.map fun kv=>if kv.1=k then (kv.1,d) else kv).map (·.2)) ((ps.map fun kv=>if kv.1=k then (kv.1,v) else kv).map (·.2)) L2/\(∀ c ∈ L2,c ∈ L\/c ∈ L')
 | [],[],L,L',k,d,v,hk,r,rd=>⟨[],.nil,fun c hc=>by cases hc⟩
 | [],_ :: _,_,_,_,_,_,hk,_,_=>by cases hk
 | _ :: _,[],_,_,_,_,_,hk,_,_=>by cases hk
 | kv :: kvs,p :: ps,L,L',k,d,v,hk,r,rd=>by
  have hk':kv.1=p.1/\kvs.map (·.1)=ps.map (·.1):=by simpa using hk
  generalize hr:(kv :: kvs).map (·.2)=xs at r
  generalize hp:(p :: ps).map (·.2)=ys at r
  cases r with
  | nil=>cases hr
  | @cons _ _ L1 _ _ L1' a as =>
   cases hr
   cases hp
   obtain ⟨L2,h1,h2⟩:=qp (k:=k) hk'.2 as rd
   by_cases h:kv.1=k
   ·refine ⟨L' ++ L2,?_,fun c hc=>?_⟩
    ·simp only [Dq,if_pos h,if_pos (hk'.1.symm.trans h)]
     exact .cons rd h1
    ·rcases De.mp hc with z | z
     ·exact .inr z
     ·rcases h2 c z with y | y
      ·exact .inl (Da _ y)
      ·exact .inr y
   ·refine ⟨L1 ++ L2,?_,fun c hc=>?_⟩
    ·simp only [Dq,if_neg h,if_neg (fun z=>h (hk'.1.trans z))]
     exact .cons a h1
    ·rcases De.mp hc with z | z
     ·exact .inl (C9 _ z)
     ·rcases h2 c z with y | y
      ·exact .inl (Da _ y)
      ·exact .inr y
theorem yG {kvs:List (List Key × D)} {ps:List (List Key × V)} {k:List Key} (hk:kvs.map (·.1)=ps.map (·.1)):(kvs.any fun kv=>decide (kv.1=k))=ps.any fun kv=>decide (kv.1=k):=by
 have h1:(kvs.any fun kv=>decide (kv.1=k))=(kvs.map (·.1)).any fun x=>decide (x=k):=by rw [List.any_map];rfl
 have h2:(ps.any fun kv=>decide (kv.1=k))=(ps.map (·.1)).any fun x=>decide (x=k):=by rw [List.any_map];rfl
 rw [h1,h2,hk]
theorem qD {α:Type} {kvs:List (List Key × α)} {k:List Key} {d:α}:(kvs.map fun kv=>if kv.1=k then (kv.1,d) else kv).map (·.1)=kvs.map (·.1):=by
 rw [DM]
 refine DN fun kv _=>?_
 show (if kv.1=k then (kv.1,d) else kv).1=kv.1
 split <;> rfl
theorem put1 {kvs:List (List Key × D)} (a:D):tV (.dt kvs) [a]=none:=by cases a <;> rfl
theorem put3' {kvs:List (List Key × D)} (a:D) {b c:D} {r:List D}:tV (.dt kvs) (a :: b :: c :: r)=none:=by cases a <;> rfl
set_option tactic.hygienic true in
theorem Aa:MutD K (mh tM) tV:=fun a d L0 as H Q p r m na ra nA e q=>by
 cases d with
 | dt kvs =>
  obtain ⟨_,ps,_,e1,e2,ha,hk,rs⟩:=r.view
  cases e1
  cases e2
  match as,e,ra,nA with
  | [],e,_,_=>exact nsE e
  | [y],e,_,_=>exact nsE ((put1 y.d).symm.trans e)
  | y :: _ :: _ :: _,e,_,_=>exact nsE ((put3' y.d).symm.trans e)
  | [k,y],e,ra,nA =>
   have rk:=ra k C5
   have ry:=ra y (C6 _ C5)
   have ny:=nA y (C6 _ C5)
   obtain ⟨kd,kv,kL,kf⟩:=k
   dsimp only at rk
   cases kd with
   | tup ks =>
    obtain ⟨pb,ws,rfl,hb,rs'⟩:=rk.view
    have e:(match eC ks with | some k=>if kvs.length < 16777216 then some (D.dt (fR kvs k y.d),D.non) else none | none=>none)=some p:=e
    cases h1:eC ks with
    | none=>rw [h1] at e;exact nsE e
    | some key =>
     rw [h1] at e
     dsimp only at e
     split at e
     ·rename_i hl
      cases e
      have hw:=gg rs' h1
      subst hw
      have hlen:kvs.length=ps.length:=by have:=congrArg List.length hk;simpa using this
      refine ⟨.ref pb,y.v,rfl,a,_,rfl,DPut.t ha hb (by rw [<- hlen,<- szl];exact hl),?_⟩
      have ma:MutAt H a:=.inr (.inr ⟨_,ha⟩)
      have ry':Rep K (upd H a (.dT (gT ps key y.v))) y.d y.v y.L:=ry.keep (M:=fun b=>b=a) (fun b o hb h=>by rw [aR h];exact hb) (fun b e=>by rw [e];exact ma) fun b hb e=>ny (by rw [<- e];exact hb)
      have keeps:Reps (Rep K (upd H a (.dT (gT ps key y.v)))) (kvs.map (·.2)) (ps.map (·.2)) L0:=rs.keep (M:=fun b=>b=a) (fun b o hb h=>by rw [aR h];exact hb) (fun b e=>by rw [e];exact ma) fun b hb e=>na (by rw [<- e];exact hb)
      have fin:∃ L1,Reps (Rep K (upd H a (.dT (gT ps key y.v)))) ((fR kvs key y.d).map (·.2)) ((gT ps key y.v).map (·.2)) L1/\(∀ c ∈ L1,c ∈ L0\/c ∈ y.L)/\(fR kvs key y.d).map (·.1)=(gT ps key y.v).map (·.1):=by
       generalize upd H a (HO.dT (gT ps key y.v))=H2 at keeps ry' ⊢
       unfold fR gT
       rw [yG hk]
       split
       ·obtain ⟨L2,g1,g2⟩:=qp (k:=key) hk keeps ry'
        exact ⟨L2,g1,g2,by rw [qD,qD];exact hk⟩
       ·refine ⟨L0 ++ (y.L ++ []),?_,fun c hc=>?_,by rw [List.map_append,List.map_append,hk];rfl⟩
        ·rw [List.map_append,List.map_append]
         exact keeps.append (.cons ry' .nil)
        ·rcases De.mp hc with z | z
         ·exact .inl z
         ·rw [List.append_nil] at z;exact .inr z
      obtain ⟨L1,g1,g2,g3⟩:=fin
      exact q (.dT (gT ps key y.v)) L1 ⟨.non,.non,[],.z⟩ (.dT bC g3 g1) rfl (fun c hc=>(g2 c hc).imp id fun h=>⟨y,C6 _ C5,h⟩) rfl rfl .non fun c hc=>by cases hc
     ·exact nsE e
   | _=>exact nsE e
 | _=>exact nsE e
noncomputable def Cd (f g:D->List D->Option (D × D)) (a:D) (b:List D):Option (D × D):=match f a b with
 | some p=>some p
 | none=>g a b
theorem MutD.or {r r':V->List V->Hp->VK->Prop} {f g:D->List D->Option (D × D)} (h:MutD K r f) (h':MutD K r' g):MutD K (fun x y H Q=>r x y H Q\/r' x y H Q) (Cd f g):=fun a d L0 as H Q p r m na ra nA e q=>by
 unfold Cd at e
 cases ef:f d (as.map (·.d)) with
 | some p'=>rw [ef] at e;cases e;exact .inl (h a d L0 as H Q _ r m na ra nA ef q)
 | none=>rw [ef] at e;exact .inr (h' a d L0 as H Q p r m na ra nA e q)
noncomputable abbrev rH:=Cd zc tV
theorem so:MutD K (mh fun o i v H Q=>tL o i v H Q\/tM o i v H Q) rH:=fun a d L0 as H Q p r m na ra nA e q=>by
 rcases MutD.or z9 Aa a d L0 as H Q p r m na ra nA e q with ⟨k,v,h1,h2⟩ | ⟨k,v,h1,h2⟩
 ·exact ⟨k,v,h1,.inl h2⟩
 ·exact ⟨k,v,h1,.inr h2⟩
theorem oE (hu:X.A.units+1 < cLine):yJ X (fun o i v H Q=>tL o i v H Q\/tM o i v H Q):=by
 intro pins s σ H o i v ov iv u Q I ro ri rv h
 rcases h with h | h
 ·exact wD pins s σ H o i v ov iv u Q I ro ri rv h
 ·exact wE hu pins s σ H o i v ov iv u Q I ro ri rv h
end
end L3
end
section
namespace L3
open PySem L2
section
open PySem.Spec PyProof.Rows HT
variable {prog:Program} {w:World} {A:Around} {E:Value->Shared->Prop} {s:Shared}
theorem jw {t sl:Addr} {items:Array Value} {vl vu:Value} {lo hi:Option Int} {Q:Value->Shared->Prop} (ht:IsTup s.heap t items) (hs:s.heap.IsSliceOf sl vl vu .none) (pl:IsPart vl lo) (pu:IsPart vu hi)
  (hw:sIx items.size 0 lo=0/\sIx items.size items.size hi=items.size) (h:Q (.ref t) s) (hsz:items.size<=sizeLine):wpAny (model prog w) A (getItem (.ref t) (.ref sl)) Q E s:=by
 obtain ⟨os,hos,hcs,hds⟩:=id hs
 have hTs:s.TypeIs (.ref sl) "slice":=⟨os,hos,hcs⟩
 unfold getItem
 try with_reducible refine C4 ?_
 first | refine C2 (C3 ?_) | skip
 refine C2 (wpAny_sequenceKey ht.typeIs (by decide) ?_)
 refine C2 (wpAny_callSpecial?_slot (name:=Str.ofString "__getitem__") ht.typeIs PyProof.Rows.slot_tuple_getitem
  (wpAny_call_entry PyProof.Rows.slot_tuple_getitem ht.typeIs entry_tuple_getitem ?_ (args_tuple_getitem _ _)))
 show wpAny _ _ (Builtin.Tuple.tupleItemsOf (.ref t) >>= _) _ _ s
 refine C2 (tupleItemsOf_ ht ?_)
 refine C2 (wpAny_typeOf hTs ?_)
 rw [if_pos (by decide)]
 refine C2 (gu hs pl pu ?_)
 show wpAny _ _ (if (((sIx items.size 0 lo:Nat):Int) == 0 && (1:Int) == 1 && (sIx items.size items.size hi - sIx items.size 0 lo) == items.size)=true then _ else _) _ _ s
 rw [if_pos (by simp [hw.1,hw.2])]
 refine C2 ?_
 unfold Builtin.Tuple.tupleIsExact
 refine C2 (wpAny_typeOf ht.typeIs ?_)
 refine C3 ?_
 rw [if_pos (by decide)]
 exact C2 (wpAny_rule (C3 ⟨_,rfl,C3 h⟩))
end
section
variable {K:FG} {G G0:Gm} {W W0:D->Sto->Prop} {H H':Hp} {σ:St} {ρ ρ':Sto} {T T':List It3} {g:Nat->Option It3} {x y z:It3} {α β:Type} {X:Cx} {L:List Addr}
noncomputable def wZ (K:FG):V->Option Int->Option Int->Hp->VK->Prop:=fun x lo hi H Q=>∃ a xs,x=.ref a/\SqT K H a xs/\(HT.sIx xs.length 0 lo=0/\HT.sIx xs.length xs.length hi=xs.length)/\Q (.ref a) H
theorem zb:SlR X (wZ X.K):=by
 intro pins s σ H x v vl vu lo hi sl Q I rx hs pl pu h
 obtain ⟨a,xs,rfl,hx,hw,q⟩:=h
 cases rx
 obtain ⟨its,r,ht,hz⟩:=I.tuple hx
 have hlen:its.toArray.size=xs.length:=by rw [Dp];exact r.length.symm
 refine ⟨"tuple",_,PyProof.Rows.slot_tuple_getitem.lookup,ht.typeIs,?_⟩
 exact jw ht hs pl pu (by rw [hlen];exact hw) ⟨.ref a,H,I,rfl,q⟩ (by rw [hlen];exact hz)
noncomputable def asI:D->Option Int
 | .int i=>some i
 | _=>none
noncomputable def tW:M3 (Option Int):=bF none
noncomputable def j5 (m:EM):M3 (Option Int):=af m fun r=>af (der r) fun d=>bD ((asI d).map some)
noncomputable def EndP (K:FG) (G:Gm) (W:D->Sto->Prop) (σ:St) (T:List It3) (ρ':Sto) (Q:Option Int->Hp->Prop):Except D (Option Int)->Prop
 | .ok b=>∀ H' g',Wf K G H' σ ρ' T g'->Q b H'
 | .error e=>W e ρ'
noncomputable def tP (K:FG) (G0:Gm) (W0:D->Sto->Prop) (m:M3 (Option Int)):TO:=fun σ H Q=>∃ G W,Le K G W G0 W0/\∃ ρ T g r ρ',Wf K G H σ ρ T g/\m ρ=some (r,ρ')/\EndP K G W σ T ρ' Q r
structure RP (X:Cx) (G0:Gm) (W0:D->Sto->Prop) (e:Option Expr) (m:M3 (Option Int)):Prop where
 h:PO X e (tP X.K G0 W0 m)
theorem PO.imp {e:Option Expr} {t t':TO} (h:PO X e t) (f:∀ σ H Q,t' σ H Q->t σ H Q):PO X e t':=fun pins s σ H Q I q=>h pins s σ H Q I (f σ H Q q)
theorem zh:RP X G0 W0 none tW:=⟨PO.imp zG fun σ H Q h=>by
 obtain ⟨G,W,le,ρ,T,g,r,ρ',w,e,q⟩:=h
 cases e
 exact q _ _ w⟩
theorem jX {e:Expr} {m:EM} (h:RE X G0 W0 e m):RP X G0 W0 (some e) (j5 m):=⟨PO.imp (zF h.h) fun σ H Q h=>by
 obtain ⟨G,W,le,ρ,T,g,r,ρ',w,e,q⟩:=h
 have herr:∀ x,r=.error x->W x ρ':=fun x hx=>by subst hx;exact q
 refine tE.seq le w e herr fun ra ρ1 e1 v H1 ⟨Ts,g1,w1,a1⟩=>?_
 obtain ⟨d,d1,e2⟩:=bg e1
 obtain ⟨o,e3,rfl,rfl⟩:=cF e2
 obtain ⟨i,e4,e5⟩:=C8.mp e3
 subst e5
 obtain ⟨y,i1,f1,f2⟩:=a1.item w1 (fun x hx=>C9 _ hx) d1
 have rr:=(w1.itm i1).rep
 rw [f1] at rr
 have hd:d=.int i:=by cases d <;> cases e4;rfl
 rw [hd] at rr
 refine ⟨i,by rw [<- f2];exact rr.int_inv,q _ _ (w1.sub (Dj Ts T))⟩⟩
noncomputable def mSl (f:D->Option Int->Option Int->Option (D × Fl)) (ma:EM) (pl pu:M3 (Option Int)):EM:=af ma fun ra=>af pl fun lo=>af pu fun hi=>af (der ra) fun d=>bD ((f d lo hi).map fun p=>R3.val p.1 p.2)
noncomputable def SlD (K:FG) (r:V->Option Int->Option Int->Hp->VK->Prop) (f:D->Option Int->Option Int->Option (D × Fl)):Prop:=∀ (a:It3) (lo hi:Option Int) (H:Hp) (Q:VK) (p:D × Fl),Arg K H a->f a.d lo hi=some p ->
 (∀ w H',New K H H' (fO [a]) w->w.d=p.1->w.f=p.2->Q w.v H')->r a.v lo hi H Q
theorem tP.seq {ma:M3 (Option Int)} {k:Option Int->M3 β} {r:Except D β} {P:Option Int->Hp->Prop} (le:Le K G W G0 W0) (w:Wf K G H σ ρ T g) (e:af ma k ρ=some (r,ρ')) (he:∀ x,r=.error x->W x ρ')
  (h:∀ b ρ1,k b ρ1=some (r,ρ')->∀ H1 g1,Wf K G H1 σ ρ1 T g1->P b H1):tP K G0 W0 ma σ H P:=by
 unfold af at e
 cases q:ma ρ with
 | none=>rw [q] at e;exact nsE e
 | some p =>
  obtain ⟨o,ρ1⟩:=p
  rw [q] at e
  cases o with
  | error x=>cases e;exact ⟨G,W,le,ρ,T,g,.error x,ρ',w,q,he x rfl⟩
  | ok ra=>exact ⟨G,W,le,ρ,T,g,.ok ra,ρ1,w,q,h ra ρ1 e⟩
theorem tE_sl {r:V->Option Int->Option Int->Hp->VK->Prop} {f:D->Option Int->Option Int->Option (D × Fl)} {ma:EM} {pl pu:M3 (Option Int)} {Q:VK} (hd:SlD K r f) (h:tE K G0 W0 (mSl f ma pl pu) σ H Q):tSl r (tE K G0 W0 ma) (tP K G0 W0 pl) (tP K G0 W0 pu) σ H Q:=by
 refine h.use fun G W le ρ T g o ρ' w e q=>?_
 refine tE.seq le w e q.err fun ra ρ1 e1 va H1 ⟨Ts,g1,w1,a1⟩=>?_
 refine tP.seq le w1 e1 q.err fun lo ρ2 e2 H2 g2 w2=>?_
 refine tP.seq le w2 e2 q.err fun hi ρ3 e3 H3 g3 w3=>?_
 obtain ⟨d,d1,e4⟩:=bg e3
 obtain ⟨p,e5,rfl,rfl⟩:=cF e4
 obtain ⟨y,i1,f1,f2⟩:=a1.item w3 (fun x hx=>C9 _ hx) d1
 subst f1 f2
 cases ef:f y.d lo hi with
 | none=>rw [ef] at e5;exact nsE e5
 | some s =>
  rw [ef] at e5
  cases e5
  exact hd y lo hi H3 Q s (w3.itm i1).arg ef (qP w3 (fun z hz=>by rw [DB.mp hz];exact i1) q)
theorem Reps.take:∀ {ds:List D} {vs:List V} {L:List Addr} (n:Nat),Reps (Rep K H) ds vs L->∃ L',Reps (Rep K H) (ds.take n) (vs.take n) L'/\∀ c ∈ L',c ∈ L
 | _,_,_,0,_=>⟨[],by simpa using Reps.nil,fun c hc=>by cases hc⟩
 | _,_,_,n+1,.nil=>⟨[],by simpa using Reps.nil,fun c hc=>by cases hc⟩
 | _,_,_,n+1,.cons (L:=L1) r rs=>by
  obtain ⟨L',h1,h2⟩:=Reps.take n rs
  exact ⟨L1 ++ L',by simpa using Reps.cons r h1,fun c hc=>by
   rcases De.mp hc with h | h
   ·exact C9 _ h
   ·exact Da _ (h2 c h)⟩
theorem Reps.drop:∀ {ds:List D} {vs:List V} {L:List Addr} (n:Nat),Reps (Rep K H) ds vs L->∃ L',Reps (Rep K H) (ds.drop n) (vs.drop n) L'/\∀ c ∈ L',c ∈ L
 | _,_,L,0,r=>⟨L,by simpa using r,fun c hc=>hc⟩
 | _,_,_,n+1,.nil=>⟨[],by simpa using Reps.nil,fun c hc=>by cases hc⟩
 | _,_,_,n+1,.cons r rs=>by
  obtain ⟨L',h1,h2⟩:=Reps.drop n rs
  exact ⟨L',by simpa using h1,fun c hc=>Da _ (h2 c hc)⟩
theorem Reps.cut {ds:List D} {vs:List V} (lo hi:Option Int) (r:Reps (Rep K H) ds vs L):∃ L',Reps (Rep K H) (iB ds lo hi) (qT vs lo hi) L'/\∀ c ∈ L',c ∈ L:=by
 unfold iB qT
 rw [<- r.len]
 obtain ⟨L1,h1,h2⟩:=r.drop (HT.sIx ds.length 0 lo)
 obtain ⟨L2,h3,h4⟩:=h1.take (HT.sIx ds.length ds.length hi - HT.sIx ds.length 0 lo)
 exact ⟨L2,h3,fun c hc=>h2 c (h4 c hc)⟩
noncomputable def slD:D->Option Int->Option Int->Option (D × Fl)
 | .lst xs,lo,hi=>some (.lst (iB xs lo hi),.u)
 | .fls xs,lo,hi=>some (.lst (iB xs lo hi),.u)
 | .tup xs,lo,hi=>some (.tup (iB xs lo hi),.z)
 | _,_,_=>none
theorem sd_sl:SlD K (fun x lo hi H Q=>BQ K x lo hi H Q\/(BP K x lo hi H Q\/wZ K x lo hi H Q)) slD:=fun a lo hi H Q p ra e q=>by
 obtain ⟨da,va,La,fa⟩:=a
 have ra0:=ra
 obtain ⟨ra,oa⟩:=ra
 dsimp only at ra e
 cases da with
 | lst xs =>
  obtain ⟨pa,vs,L0,rfl,rfl,ha,rs⟩:=ra.view
  cases e
  obtain ⟨L',h1,h2⟩:=rs.cut lo hi
  exact .inl ⟨pa,vs,rfl,SqL.of ha,fun p hp=>q ⟨_,.ref p,p :: L',.u⟩ _ (Cl hp h1 fun c hc=>sI (y:=⟨.lst xs,.ref pa,pa :: L0,fa⟩) C5 ra0 rfl rfl c (h2 c hc)) rfl rfl⟩
 | fls xs =>
  obtain ⟨pa,vs,rfl,ha,rs⟩:=ra.view
  cases e
  obtain ⟨L',h1,h2⟩:=rs.cut lo hi
  exact .inl ⟨pa,vs,rfl,ha.sq,fun p hp=>q ⟨_,.ref p,p :: L',.u⟩ _ (Cl hp h1 fun c hc=>kF (y:=⟨.fls xs,.ref pa,La,fa⟩) C5 ra0 rfl c (h2 c hc)) rfl rfl⟩
 | tup xs =>
  obtain ⟨pa,vs,rfl,ha,rs⟩:=ra.view
  cases e
  by_cases hw:HT.sIx vs.length 0 lo=0/\HT.sIx vs.length vs.length hi=vs.length
  ·have hc:iB xs lo hi=xs:=by
    unfold iB
    rw [rs.len,hw.1,hw.2,<- rs.len]
    simp
   rw [hc] at q
   exact .inr (.inr ⟨pa,vs,rfl,SqT.of ha,hw,q ⟨.tup xs,.ref pa,La,.z⟩ H (qv (.tup ha rs) (kF (y:=⟨.tup xs,.ref pa,La,fa⟩) C5 ra0 rfl)) rfl rfl⟩)
  ·obtain ⟨L',h1,h2⟩:=rs.cut lo hi
   exact .inr (.inl ⟨pa,vs,rfl,SqT.of ha,hw,fun p hp=>q ⟨_,.ref p,L',.z⟩ _ (z4 hp h1 fun c hc=>kF (y:=⟨.tup xs,.ref pa,La,fa⟩) C5 ra0 rfl c (h2 c hc)) rfl rfl⟩)
 | _=>exact nsE e
theorem BD:SlR X (fun x lo hi H Q=>BQ X.K x lo hi H Q\/(BP X.K x lo hi H Q\/wZ X.K x lo hi H Q)):=sl_list.or (sl_tup.or zb)
theorem me {e:Expr} {lo hi:Option Expr} {p2 pos:Pos} {m:EM} {pl pu:M3 (Option Int)} (he:RE X G0 W0 e m) (hl:RP X G0 W0 lo pl) (hu:RP X G0 W0 hi pu):RE X G0 W0 (.Subscript e (.Slice lo hi none p2) pos) (mSl slD m pl pu):=⟨PE.imp (xm BD he.h hl.h hu.h) fun _ _ _ h=>tE_sl sd_sl h⟩
end
end L3
end
section
namespace L3
open PySem L2
mutual
noncomputable def pyD:D->Option PyData
 | .non=>some .none
 | .bl b=>some (.bool b)
 | .int i=>some (.int i)
 | .str x=>some (.str x)
 | .tup xs=>(m9 xs).map .tuple
 | .lst xs=>(m9 xs).map .list
 | .fls xs=>(m9 xs).map .list
 | .dk _=>none
 | .dt _=>none
 | .exc _ _=>none
noncomputable def m9:List D->Option (List PyData)
 | []=>some []
 | d :: ds=>match pyD d,m9 ds with
  | some p,some ps=>some (p :: ps)
  | _,_=>none
end
section
variable {K:FG} {H:Hp} {Ks:Addr->Prop} {d:D} {v:V} {L:List Addr} {X:Cx}
set_option tactic.hygienic true in
theorem Rep.dv (r:Rep K H d v L):∀ p,pyD d=some p->DV K H v p:=by
 refine Rep.rec (motive_1:=fun d v _ _=>∀ p,pyD d=some p->DV K H v p) (motive_2:=fun ds vs _ _=>∀ ps,m9 ds=some ps->DVs K H vs ps) ?_ ?_ ?_ ?_ ?_ ?_ ?_ ?_ ?_ ?_ ?_ ?_ r
 ·intro p e;unfold pyD at e;cases e;exact .non
 ·intro _ p e;unfold pyD at e;cases e;exact .bl _
 ·intro _ p e;unfold pyD at e;cases e;exact .int _
 ·intro _ p e;unfold pyD at e;cases e;exact .str _
 ·intro xs a vs L h _ ih p e
  unfold pyD at e
  obtain ⟨ps,e1,rfl⟩:=C8.mp e
  exact .tup (SqT.of h) (ih ps e1)
 ·intro xs a vs L h _ ih p e
  unfold pyD at e
  obtain ⟨ps,e1,rfl⟩:=C8.mp e
  exact .lst (SqL.of h) (ih ps e1)
 ·intro xs a vs L h _ ih p e
  unfold pyD at e
  obtain ⟨ps,e1,rfl⟩:=C8.mp e
  exact .lst h.sq (ih ps e1)
 ·intro _ _ _ _ _ _ _ _ p e;unfold pyD at e;exact nsE e
 ·intro _ _ _ _ _ _ _ _ p e;unfold pyD at e;exact nsE e
 ·intros;rename_i e;unfold pyD at e;exact nsE e
 ·intro ps e;unfold m9 at e;cases e;exact .nil
 ·intro d v L ds vs L' _ _ i1 i2 ps e
  unfold m9 at e
  cases h1:pyD d with
  | none=>rw [h1] at e;exact nsE e
  | some p =>
   cases h2:m9 ds with
   | none=>rw [h1,h2] at e;exact nsE e
   | some qs=>rw [h1,h2] at e;cases e;exact .cons (i1 p h1) (i2 qs h2)
noncomputable def eqP (a b:D):Option Bool:=match pyD a,pyD b with
 | some p,some q=>if p.canLay0 && q.canLay0 && decide (min p.depth q.depth<=30) then some (PyData.eqv p q) else none
 | _,_=>none
noncomputable def eqA (a b:D):Option Bool:=match eqS a b with
 | some k=>some k
 | none=>eqP a b
noncomputable abbrev eqX (a b:D):Option (D × Fl):=(eqA a b).map fun k=>(.bl k,.z)
noncomputable abbrev neX (a b:D):Option (D × Fl):=(eqA a b).map fun k=>(.bl (!k),.z)
noncomputable def rEqP:R2:=fun x y H Q=>∃ p q,DV X.K H x p/\DV X.K H y q/\p.canLay0=true/\q.canLay0=true/\min p.depth q.depth<=30/\Q (.bl (PyData.eqv p q)) H
noncomputable def rNeP:R2:=fun x y H Q=>∃ p q,DV X.K H x p/\DV X.K H y q/\p.canLay0=true/\q.canLay0=true/\min p.depth q.depth<=30/\Q (.bl (!PyData.eqv p q)) H
theorem cH (hu:X.A.units+64 < cLine):OpR X (compareOp .Eq) (fun x y H Q=>rEq x y H Q\/rEqP (X:=X) x y H Q):=by
 intro pins s σ H x y v u Q I rx ry h
 rcases h with h | ⟨p,q,h1,h2,h3,h4,h5,hq⟩
 ·exact op_eq pins s σ H x y v u Q I rx ry h
 ·obtain ⟨as,ra⟩:=DV.reads I h1 rx
  obtain ⟨bs,rb⟩:=DV.reads I h2 ry
  exact PySem.SeqAt.compareEq_reads ra rb h3 h4 (by omega) ⟨.bl _,H,I,rfl,hq⟩
theorem iO (hu:X.A.units+64 < cLine):OpR X (compareOp .NotEq) (fun x y H Q=>rNe x y H Q\/rNeP (X:=X) x y H Q):=by
 intro pins s σ H x y v u Q I rx ry h
 rcases h with h | ⟨p,q,h1,h2,h3,h4,h5,hq⟩
 ·exact op_ne pins s σ H x y v u Q I rx ry h
 ·obtain ⟨as,ra⟩:=DV.reads I h1 rx
  obtain ⟨bs,rb⟩:=DV.reads I h2 ry
  exact PySem.SeqAt.compareNe_reads ra rb h3 h4 (by omega) ⟨.bl _,H,I,rfl,hq⟩
set_option tactic.hygienic true in
theorem uk {a b:D} {k:Bool} (e:eqP a b=some k):∃ p q,pyD a=some p/\pyD b=some q/\p.canLay0=true/\q.canLay0=true/\min p.depth q.depth<=30/\k=PyData.eqv p q:=by
 unfold eqP at e
 cases h1:pyD a with
 | none=>rw [h1] at e;exact nsE e
 | some p =>
  cases h2:pyD b with
  | none=>rw [h1,h2] at e;exact nsE e
  | some q =>
   rw [h1,h2] at e
   dsimp only at e
   split at e
   ·rename_i h
    cases e
    simp only [Bool.and_eq_true,decide_eq_true_eq] at h
    exact ⟨p,q,rfl,rfl,h.1.1,h.1.2,h.2,rfl⟩
   ·exact nsE e
theorem cI:OpD X.K (fun x y H Q=>rEq x y H Q\/rEqP (X:=X) x y H Q) eqX:=fun a b H Q p ra rb e q=>by
 obtain ⟨k,h1,h2⟩:=C8.mp e
 subst h2
 unfold eqA at h1
 cases hs:eqS a.d b.d with
 | some k' =>
  rw [hs] at h1
  cases h1
  obtain ⟨s,hk⟩:=yh ra.rep rb.rep hs
  exact .inl ⟨s,by rw [<- hk];exact q ⟨.bl k,.bl k,[],.z⟩ H (fj (.bl k)) rfl rfl⟩
 | none =>
  rw [hs] at h1
  obtain ⟨p,p',e1,e2,e3,e4,e5,rfl⟩:=uk h1
  exact .inr ⟨p,p',ra.rep.dv p e1,rb.rep.dv p' e2,e3,e4,e5,q ⟨.bl _,.bl _,[],.z⟩ H (fj (.bl _)) rfl rfl⟩
theorem iP:OpD X.K (fun x y H Q=>rNe x y H Q\/rNeP (X:=X) x y H Q) neX:=fun a b H Q p ra rb e q=>by
 obtain ⟨k,h1,h2⟩:=C8.mp e
 subst h2
 unfold eqA at h1
 cases hs:eqS a.d b.d with
 | some k' =>
  rw [hs] at h1
  cases h1
  obtain ⟨s,hk⟩:=yh ra.rep rb.rep hs
  exact .inl ⟨s,by rw [<- hk];exact q ⟨.bl (!k),.bl (!k),[],.z⟩ H (fj (.bl _)) rfl rfl⟩
 | none =>
  rw [hs] at h1
  obtain ⟨p,p',e1,e2,e3,e4,e5,rfl⟩:=uk h1
  exact .inr ⟨p,p',ra.rep.dv p e1,rb.rep.dv p' e2,e3,e4,e5,q ⟨.bl _,.bl _,[],.z⟩ H (fj (.bl _)) rfl rfl⟩
theorem yi {a:D} {p:PyData} (h:pyD a=some p) (hc:p.canLay0=true) (hd:p.depth<=30):eqP a a=some true:=by
 unfold eqP
 rw [h]
 simp [hc,hd,PySem.SeqAt.eqv_refl p hc]
end
end L3
end
section
namespace L3
open PySem L2
set_option tactic.hygienic true in
theorem CJ {P:Program} {w:World} {K:FG} {mg:Str->Option Value} {base:Heap} {x:Str} {st:Stmt} {k:Nat} {N ps:List Str} {mask:List Bool} {m:SM} {nn:Nat} {f:Addr} {fd:FuncData} (F:Fun K x x st f fd) (S:FnScope N ps (aj st)) (hml:mask.length=ps.length) (hnn:N.length=nn)
  (body:∀ (cdv:Value) (A:Around) (outer:List Env) (s:Shared) (H:Hp) (E:XK) (f:Addr) (G:Gm),Room k (A.deeper (PyProof.Rows.envOfC x (aj st) s.heap.objs.size f cdv))->G.pr=prM mask->RSs (qS CX0 P w K mg base N x (aj st) f cdv A outer s H E).nox G noX (bq st) m) :
  FnOk P w K mg base CX0 (k+1) f fd ps (uN K (fnM mask nn m)):=by
 refine F.ok S (fun vs H Q E h=>?_) fun cdv A outer s H vs Q E hr h=>?_
 ·obtain ⟨ps',p,fs,rfl,_,_,hF,_⟩:=h
  unfold fnM at hF
  rw [Dg] at hF ⊢
  split at hF
  ·rename_i e;rw [e,hml]
  ·exact nsE hF
 ·have hle:mask.length<=nn:=by
   rw [hml,<- hnn]
   have:=congrArg List.length S.pre
   rw [Dy] at this
   omega
  obtain ⟨G,hG,ht⟩:=uj hle h
  subst hnn
  exact ⟨_,(body cdv A outer s H E f G hr hG).h,ht⟩
noncomputable def wA (K:FG):Sp:=fun vs H Q _=>∃ (a:Addr) (ns:List Int),vs=[.ref a]/\SqL K H a (ns.map V.int)/\AI H/\ns.length<=63/\∀ H',Q (.bl true) H'
theorem nP {K:FG} {H:Hp}:∀ ns:List Int,Reps (Rep K H) (ns.map D.int) (ns.map V.int) []
 | []=>.nil
 | n :: ns=>.cons (L:=[]) (.int n) (nP ns)
theorem Ao {K:FG} {F:Fn} (hF:∀ ns:List Int,ns.length<=63->∃ fs,F [(.fls (ns.map .int),.z)]=some (.ok (.bl true,.z),fs)) {vs:List V} {H:Hp} {Q:VK} {E:XK} (h:wA K vs H Q E):uN K F vs H Q E:=by
 obtain ⟨a,ns,rfl,hS,hO,hn,q⟩:=h
 obtain ⟨fs,e⟩:=hF ns hn
 have fz:FzL K H a (ns.map V.int):=by
  rcases hS with (h | h) | h
  ·rcases hO a with z | ⟨o,xs,z⟩
   ·rw [h] at z;cases z
   ·rw [h] at z;cases z
  ·exact .inl h
  ·exact .inr h
 refine ⟨[⟨.fls (ns.map .int),.ref a,[],.z⟩],(.bl true,.z),fs,rfl,fun p hp=>?_,.cons (fun _ h=>by cases h) .nil,e,fun x qs H' B x1 x2 _=>?_⟩
 ·rw [DB.mp hp]
  exact ⟨.lstF fz (nP ns),fun h=>absurd rfl h⟩
 ·have r:=B.rep
  rw [x1] at r
  have inv:∀ {v:V} {L:List Addr},Rep K H' (.bl true) v L->v=.bl true:=fun r=>by cases r;rfl
  rw [inv r]
  exact q H'
end L3
end
section
namespace L3
open PySem L2
section
variable {K:FG} {G G0:Gm} {W W0:D->Sto->Prop} {H H':Hp} {σ:St} {ρ ρ':Sto} {T T':List It3} {g:Nat->Option It3} {x y z:It3} {α β:Type} {X:Cx} {v:V} {d:D} {L:List Addr}
noncomputable def cY:List D->Option (List Int)
 | []=>some []
 | .int i :: ds=>(cY ds).map (i :: ·)
 | _=>none
set_option tactic.hygienic true in
theorem jq:∀ {ds:List D} {ns:List Int},cY ds=some ns->ds=ns.map D.int
 | [],ns,e=>by cases e;rfl
 | d :: ds,ns,e=>by
  cases d <;> try (exact nsE e)
  rename_i b
  obtain ⟨r,h1,h2⟩:=C8.mp (show (cY ds).map (b :: ·)=some ns from e)
  subst h2
  rw [jq h1];rfl
theorem Reps.ints:∀ {ns:List Int} {vs:List V} {L:List Addr},Reps (Rep K H) (ns.map D.int) vs L->vs=ns.map V.int
 | [],_,_,.nil=>rfl
 | b :: bs,_,_,.cons r rs=>by
  rw [Reps.ints rs]
  cases r;rfl
noncomputable def sH:List Int->Option Int
 | []=>none
 | x :: xs=>some (xs.foldl (fun a b=>if b < a then b else a) x)
noncomputable def j7:List Int->Option Int
 | []=>none
 | x :: xs=>some (xs.foldl (fun a b=>if a < b then b else a) x)
theorem i7:∀ (xs:List Int) (x:Int),(xs.foldl (fun a b=>if b < a then b else a) x) ∈ x :: xs/\∀ n ∈ x :: xs,(xs.foldl (fun a b=>if b < a then b else a) x)<=n
 | [],x=>⟨C5,fun n h=>by simp at h;subst h;exact Int.le_refl _⟩
 | y :: xs,x=>by
  obtain ⟨h1,h2⟩:=i7 xs (if y < x then y else x)
  rw [List.foldl_cons]
  refine ⟨?_,fun n hn=>?_⟩
  ·rcases Db.mp h1 with h | h
   ·rw [h];split <;> simp
   ·exact C6 _ (C6 _ h)
  ·have h3:=h2 _ C5
   have h4:(if y < x then y else x)<=x/\(if y < x then y else x)<=y:=by split <;> omega
   rcases Db.mp hn with h | hn
   ·subst h;exact Int.le_trans h3 h4.1
   ·rcases Db.mp hn with h | hn
    ·subst h;exact Int.le_trans h3 h4.2
    ·exact h2 n (C6 _ hn)
theorem ie:∀ (xs:List Int) (x:Int),(xs.foldl (fun a b=>if a < b then b else a) x) ∈ x :: xs/\∀ n ∈ x :: xs,n<=(xs.foldl (fun a b=>if a < b then b else a) x)
 | [],x=>⟨C5,fun n h=>by simp at h;subst h;exact Int.le_refl _⟩
 | y :: xs,x=>by
  obtain ⟨h1,h2⟩:=ie xs (if x < y then y else x)
  rw [List.foldl_cons]
  refine ⟨?_,fun n hn=>?_⟩
  ·rcases Db.mp h1 with h | h
   ·rw [h];split <;> simp
   ·exact C6 _ (C6 _ h)
  ·have h3:=h2 _ C5
   have h4:x<=(if x < y then y else x)/\y<=(if x < y then y else x):=by split <;> omega
   rcases Db.mp hn with h | hn
   ·subst h;exact Int.le_trans h4.1 h3
   ·rcases Db.mp hn with h | hn
    ·subst h;exact Int.le_trans h4.2 h3
    ·exact h2 n (C6 _ hn)
theorem vw {ns:List Int} {m:Int} (h:sH ns=some m):ns ≠ []/\∀ k,k ∈ ns->(∀ n ∈ ns,k<=n)->k=m:=by
 cases ns with
 | nil=>exact nsE h
 | cons x xs =>
  cases h
  obtain ⟨h1,h2⟩:=i7 xs x
  refine ⟨by simp,fun k hk hm=>?_⟩
  have a:=hm _ h1
  have b:=h2 k hk
  omega
theorem qx {ns:List Int} {m:Int} (h:j7 ns=some m):ns ≠ []/\∀ k,k ∈ ns->(∀ n ∈ ns,n<=k)->k=m:=by
 cases ns with
 | nil=>exact nsE h
 | cons x xs =>
  cases h
  obtain ⟨h1,h2⟩:=ie xs x
  refine ⟨by simp,fun k hk hm=>?_⟩
  have a:=hm _ h1
  have b:=h2 k hk
  omega
noncomputable def redQ (g:List Int->Option Int):D->Option (D × Fl)
 | .lst xs=>(cY xs).bind fun ns=>(g ns).map fun m=>(.int m,.z)
 | .tup xs=>(cY xs).bind fun ns=>(g ns).map fun m=>(.int m,.z)
 | _=>none
noncomputable abbrev t6:=c1 (redQ sH)
noncomputable def BR (K:FG) (P:List Int->Int->Prop):List V->Hp->VK->Prop:=fun xs H Q=>(∃ (l:Addr) (ns:List Int),xs=[.ref l]/\SqL K H l (ns.map V.int)/\ns ≠ []/\∀ m,m ∈ ns->P ns m->Q (.int m) H)\/(∃ (l:Addr) (ns:List Int),xs=[.ref l]/\SqT K H l (ns.map V.int)/\ns ≠ []/\∀ m,m ∈ ns->P ns m->Q (.int m) H)
set_option tactic.hygienic true in
theorem CQ {g:List Int->Option Int} {P:List Int->Int->Prop} (hg:∀ ns m,g ns=some m->ns ≠ []/\∀ k,k ∈ ns->P ns k->k=m):gL K (BR K P) (c1 (redQ g)):=fun ys H Q p ra e q=>by
 obtain ⟨y,rfl,e2⟩:=kQ e
 clear e
 have e:=e2
 clear e2
 have rr:=(ra y C5).rep
 obtain ⟨da,va,La,fa⟩:=y
 dsimp only at rr e
 have key:∀ {xs:List D} {vs:List V} {L:List Addr},Reps (Rep K H) xs vs L->((cY xs).bind fun ns=>(g ns).map fun m=>((.int m,.z):D × Fl))=some p->∃ ns m,vs=ns.map V.int/\g ns=some m/\p=(.int m,.z):=fun {xs vs L} rs e=>by
  obtain ⟨ns,h1,h2⟩:=DA.mp e
  obtain ⟨m,h3,h4⟩:=C8.mp h2
  have:=jq h1
  subst this
  exact ⟨ns,m,rs.ints,h3,h4.symm⟩
 cases da <;> try (exact nsE e)
 ·rename_i xs
  obtain ⟨pa,vs,rfl,ha,rs⟩:=rr.view
  obtain ⟨ns,m,rfl,h1,rfl⟩:=key rs e
  obtain ⟨h2,h3⟩:=hg ns m h1
  exact .inr ⟨pa,ns,rfl,SqT.of ha,h2,fun k hk hp=>by rw [h3 k hk hp];exact q ⟨_,_,[],.z⟩ H (fj (.int _)) rfl rfl⟩
 ·rename_i xs
  obtain ⟨pa,vs,La,rfl,rfl,ha,rs⟩:=rr.view
  obtain ⟨ns,m,rfl,h1,rfl⟩:=key rs e
  obtain ⟨h2,h3⟩:=hg ns m h1
  exact .inl ⟨pa,ns,rfl,SqL.of ha,h2,fun k hk hp=>by rw [h3 k hk hp];exact q ⟨_,_,[],.z⟩ H (fj (.int _)) rfl rfl⟩
theorem AC:gL K (BR K fun ns m=>∀ n ∈ ns,m<=n) t6:=CQ (P:=fun ns m=>∀ n ∈ ns,m<=n) fun _ _=>vw
theorem vT (hc:X.calm=true):CallR X (.builtin "min") (BR X.K fun ns m=>∀ n ∈ ns,m<=n):=(vR hc).or (vP hc)
end
end L3
end
section
namespace L3
open PySem L2
end L3
end
section
namespace L3
open PySem L2
section
variable {K:FG} {G G0:Gm} {W W0:D->Sto->Prop} {H H':Hp} {σ:St} {ρ ρ':Sto} {T T':List It3} {g:Nat->Option It3} {x y z:It3} {α β:Type} {X:Cx} {v:V} {d:D} {L:List Addr}
noncomputable def AV (g:List Int->Option Int):D->D->Option (D × Fl)
 | .lst xs,.non=>(cY xs).map fun ns=>match g ns with
  | some m=>(.int m,.z)
  | none=>(.non,.z)
 | .lst xs,.int k=>(cY xs).map fun ns=>match g ns with
  | some m=>(.int m,.z)
  | none=>(.int k,.z)
 | _,_=>none
noncomputable abbrev Ac:=AV j7
theorem zU {g:List Int->Option Int} {P:List Int->Int->Prop} (hg:∀ ns m,g ns=some m->ns ≠ []/\∀ k,k ∈ ns->P ns k->k=m) (h0:∀ ns,g ns=none->ns=[]):OpD K (fun x d H Q=>tN K P x d H Q) (AV g):=fun a b H Q p ra rb e q=>by
 obtain ⟨da,va,La,fa⟩:=a
 obtain ⟨db,vb,Lb,fb⟩:=b
 obtain ⟨ra,oa⟩:=ra
 obtain ⟨rb,ob⟩:=rb
 dsimp only at ra rb e
 cases da with
 | lst xs =>
  obtain ⟨pa,vs,La,rfl,rfl,ha,rs⟩:=ra.view
  have key:∀ (dd:D) (dv:V),Rep K H dd dv []->((cY xs).map fun ns=>match g ns with | some m=>((.int m,.z):D × Fl) | none=>(dd,.z))=some p->tN K P (.ref pa) dv H Q:=fun dd dv rd e=>by
   obtain ⟨ns,h1,h2⟩:=C8.mp e
   have:=jq h1
   subst this
   have:=rs.ints
   subst this
   refine ⟨pa,ns,rfl,SqL.of ha,fun hn=>?_,fun m hm hp=>?_⟩
   ·cases hgn:g ns with
    | some m=>exact absurd hn (hg ns m hgn).1
    | none =>
     rw [hgn] at h2
     subst h2
     exact q ⟨dd,dv,[],.z⟩ H (fj rd) rfl rfl
   ·cases hgn:g ns with
    | none=>rw [h0 ns hgn] at hm;cases hm
    | some m' =>
     rw [hgn] at h2
     subst h2
     rw [(hg ns m' hgn).2 m hm hp]
     exact q ⟨.int m',.int m',[],.z⟩ H (fj (.int _)) rfl rfl
  cases db with
  | non =>
   obtain ⟨rfl,rfl⟩:=rb.view
   exact key .non .non .non e
  | int k =>
   obtain ⟨rfl,rfl⟩:=rb.view
   exact key (.int k) (.int k) (.int k) e
  | _=>exact nsE e
 | _=>first | exact nsE e | (cases db <;> exact nsE e)
theorem zV:OpD K (fun x d H Q=>tN K (fun ns m=>∀ n ∈ ns,n<=m) x d H Q) Ac:=zU (fun _ _=>qx) fun ns h=>by cases ns with | nil=>rfl | cons=>cases h
theorem BO {id:String} {nm:Str} {e d:Expr} {ma mb:EM} {p pos kpos:Pos} {r:V->V->Hp->VK->Prop} {f:D->D->Option (D × Fl)} (hrun:∀ {pins:List (Addr × Obj)} {s:Shared} {σ:St} {H:Hp} {x d:V} {u ud:Value} {Q:VK},Inv X pins σ H s->RelV x u->RelV d ud->r x d H Q->wpAny (model X.prog X.w) X.A (call (.builtin id) [u] [("default",ud)]) (EP X pins σ Q) X.xe s) (ho:OpD X.K (fun x d H Q=>r x d H Q) f)
  (hg:Gl X nm) (hm:X.mg nm=none) (hv:bootBuiltins nm=some (.builtin id)) (he:RE X G0 W0 e ma) (hd:RE X G0 W0 d mb) (hn:nm ≠ "__name__") (hdb:(nm == ("__debug__":Str))=false)
  (hs:backTo pos (starEach [e] X.env)=(false,eval e X.env) :: backTo pos (starEach [] X.env)) (hs0:backTo pos (starEach [] X.env)=[]) (hplain:(backTo pos (starEach [e] X.env)).any (·.1)=false)
  (hall:(backToKw pos (keywordEach [⟨some "default",d,kpos⟩] X.env)).all (·.1.isSome)=true) (hkw:(backToKw pos (keywordEach [⟨some "default",d,kpos⟩] X.env)).any (·.1.isNone)=false) (hks:(backToKw pos (keywordEach [⟨some "default",d,kpos⟩] X.env)).filterMap (·.1)=(["default"]:List Str)) :
  RE X G0 W0 (.Call (.Name nm p) [e] [⟨some "default",d,kpos⟩] pos) (ah f ma mb):=⟨PE.imp (B8 hrun hg hm hv he.h hd.h hn hdb hs hs0 hplain hall hkw hks) fun _ _ _ h=>lQ ho h⟩
theorem Reps.rep {ds:List D} {vs:List V} {L:List Addr} (r:Reps (Rep K H) ds vs L):∀ n:Nat,∃ L',Reps (Rep K H) (List.replicate n ds).flatten (List.replicate n vs).flatten L'/\∀ c ∈ L',c ∈ L
 | 0=>⟨[],.nil,fun _ h=>by cases h⟩
 | n+1=>by
  obtain ⟨L',h1,h2⟩:=Reps.rep r n
  refine ⟨L ++ L',?_,fun c hc=>?_⟩
  ·rw [List.replicate_succ,List.replicate_succ,List.flatten_cons,List.flatten_cons];exact r.append h1
  ·rcases De.mp hc with h | h
   ·exact h
   ·exact h2 c h
noncomputable def yM (i j:Int):Prop:=0 < j/\j < 1267650600228229401496703205376
theorem xr:OpR X (binaryOp .FloorDiv) (rI yM fun i j=>.int (i / j)):=opI fun i j _ _ _ _ _ hc q=>by
 have h1:(0:Int) < j:=hc.1
 have h2:j < 1267650600228229401496703205376:=hc.2
 refine PyProof.Rows.floordiv_int (by omega) (by rw [Int.fdiv_eq_ediv_of_nonneg i (by omega)];exact q) (.inl (PyProof.noPylong_of_log2 ?_))
 have h3:j.natAbs < 2 ^ 100:=by omega
 exact Nat.lt_trans ((Nat.log2_lt (by omega)).mpr h3) (by decide)
noncomputable abbrev CN:=fN (fun _ j=>decide (0 < j/\j < 1267650600228229401496703205376)) fun i j=>.int (i / j)
theorem zY:OpD K (rI yM fun i j=>.int (i / j)) CN:=ki (fun i j h=>by simpa [yM] using h) fun i j _=>.int _
end
end L3
end
section
namespace L3
open PySem L2
end L3
end
section
namespace L3
open PySem L2
section
variable {K:FG} {G G0:Gm} {W W0:D->Sto->Prop} {H H':Hp} {σ:St} {ρ ρ':Sto} {T T':List It3} {g:Nat->Option It3} {x y z:It3} {α β:Type} {X:Cx}
noncomputable def jY (hi:Int) (n:Nat):List D:=(List.range n).map fun (k:Nat)=>D.int (hi - (k:Int))
theorem uH {H1:Hp} {ys:List It3} {hi:Int} {n:Nat}:Walk K (Itd hi n) H1 ys (jY hi n):=by
 refine ⟨[],fun x hx=>(by cases hx),fun M H' _ _ _=>⟨fun i d hd=>?_,?_⟩⟩
 ·unfold jY at hd
  rw [Dl] at hd
  obtain ⟨k,a,b⟩:=C8.mp hd
  obtain ⟨hk,e⟩:=Dh.mp a
  rw [List.getElem_range] at e
  subst e
  rw [List.length_range] at hk
  refine ⟨hk,fun x H'' ⟨e1,e2⟩=>?_⟩
  subst e1
  exact ⟨⟨d,x,[],.z⟩,fj (by rw [<- b,e2];exact .int _),rfl,rfl,rfl⟩
 ·show n<=(jY hi n).length
  unfold jY
  simp
noncomputable def rW:List D->Option (List D)
 | [.int i,.int j,.int c]=>if du i && du j && (c == -1) then some (jY i (i - j).toNat) else none
 | _=>none
set_option tactic.hygienic true in
theorem yW {ms:M3 (List R3)} {R:It->Hp->Prop} (h:tI K G0 W0 (bm rW ms) σ H R):A5 (tA K G0 W0 ms) σ H R:=by
 obtain ⟨G,W,le,ρ,T,g,o,ρ',w,e,q⟩:=h
 have herr:∀ x,o=.error x->W x ρ':=fun x hx=>by subst hx;exact q
 refine tA.seq le w e herr fun rs ρ1 e1 vs H1 Ts g1 w1 a1=>?_
 obtain ⟨ds,d1,e2⟩:=eE e1
 obtain ⟨p,e3,rfl,rfl⟩:=cF e2
 obtain ⟨xs,e4,e5⟩:=C8.mp e3
 subst e5
 obtain ⟨ys,i1,f1,f2⟩:=a1.items w1 (fun x hx=>C9 _ hx) d1
 subst f1 f2
 have inv:∀ {ds:List D},rW ds=some xs->∃ i j,ds=[.int i,.int j,.int (-1)]/\du i=true/\du j=true/\xs=jY i (i - j).toNat:=fun {ds} h=>by
  unfold rW at h
  split at h
  ·rename_i i j c
   split at h
   ·rename_i hh
    cases h
    simp only [Bool.and_eq_true,beq_iff_eq] at hh
    obtain ⟨⟨h1,h2⟩,rfl⟩:=hh
    exact ⟨i,j,rfl,h1,h2,rfl⟩
   ·exact nsE h
  ·exact nsE h
 obtain ⟨i,j,eds,hi,hj,rfl⟩:=inv e4
 match ys,eds,i1,a1 with
 | [],eds,_,_=>cases eds
 | [y],eds,_,_=>exact absurd (congrArg List.length eds) (by simp)
 | [y,z],eds,_,_=>exact absurd (congrArg List.length eds) (by simp)
 | y :: z :: u :: v :: r,eds,_,_=>exact absurd (congrArg List.length eds) (by simp)
 | [y,z,u],eds,i1,a1 =>
  have r1:=(w1.itm (i1 y C5)).rep
  have r2:=(w1.itm (i1 z (C6 _ C5))).rep
  have r3:=(w1.itm (i1 u (C6 _ (C6 _ C5)))).rep
  have h1:y.d=.int i:=by injection eds
  have h2:z.d=.int j:=by injection eds with _ h;injection h
  have h3:u.d=.int (-1):=by injection eds with _ h;injection h with _ h;injection h
  rw [h1] at r1
  rw [h2] at r2
  rw [h3] at r3
  have hi:=of_decide_eq_true hi
  have hj:=of_decide_eq_true hj
  refine ⟨i,j,by show [y.v,z.v,u.v]=_;rw [r1.int_inv,r2.int_inv,r3.int_inv],⟨hi.1,hi.2,hj.1,hj.2⟩,?_⟩
  exact q _ H1 [] [] g1 [] (w1.sub (Dj Ts T)) .nil (fun _ h=>by cases h) uH
theorem zn {tg a b c:Expr} {p pos:Pos} {ms:M3 (List R3)} (hg:Gl X "range") (hm:X.mg "range"=none) (ha:RA X G0 W0 [a,b,c] ms) (hs:starEach [a,b,c] X.env=(false,eval a X.env) :: starEach [b,c] X.env) (hpl:(backTo pos (starEach [b,c] X.env)).any (·.1)=false):RI X G0 W0 tg (.Call (.Name "range" p) [a,b,c] [] pos) (bm rW ms):=⟨PI.imp (u3 hg hm ha.h hs hpl) fun _ _ _ h=>yW h⟩
end
end L3
end
section
namespace L3
open PySem L2
section
variable {K:FG} {G G0:Gm} {W W0:D->Sto->Prop} {H H':Hp} {σ:St} {ρ ρ':Sto} {T T':List It3} {g:Nat->Option It3} {x y z:It3} {α β:Type} {X:Cx} {v:V} {d:D} {L:List Addr}
noncomputable def keyD:Key->D
 | .inl i=>.int i
 | .inr s=>.str s
noncomputable def qH (k:List Key):D:=.tup (k.map keyD)
noncomputable def keysD:D->Option (List D)
 | .dt kvs=>some (kvs.map fun kv=>qH kv.1)
 | _=>none
noncomputable def ph (m:EM):IM:=af m fun r=>af (der r) fun d=>bD ((keysD d).map fun ds=>([r],ds))
theorem l8:∀ k:List Key,Reps (Rep K H) (k.map keyD) (k.map kV) []
 | []=>.nil
 | .inl i :: k=>.cons (L:=[]) (.int i) (l8 k)
 | .inr s :: k=>.cons (L:=[]) (.str s) (l8 k)
theorem uI {H1:Hp} {y:It3} {a:Addr} {kvs:List (List Key × D)} {ps:List (List Key × V)} (ha:H1 a=some (.dT ps)) (hk:kvs.map (·.1)=ps.map (·.1)) (hy:a ∈ y.L):Walk K (Itk a ps.length) H1 [y] (kvs.map fun kv=>qH kv.1):=by
 refine ⟨[],fun x hx=>(by cases hx),fun M H' hm hkp hM=>?_⟩
 have h':H' a=some (.dT ps):=hkp a _ ha (hM y C5 a hy)
 have hl:kvs.length=ps.length:=by have:=congrArg List.length hk;simpa using this
 refine ⟨fun i d hd=>?_,⟨ps,.inl h',rfl,by rw [Dg,hl];exact Dm _⟩⟩
 rw [Dl] at hd
 obtain ⟨kv,h1,h2⟩:=C8.mp hd
 have hi:i < kvs.length:=(Dh.mp h1).1
 obtain ⟨p,hp,hpk⟩:∃ p,ps[i]?=some p/\p.1=kv.1:=by
  have e:=congrArg (fun l=>l[i]?) hk
  simp only [Dl,h1] at e
  obtain ⟨p,e1,e2⟩:=C8.mp e.symm
  exact ⟨p,e1,e2⟩
 refine ⟨⟨ps,.inl h',rfl,by omega⟩,fun x H'' ⟨e1,e2⟩=>?_⟩
 subst e1
 obtain ⟨b,rfl,hb⟩:=e2 ps p (.inl h') hp
 exact ⟨⟨d,.ref b,[],.z⟩,fj (by rw [<- h2,<- hpk];exact .tup hb (l8 _)),rfl,rfl,rfl⟩
theorem yZ {m:EM} {R:It->Hp->Prop} (h:tI K G0 W0 (ph m) σ H R):A8 (tE K G0 W0 m) σ H R:=by
 obtain ⟨G,W,le,ρ,T,g,o,ρ',w,e,q⟩:=h
 have herr:∀ x,o=.error x->W x ρ':=fun x hx=>by subst hx;exact q
 refine tE.seq le w e herr fun ra ρ1 e1 v H1 ⟨Ts,g1,w1,a1⟩=>?_
 obtain ⟨d,d1,e2⟩:=bg e1
 obtain ⟨p,e3,rfl,rfl⟩:=cF e2
 obtain ⟨ds,e4,e5⟩:=C8.mp e3
 subst e5
 obtain ⟨y,y1,y2,y3⟩:=a1.item2 w1 d1
 have hy:Itm (Ts ++ T) g1 y:=by
  rcases y3 with ⟨i,_,ei⟩ | h
  ·exact .inl ⟨i,ei⟩
  ·exact .inr (C9 _ h)
 have ar:=(w1.itm hy).arg
 have qq:∀ J,Walk K J H1 [y] ds->R J H1:=fun J hw=>q J H1 [v] Ts g1 [y] w1 (by simpa using Ars.cons a1 .nil) (fun z hz=>by rw [DB.mp hz];exact y3) hw
 clear e1 e2 e3 q
 subst y1 y2
 obtain ⟨da,va,La,fa⟩:=y
 obtain ⟨rr,oo⟩:=ar
 dsimp only at rr e4
 cases da with
 | dt kvs =>
  obtain ⟨pa,ps,L0,rfl,rfl,ha,hk,rs⟩:=rr.view
  cases e4
  exact ⟨pa,ps,rfl,.inl ha,qq _ (uI ha hk C5)⟩
 | _=>exact nsE e4
theorem zo {tg l:Expr} {m:EM} (h:RE X G0 W0 l m):RI X G0 W0 tg l (ph m):=⟨PI.imp (zI h.h) fun _ _ _ h=>yZ h⟩
noncomputable def maxVQ:D->Option (D × Fl)
 | .dt kvs=>(cY (kvs.map (·.2))).bind fun ns=>(j7 ns).map fun m=>(.int m,.z)
 | _=>none
noncomputable abbrev qB:=c1 maxVQ
noncomputable def rMV:List V->Hp->VK->Prop:=fun xs H Q=>∃ (a:Addr) (kvs:List (List Key × V)) (ns:List Int),xs=[.ref a]/\H a=some (.dT kvs)/\kvs.map (·.2)=ns.map V.int/\ns ≠ []/\∀ p,H p=none->∀ m,m ∈ ns->(∀ n ∈ ns,n<=m)->Q (.int m) (upd H p (mK p a))
theorem AD:gL K rMV qB:=fun ys H Q p ra e q=>by
 obtain ⟨y,rfl,e2⟩:=kQ e
 clear e
 have e:=e2
 clear e2
 have rr:=(ra y C5).rep
 obtain ⟨da,va,La,fa⟩:=y
 dsimp only at rr e
 cases da with
 | dt kvs =>
  obtain ⟨pa,ps,L0,rfl,rfl,ha,hk,rs⟩:=rr.view
  obtain ⟨ns,h1,h2⟩:=DA.mp (show ((cY (kvs.map (·.2))).bind fun ns=>(j7 ns).map fun m=>((.int m,.z):D × Fl))=some p from e)
  obtain ⟨m,h3,h4⟩:=C8.mp h2
  have e3:=jq h1
  rw [e3] at rs
  obtain ⟨n1,n2⟩:=qx h3
  subst h4
  refine ⟨pa,ps,ns,rfl,ha,rs.ints,n1,fun p hp k k1 k2=>?_⟩
  rw [n2 k k1 k2]
  exact q ⟨.int m,.int m,[],.z⟩ _ ⟨bW hp,.int _,fun _ h=>(by cases h),fun h=>absurd rfl h⟩ rfl rfl
 | _=>exact nsE e
theorem y7 {m:EM} {Q:VK} (h:tE K G0 W0 (aD qB (ab m ai)) σ H Q) :
  tCB AY (pX (tBM0 K "dict" (fun x vs H Q=>∃ a kvs,x=.ref a/\vs=[]/\Rd H a (.dT kvs)/\∀ p,H p=none->Q (.ref p) (upd H p (mK p a))) (tE K G0 W0 m)) yV) σ H Q:=by
 have h1:pX (tE K G0 W0 m) (tA K G0 W0 ai) σ H (fun vs H1=>rMV vs H1 Q):=tw (jO AD h)
 refine tv h1 fun x H1 h2=>?_
 obtain ⟨a,kvs,ns,e,ha,hv,hn,q⟩:=wy h2
 cases e
 refine ⟨.inr (.inr (.inl ⟨rfl,.inr ⟨kvs,ha⟩⟩)),a,kvs,rfl,rfl,.inl ha,fun p hp=>?_⟩
 have hpa:a ≠ p:=fun z=>by rw [z,hp] at ha;exact nsE ha
 exact ⟨p,a,kvs,ns,rfl,bC,.inl (by rw [aR hpa];exact ha),hv,hn,q p hp⟩
theorem zq {o:Expr} {m:EM} {p apos cpos pos:Pos} (hc:X.calm=true) (hg:Gl X "max") (hm:X.mg "max"=none) (ho:RE X G0 W0 o m) (hbase:attributeBase o "values" X.env (eval o X.env)=eval o X.env) (hline:(apos.endLine == cpos.line)=true)
  (hs:starEach [.Call (.Attribute o "values" apos) [] [] cpos] X.env=(false,eval (.Call (.Attribute o "values" apos) [] [] cpos) X.env) :: starEach [] X.env) (hpl:(backTo pos (starEach [] X.env)).any (·.1)=false) :
  RE X G0 W0 (.Call (.Name "max" p) [.Call (.Attribute o "values" apos) [] [] cpos] [] pos) (aD qB (ab m ai)) :=
 ⟨PE.imp (ml (vV hc) hg hm yA (lE (Ca PySem.F.plainAttrs_dict PySem.F.slot_dict_values PySem.F.type_dict_values z6 ho.h hbase hline) sh hs) (by decide) (by decide) hs hpl) fun _ _ _ h=>y7 h⟩
noncomputable def fZ:List D->Option (List (Int × Int))
 | []=>some []
 | .tup [.int a,.int b] :: ds=>(fZ ds).map ((a,b) :: ·)
 | _=>none
noncomputable def j4 (n:Int × Int):D:=.tup [.int n.1,.int n.2]
set_option tactic.hygienic true in
theorem mm:∀ {ds:List D} {ns:List (Int × Int)},fZ ds=some ns->ds=ns.map j4
 | [],ns,h=>by cases h;rfl
 | d :: ds,ns,h=>by
  unfold fZ at h
  split at h
  ·rename_i h0;cases h0
  ·rename_i a b ds' h0
   cases h0
   obtain ⟨ms,h1,h2⟩:=C8.mp h
   rw [mm h1,<- h2];rfl
  ·exact nsE h
theorem kU:∀ ns:List (Int × Int),fZ (ns.map j4)=some ns
 | []=>rfl
 | n :: ns=>by
  show (fZ (ns.map j4)).map _=_
  rw [kU ns];rfl
noncomputable def kE:List (Int × Int)->Option (Int × Int)
 | []=>none
 | x :: xs=>some (xs.foldl (fun a b=>if ltP b a=true then b else a) x)
set_option tactic.hygienic true in
theorem Ah {x y:Int × Int} (h1:ltP x y=false) (h2:ltP y x=false):x=y:=by
 unfold ltP at *
 simp at h1 h2
 have:x.1=y.1:=by omega
 have:x.2=y.2:=by omega
 exact Prod.ext ‹_› ‹_›
theorem xM {x y z:Int × Int} (h1:ltP x y=false) (h2:ltP y z=false):ltP x z=false:=by
 unfold ltP at *
 simp at *
 omega
theorem xN {x y:Int × Int} (h1:ltP x y=true):ltP y x=false:=by
 unfold ltP at *
 simp at *
 omega
theorem xL (x:Int × Int):ltP x x=false:=by unfold ltP;simp
theorem ig:∀ (xs:List (Int × Int)) (x:Int × Int),(xs.foldl (fun a b=>if ltP b a=true then b else a) x) ∈ x :: xs/\∀ n ∈ x :: xs,ltP n (xs.foldl (fun a b=>if ltP b a=true then b else a) x)=false
 | [],x=>⟨C5,fun n hn=>by rw [DB.mp hn];exact xL x⟩
 | b :: xs,x=>by
  rw [List.foldl_cons]
  by_cases h:ltP b x=true
  ·rw [if_pos h]
   obtain ⟨h1,h2⟩:=ig xs b
   refine ⟨C6 _ h1,fun n hn=>?_⟩
   rcases Db.mp hn with rfl | hn
   ·exact xM (xN h) (h2 b C5)
   ·exact h2 n hn
  ·rw [if_neg h]
   have h':ltP b x=false:=by simpa using h
   obtain ⟨h1,h2⟩:=ig xs x
   refine ⟨?_,fun n hn=>?_⟩
   ·rcases Db.mp h1 with e | e
    ·rw [e];exact C5
    ·exact C6 _ (C6 _ e)
   ·rcases Db.mp hn with rfl | hn
    ·exact h2 n C5
    ·rcases Db.mp hn with rfl | hn
     ·exact xM h' (h2 x C5)
     ·exact h2 n (C6 _ hn)
theorem n5 {ns:List (Int × Int)} {m:Int × Int} (h:kE ns=some m):m ∈ ns/\∀ n ∈ ns,ltP n m=false:=by
 cases ns with
 | nil=>exact nsE h
 | cons x xs=>cases h;exact ig xs x
noncomputable def minPQ:D->Option (D × Fl)
 | .lst ds=>(fZ ds).bind fun ns=>(kE ns).map fun n=>(j4 n,.z)
 | _=>none
noncomputable abbrev t5:=c1 minPQ
theorem l7:∀ {ns:List (Int × Int)} {vs:List V} {L:List Addr},Reps (Rep K H) (ns.map j4) vs L->∃ bs:List Addr,vs=bs.map V.ref/\ns.length=bs.length/\∀ (i:Nat) (b:Addr),bs[i]?=some b->∃ n,ns[i]?=some n/\H b=some (.tup [.int n.1,.int n.2])
 | [],_,_,.nil=>⟨[],rfl,rfl,fun i b h=>by simp at h⟩
 | n :: ns,_,_,.cons r rs=>by
  obtain ⟨bs,e1,e2,e3⟩:=l7 rs
  subst e1
  cases r with
  | @tup xs a vs L ha hr =>
   refine ⟨a :: bs,rfl,by simp [e2],fun i b h=>?_⟩
   cases i with
   | zero =>
    simp only [List.getElem?_cons_zero,Option.some.injEq] at h
    subst h
    have hv:vs=[.int n.1,.int n.2]:=by
     have:=Reps.ints (ns:=[n.1,n.2]) hr
     exact this
    exact ⟨n,rfl,by rw [<- hv];exact ha⟩
   | succ i =>
    simp only [List.getElem?_cons_succ] at h
    exact e3 i b h
theorem AA:gL K (AX K) t5:=fun ys H Q p ra e q=>by
 obtain ⟨y,rfl,e2⟩:=kQ e
 clear e
 have e:=e2
 clear e2
 have rr:=(ra y C5).rep
 obtain ⟨da,va,La,fa⟩:=y
 dsimp only at rr e
 cases da with
 | lst xs =>
  obtain ⟨pa,vs,L0,rfl,rfl,ha,rs⟩:=rr.view
  obtain ⟨ns,h1,h2⟩:=DA.mp (show ((fZ xs).bind fun ns=>(kE ns).map fun n=>((j4 n,.z):D × Fl))=some p from e)
  obtain ⟨n0,h3,h4⟩:=C8.mp h2
  have e3:=mm h1
  subst e3 h4
  obtain ⟨bs,rfl,hl,hb⟩:=l7 rs
  obtain ⟨m1,m2⟩:=n5 h3
  refine ⟨pa,bs,ns,rfl,SqL.of ha,hb,fun z=>?_,fun m b hm hL=>?_⟩
  ·subst z
   have:ns=[]:=List.length_eq_zero_iff.mp hl
   subst this
   cases m1
  ·obtain ⟨n,e1,e2⟩:=hb m b hm
   have hn:n=n0:=by
    refine Ah (m2 n (Di e1) |> id) ?_ |> id
    obtain ⟨i,hi,e4⟩:=List.getElem_of_mem m1
    exact hL.2 i (by omega) n0 n (by rw [Dc hi,e4]) e1
   subst hn
   exact q ⟨j4 n,.ref b,[],.z⟩ H (fj (.tup e2 (.cons (L:=[]) (.int _) (.cons (L:=[]) (.int _) .nil)))) rfl rfl
 | _=>exact nsE e
end
end L3
theorem L2.Room.hu {A:PySem.Around} {k:Nat} (hr:L2.Room k A):A.units+1 < PySem.cLine:=L2.hu_of hr
end
section
namespace L3
open PySem L2
section
variable {K:FG} {G G0:Gm} {W W0:D->Sto->Prop} {H H':Hp} {σ:St} {ρ ρ':Sto} {T T':List It3} {g:Nat->Option It3} {x y z:It3} {α β:Type} {X:Cx} {v:V} {d:D} {L:List Addr}
noncomputable def ke:List D->Option (List (List Key))
 | []=>some []
 | .tup xs :: ds=>match eC xs,ke ds with
  | some k,some ks=>some (k :: ks)
  | _,_=>none
 | _=>none
noncomputable def dzQ:D->D->Option (D × Fl)
 | .lst xs,.tup ys=>(ke xs).bind fun ks=>if ks.length=ys.length/\ks.Nodup then some (.dt (ks.zip ys),.u) else none
 | _,_=>none
noncomputable abbrev dzD:=c2 dzQ
noncomputable abbrev xK (ms:M3 (List R3)):EM:=aD dzD ms
set_option tactic.hygienic true in
theorem mJ:∀ {ds:List D} {vs:List V} {L:List Addr} {ks:List (List Key)},Reps (Rep K H) ds vs L->ke ds=some ks->∃ bs:List (Addr × List Key),vs=bs.map (fun b=>V.ref b.1)/\bs.map (·.2)=ks/\∀ b ∈ bs,H b.1=some (.tup (b.2.map kV))
 | _,_,_,ks,.nil,e=>by cases e;exact ⟨[],rfl,rfl,fun b hb=>by cases hb⟩
 | _,_,_,ks,.cons (d:=d) (ds:=ds) r rs,e=>by
  cases d <;> try (exact nsE e)
  rename_i xs
  obtain ⟨pa,ws,rfl,ha,rs'⟩:=r.view
  unfold ke at e
  cases h1:eC xs with
  | none=>rw [h1] at e;exact nsE e
  | some k =>
   cases h2:ke ds with
   | none=>rw [h1,h2] at e;exact nsE e
   | some ks' =>
    rw [h1,h2] at e
    cases e
    obtain ⟨bs,g1,g2,g3⟩:=mJ rs h2
    have hw:=gg rs' h1
    subst hw
    refine ⟨(pa,k) :: bs,by rw [g1];rfl,by rw [Dq,g2],fun b hb=>?_⟩
    rcases Db.mp hb with rfl | hb
    ·exact ha
    ·exact g3 b hb
theorem lM {α β:Type}:∀ {ks:List α} {ys:List β},ks.length=ys.length->(ks.zip ys).map (·.2)=ys
 | [],[],_=>rfl
 | k :: ks,y :: ys,e=>by simp [lM (ks:=ks) (ys:=ys) (by simpa using e)]
theorem lO {α β:Type}:∀ {ks:List α} {ys:List β},ks.length=ys.length->(ks.zip ys).map (·.1)=ks
 | [],[],_=>rfl
 | k :: ks,y :: ys,e=>by simp [lO (ks:=ks) (ys:=ys) (by simpa using e)]
set_option tactic.hygienic true in
theorem y8 {ms:M3 (List R3)} {Q:VK} (h:tE K G0 W0 (xK ms) σ H Q):AQ K (tA K G0 W0 ms) σ H Q:=by
 refine jO (r:=fun xs H Q=>∃ (l t:Addr) (bs:List (Addr × List Key)) (ws:List V),xs=[.ref l,.ref t]/\SqL K H l (bs.map fun b=>V.ref b.1)/\SqT K H t ws/\(∀ b ∈ bs,H b.1=some (.tup (b.2.map kV)))/\bs.length=ws.length/\(bs.map (·.2)).Nodup/\∀ p,H p=none->Q (.ref p) (upd H p (.dT ((bs.map (·.2)).zip ws)))) (fun ys H Q p ra e q=>?_) h
 obtain ⟨y,z,rfl,e2⟩:=pH e
 clear e
 have ry:=(ra y C5).rep
 have rz:=(ra z (C6 _ C5)).rep
 have az:=ra z (C6 _ C5)
 obtain ⟨da,va,La,fa⟩:=y
 obtain ⟨db,vb,Lb,fb⟩:=z
 dsimp only at ry rz e2
 cases da <;> try (exact nsE e2)
 rename_i xs
 cases db <;> try (exact nsE e2)
 rename_i ws
 obtain ⟨pa,vs,L0,rfl,rfl,ha,rs⟩:=ry.view
 obtain ⟨pb,us,rfl,hb,rs'⟩:=rz.view
 obtain ⟨ks,h1,h2⟩:=DA.mp (show ((ke xs).bind fun ks=>if ks.length=ws.length/\ks.Nodup then some ((.dt (ks.zip ws),.u):D × Fl) else none)=some p from e2)
 split at h2
 ·rename_i hc
  cases h2
  obtain ⟨bs,g1,g2,g3⟩:=mJ rs h1
  subst g1 g2
  have hl:(bs.map (·.2)).length=us.length:=by rw [hc.1,rs'.len]
  refine ⟨pa,pb,bs,us,rfl,SqL.of ha,SqT.of hb,g3,by simpa using hl,hc.2,fun p hp=>?_⟩
  refine q ⟨.dt ((bs.map (·.2)).zip ws),.ref p,p :: Lb,.u⟩ _ ⟨bW hp,.dT bC (by rw [lO hc.1,lO hl]) (by rw [lM hc.1,lM hl];exact rs'.same (bW hp)),fun c hc=>?_,fun _=>⟨rfl,p,Lb,rfl,rfl,fun hc=>?_,hp⟩⟩ rfl rfl
  ·rcases Db.mp hc with e | hc
   ·rw [e];exact .inl hp
   ·exact .inr (kF (y:=⟨.tup ws,.ref pb,Lb,fb⟩) (C6 _ C5) az rfl c hc)
  ·obtain ⟨o,ho⟩:=(rs'.inH p hc).ex
   rw [hp] at ho
   exact nsE ho
 ·exact nsE h2
theorem zr {a b:Expr} {ms:M3 (List R3)} {p1 p2 pos1 pos2:Pos} (hc:X.calm=true) (hu:X.A.units+64 < cLine) (hgl:Gl X "dict") (hml:X.mg "dict"=none) (hg:Gl X "zip") (hm:X.mg "zip"=none) (ha:RA X G0 W0 [a,b] ms)
  (hs:starEach [.Call (.Name "zip" p2) [a,b] [] pos2] X.env=[(false,eval (.Call (.Name "zip" p2) [a,b] [] pos2) X.env)]) (hs2:starEach [a,b] X.env=(false,eval a X.env) :: starEach [b] X.env) (hpl:(backTo pos2 (starEach [b] X.env)).any (·.1)=false) :
  RE X G0 W0 (.Call (.Name "dict" p1) [.Call (.Name "zip" p2) [a,b] [] pos2] [] pos1) (xK ms):=⟨PE.imp (zK hc hu hgl hml hg hm CY b_zip ha.h hs hs2 hpl) fun _ _ _ h=>y8 h⟩
noncomputable def isB:D->D->Option (D × Fl)
 | .bl a,.bl b=>some (.bl (a == b),.z)
 | _,_=>none
noncomputable def isnB:D->D->Option (D × Fl)
 | .bl a,.bl b=>some (.bl (!(a == b)),.z)
 | _,_=>none
theorem zW:OpD K (fun x y H Q=>∃ a b,x=.bl a/\y=.bl b/\Q (.bl (!(a == b))) H) isnB:=fun a b H Q p ra rb e q=>by
 obtain ⟨da,va,La,fa⟩:=a
 obtain ⟨db,vb,Lb,fb⟩:=b
 obtain ⟨ra,oa⟩:=ra
 obtain ⟨rb,ob⟩:=rb
 dsimp only at ra rb
 cases da <;> try (exact nsE e)
 cases db <;> try (exact nsE e)
 obtain ⟨rfl,rfl⟩:=ra.view
 obtain ⟨rfl,rfl⟩:=rb.view
 cases e
 exact ⟨_,_,rfl,rfl,q ⟨_,_,[],.z⟩ H (fj (.bl _)) rfl rfl⟩
theorem zR:OpR X (compareOp .IsNot) (fun x y H Q=>∃ a b,x=.bl a/\y=.bl b/\Q (.bl (!(a == b))) H):=by
 intro pins s σ H x y v u Q I rx ry h
 obtain ⟨a,b,rfl,rfl,q⟩:=h
 cases rx
 cases ry
 exact wpAny_isNot_plain rfl (aX I q (by cases a <;> cases b <;> rfl))
end
end L3
end
section
namespace Bn
open PySem L2 L3
noncomputable abbrev Pd (p:Int × Int):L3.D:=.tup [.int p.1,.int p.2]
theorem cu {bnd:L3.D->Sto->Option Sto} {b:SM} (P:Nat->Sto->Prop):∀ {ds:List L3.D} {ρ:Sto} {k:Nat},P k ρ->(∀ i d ρ,ds[i]?=some d->P (k+i) ρ->∃ ρ1 ρ2,bnd d ρ=some ρ1/\(b ρ1=some (.ok .nx,ρ2)\/b ρ1=some (.ok .ct,ρ2))/\P (k+i+1) ρ2)->∃ ρ',ic bnd b ds ρ=some (.ok .nx,ρ')/\P (k+ds.length) ρ'
 | [],ρ,k,h0,_=>⟨ρ,rfl,h0⟩
 | d :: ds,ρ,k,h0,hs=>by
  obtain ⟨ρ1,ρ2,e1,e2,h1⟩:=hs 0 d ρ rfl h0
  obtain ⟨ρ',e3,h3⟩:=cu P (ds:=ds) (ρ:=ρ2) (k:=k+1) h1 fun i d ρ hd hp=>by
   have:=hs (i+1) d ρ (by simpa using hd) (by rwa [show k+(i+1)=k+1+i by omega])
   rwa [show k+(i+1)+1=k+1+i+1 by omega] at this
  refine ⟨ρ',?_,by rw [Dx,show k+(ds.length+1)=k+1+ds.length by omega];exact h3⟩
  unfold ic
  simp only [e1]
  rcases e2 with e2 | e2 <;> simp only [af,e2,e3]
theorem pq {bnd:L3.D->Sto->Option Sto} {b:SM} (P:Nat->Sto->Prop) (E:Nat->L3.D->Fl->Sto->Prop):∀ {ds:List L3.D} {ρ:Sto} {k:Nat},P k ρ ->
  (∀ i d ρ,ds[i]?=some d->P (k+i) ρ->∃ ρ1 ρ2,bnd d ρ=some ρ1/\(((b ρ1=some (.ok .nx,ρ2)\/b ρ1=some (.ok .ct,ρ2))/\P (k+i+1) ρ2)\/∃ r f,b ρ1=some (.ok (.rt r f),ρ2)/\E (k+i) r f ρ2)) ->
  ∃ ρ',(ic bnd b ds ρ=some (.ok .nx,ρ')/\P (k+ds.length) ρ')\/∃ i r f,i < ds.length/\ic bnd b ds ρ=some (.ok (.rt r f),ρ')/\E (k+i) r f ρ'
 | [],ρ,k,h0,_=>⟨ρ,.inl ⟨rfl,h0⟩⟩
 | d :: ds,ρ,k,h0,hs=>by
  obtain ⟨ρ1,ρ2,e1,h1⟩:=hs 0 d ρ rfl h0
  rcases h1 with ⟨e2,h1⟩ | ⟨r,f,e2,h1⟩
  ·obtain ⟨ρ',h3⟩:=pq P E (ds:=ds) (ρ:=ρ2) (k:=k+1) h1 fun i d ρ hd hp=>by
    have:=hs (i+1) d ρ (by simpa using hd) (by rwa [show k+(i+1)=k+1+i by omega])
    rwa [show k+(i+1)=k+1+i by omega] at this
   have e4:ic bnd b (d :: ds) ρ=ic bnd b ds ρ2:=by
    conv=>lhs;unfold ic
    simp only [e1]
    rcases e2 with e2 | e2 <;> simp only [af,e2]
   rcases h3 with ⟨e3,h3⟩ | ⟨i,r,f,hi,e3,h3⟩
   ·exact ⟨ρ',.inl ⟨e4.trans e3,by rw [Dx,show k+(ds.length+1)=k+1+ds.length by omega];exact h3⟩⟩
   ·exact ⟨ρ',.inr ⟨i+1,r,f,by simp;omega,e4.trans e3,by rw [show k+(i+1)=k+1+i by omega];exact h3⟩⟩
  ·refine ⟨ρ2,.inr ⟨0,r,f,by simp,?_,h1⟩⟩
   unfold ic
   simp only [e1,af,e2,bF]
theorem dJ {lo:Int} {n i:Nat} {d:L3.D} (h:(bc lo n)[i]?=some d):i < n/\d=.int (lo+i):=by
 unfold bc at h
 rw [Dl,C8] at h
 obtain ⟨j,h1,rfl⟩:=h
 have h2:=Dh.mp h1
 obtain ⟨h3,h4⟩:=h2
 simp at h3 h4
 subst h4
 exact ⟨h3,rfl⟩
theorem bN {lo:Int} {n:Nat}:(bc lo n).length=n:=by unfold bc;simp
theorem Az {xs:List L3.D} {m:Nat} (h:m<=xs.length):iB xs none (some (m:Int))=xs.take m:=by
 have e1:HT.sIx xs.length 0 none=0:=rfl
 have e2:HT.sIx xs.length xs.length (some (m:Int))=m:=by
  simp only [HT.sIx]
  split <;> omega
 unfold iB
 rw [e1,e2]
 simp
theorem Small.sub {p q:Pt} (hp:Small p) (hq:Small q):(-18446744073709551616 < q.1 - p.1/\q.1 - p.1 < 18446744073709551616)/\(-18446744073709551616 < q.2 - p.2/\q.2 - p.2 < 18446744073709551616):=by
 obtain ⟨a1,a2,a3,a4⟩:=hp
 obtain ⟨b1,b2,b3,b4⟩:=hq
 exact ⟨⟨by omega,by omega⟩,⟨by omega,by omega⟩⟩
theorem nz {c:M3 Bool} {b:SM} (P:Nat->Sto->Prop) (Q:Sto->Prop) {n:Nat} {ρ:Sto} (h0:P n ρ)
  (hs:∀ n ρ,P n ρ->(∃ ρ1,c ρ=some (.ok false,ρ1)/\Q ρ1)\/∃ ρ1 ρ2 m,c ρ=some (.ok true,ρ1)/\(b ρ1=some (.ok .nx,ρ2)\/b ρ1=some (.ok .ct,ρ2))/\m < n/\P m ρ2):∃ ρ',gi c b ρ=some (.ok .nx,ρ')/\Q ρ':=by
 have main:∀ n ρ,P n ρ->∃ ρ',cW c b (n+1) ρ=some (.ok .nx,ρ')/\Q ρ':=by
  intro n
  induction n using Nat.strongRecOn with
  | _ n ih =>
   intro ρ hp
   rcases hs n ρ hp with ⟨ρ1,e1,hq⟩ | ⟨ρ1,ρ2,m,e1,e2,hm,hp2⟩
   ·refine ⟨ρ1,?_,hq⟩
    unfold cW
    simp [af,e1,bF]
   ·obtain ⟨ρ',e3,hq⟩:=ih m hm ρ2 hp2
    refine ⟨ρ',?_,hq⟩
    have e4:=ko (show m+1<=n by omega) e3
    unfold cW
    rcases e2 with e2 | e2 <;> simp [af,e1,e2,e4]
 obtain ⟨ρ',e,hq⟩:=main n ρ h0
 refine ⟨ρ',?_,hq⟩
 unfold gi
 have h:∃ n r,cW c b n ρ=some r:=⟨_,_,e⟩
 rw [dif_pos h]
 have e2:=Classical.choose_spec (Classical.choose_spec h)
 have e3:=ko (Nat.le_max_left (n+1) (Classical.choose h)) e
 have e4:=ko (Nat.le_max_right (n+1) (Classical.choose h)) e2
 rw [e3] at e4
 exact e4.symm
theorem ao {a b:SM} {ρ ρ1:Sto} {r:Option (Except L3.D Flw × Sto)} (h1:a ρ=some (.ok .nx,ρ1)) (h2:b ρ1=r):aK a b ρ=r:=by
 simp only [aK,af,h1]
 exact h2
theorem dY {bnd:L3.D->Sto->Option Sto} {c:M3 Bool} {elt:EM} (P:Sto->Prop) (g:L3.D->Bool) (f:L3.D->L3.D):∀ {ds:List L3.D} {τ:Sto},P τ ->
  (∀ d ∈ ds,∀ τ,P τ->∃ τ1 τ2,bnd d τ=some τ1/\c τ1=some (.ok (g d),τ2)/\(g d=false->P τ2)/\(g d=true->∃ r τ3 p τ4,elt τ2=some (.ok r,τ3)/\fU r τ3=some (.ok p,τ4)/\p.1=f d/\P τ4)) ->
  ∃ τ',bV bnd c elt ds τ=some (.ok ((ds.filter g).map f),τ')/\P τ'
 | [],τ,h0,_=>⟨τ,rfl,h0⟩
 | d :: ds,τ,h0,hs=>by
  obtain ⟨τ1,τ2,e1,e2,hf,ht⟩:=hs d C5 τ h0
  cases hg:g d with
  | false =>
   obtain ⟨τ',e,hp⟩:=dY P g f (ds:=ds) (τ:=τ2) (hf hg) fun d hd=>hs d (C6 _ hd)
   refine ⟨τ',?_,hp⟩
   unfold bV
   rw [hg] at e2
   simp [e1,af,e2,e,List.filter_cons,hg]
  | true =>
   obtain ⟨r,τ3,p,τ4,e3,e4,e5,hp4⟩:=ht hg
   obtain ⟨τ',e,hp⟩:=dY P g f (ds:=ds) (τ:=τ4) hp4 fun d hd=>hs d (C6 _ hd)
   refine ⟨τ',?_,hp⟩
   unfold bV
   rw [hg] at e2
   simp [e1,af,e2,e3,e4,e,List.filter_cons,hg,bF,e5]
noncomputable abbrev Tri:=Nat × Nat × Nat
noncomputable def li (i j m:Nat):List Tri:=(List.range m).map fun k=>(i,j,j+1+k)
noncomputable def jG (n i m:Nat):List Tri:=(List.range m).flatMap fun j=>li i (i+1+j) (n - (i+1+j+1))
noncomputable def m8 (n m:Nat):List Tri:=(List.range m).flatMap fun i=>jG n i (n - (i+1))
noncomputable def aU (n:Nat):List Tri:=m8 n n
theorem qg (i j m:Nat):(li i j m).length=m:=by simp [li]
theorem nN (n i m:Nat):jG n i (m+1)=jG n i m ++ li i (i+1+m) (n - (i+1+m+1)):=by simp [jG,List.range_succ,List.flatMap_append]
theorem nO (n m:Nat):m8 n (m+1)=m8 n m ++ jG n m (n - (m+1)):=by simp [m8,List.range_succ,List.flatMap_append]
theorem xF {i j m:Nat} {t:Tri} (h:t ∈ li i j m):t.1=i/\t.2.1=j/\j < t.2.2/\t.2.2 < j+1+m:=by
 obtain ⟨k,hk,rfl⟩:=Dk.mp h
 rw [List.mem_range] at hk
 exact ⟨rfl,rfl,by show j < j+1+k;omega,by show j+1+k < j+1+m;omega⟩
theorem gx {n:Nat} {t:Tri} (h:t ∈ aU n):t.1 < t.2.1/\t.2.1 < t.2.2/\t.2.2 < n:=by
 obtain ⟨i,hi,h⟩:=DL.mp h
 obtain ⟨j,hj,h⟩:=DL.mp h
 rw [List.mem_range] at hi hj
 obtain ⟨h1,h2,h3,h4⟩:=xF h
 exact ⟨by omega,by omega,by omega⟩
theorem tJ (n i m:Nat):(jG n i m).length<=m * n:=by
 induction m with
 | zero=>simp [jG]
 | succ m ih=>rw [nN,Dw,qg,Nat.succ_mul];omega
theorem zk (n m:Nat):(m8 n m).length<=m * (n * n):=by
 induction m with
 | zero=>simp [m8]
 | succ m ih =>
  rw [nO,Dw,Nat.succ_mul]
  have:=tJ n m (n - (m+1))
  have h2:(n - (m+1)) * n<=n * n:=Nat.mul_le_mul (by omega) (Dm _)
  omega
theorem l6 {n m:Nat} (hn:n<=25) (hm:m<=25):(m8 n m).length<=15625:=by
 have h1:=zk n m
 have h2:n * n<=25 * 25:=Nat.mul_le_mul hn hn
 have h3:m * (n * n)<=25 * (25 * 25):=Nat.mul_le_mul hm h2
 omega
theorem rV {n i m:Nat} (hn:n<=25) (hm:m<=25):(jG n i m).length<=625:=by
 have h1:=tJ n i m
 have h2:m * n<=25 * 25:=Nat.mul_le_mul hm hn
 omega
noncomputable abbrev Td (t:Tri):L3.D:=.tup [.int t.1,.int t.2.1,.int t.2.2]
noncomputable abbrev Shd (ps:List Pt):L3.D:=.tup (ps.map Pd)
theorem aT {im:IM} {bnd:L3.D->Sto->Option Sto} {c:M3 Bool} {elt:EM} {ix:List (Option Nat)} {ρ ρ1 ρ2 τ:Sto} {rs:List R3} {ds out:List L3.D} (h1:im ρ=some (.ok (rs,ds),ρ1)) (h2:bV bnd c elt ds (sP ix (aZ eR (us ρ1 (pls rs)) ρ1))=some (.ok out,τ)) (h3:ds.length < 16777216) (h4:uncap ix τ (aZ eR (us ρ1 (pls rs)) ρ1)=some ρ2) :
  bL im bnd c elt ix ρ=some (.ok (.val (.lst out) .u),aZ ju (us ρ1 (pls rs)) ρ2):=by
 simp [bL,af,h1,h2,h3,h4]
theorem rq:∀ {ds:List L3.D},(∀ d ∈ ds,d=.bl true)->km ds=some (List.replicate ds.length true)
 | [],_=>rfl
 | d :: ds,h=>by
  have h1:=h d C5
  subst h1
  have h2:=rq fun d hd=>h d (C6 _ hd)
  simp [km,h2,List.replicate_succ]
theorem fB {ds:List L3.D} (h:∀ d ∈ ds,d=.bl true):s9 (.lst ds)=some (.bl true,.z):=by
 simp [s9,rq h]
theorem lJ {xs:List L3.D} {i:Nat} {d:L3.D} (h:xs[i]?=some d):L2.atI xs (i:Int)=some d:=by
 obtain ⟨h1,h2⟩:=Dh.mp h
 simp [L2.atI,ixN,h1,h2]
theorem sY {ps:List Pt} {i:Nat} {p:Pt} (h:ps[i]?=some p):L2.atI (ps.map Pd) (i:Int)=some (Pd p):=lJ (by simp [h])
theorem xZ {f:List L3.D->Option (List L3.D)} {ms:M3 (List R3)} {ρ ρ1 ρ2:Sto} {rs:List R3} {ds xs:List L3.D} (h1:ms ρ=some (.ok rs,ρ1)) (h2:ik rs ρ1=some (.ok ds,ρ2)) (h3:f ds=some xs):bm f ms ρ=some (.ok ([],xs),ρ2):=by
 simp [bm,af,h1,h2,h3,bD]
theorem jl {a b:Int} (ha:-1000<=a/\a<=1000) (hb:-1000<=b/\b<=1000) {n:Nat} (hn:(b - a).toNat=n):gj [.int a,.int b]=some (bc a n):=by
 have lm:du a=true:=Dr (by omega)
 have lm2:du b=true:=Dr (by omega)
 show (if (du a && du b)=true then some (bc a (b - a).toNat) else none)=_
 rw [lm,lm2,hn]
 exact if_pos rfl
theorem dL {b:Int} (hb:-1000<=b/\b<=1000) {n:Nat} (hn:b.toNat=n):dC [.int b]=some (bc 0 n):=by
 have lm2:du b=true:=Dr (by omega)
 show (if (du b)=true then some (bc 0 b.toNat) else none)=_
 rw [lm2,hn]
 exact if_pos rfl
end Bn
end
section
namespace Bn
open PySem L2 L3
section
variable {α:Type} {ρ ρ1 ρ2 ρ3:Sto} {ma mb mc m:EM} {ms:M3 (List R3)} {ra rb r:R3} {rs:List R3} {da db d:L3.D} {ds:List L3.D} {fl:Fl} {i n np:Nat} {sa sb:SM} {c cc:M3 Bool} {b b2:Bool} {x:Option (Except L3.D Flw × Sto)} {y:Option (Except L3.D R3 × Sto)}
theorem cU {p:L3.D × Fl} (h:(ρ[i]?).join=some p):ac i ρ=some (.ok (.pl i),ρ):=by simp [ac,h]
theorem i_c:mC d ρ=some (.ok (.val d .z),ρ):=rfl
theorem gH {f:L3.D->L3.D->Option (L3.D × Fl)} (h1:ma ρ=some (.ok ra,ρ1)) (h2:mb ρ1=some (.ok rb,ρ2)) (h3:der ra ρ2=some (.ok da,ρ2)) (h4:der rb ρ2=some (.ok db,ρ2)) (h5:f da db=some (d,fl)):ah f ma mb ρ=some (.ok (.val d fl),ρ2):=by
 simp only [ah,af,h1,h2,h3,h4,bD,h5,Dz]
theorem i_un {f:L3.D->Option (L3.D × Fl)} (h1:ma ρ=some (.ok ra,ρ1)) (h3:der ra ρ1=some (.ok da,ρ1)) (h5:f da=some (d,fl)):mUn f ma ρ=some (.ok (.val d fl),ρ1):=by
 simp only [mUn,af,h1,h3,bD,h5,Dz]
theorem hV {f:List L3.D->Option (L3.D × Fl)} (h1:ms ρ=some (.ok rs,ρ1)) (h3:ik rs ρ1=some (.ok ds,ρ1)) (h5:f ds=some (d,fl)):aD f ms ρ=some (.ok (.val d fl),ρ1):=by
 simp only [aD,af,h1,h3,bD,h5,Dz]
theorem gF:ai ρ=some (.ok [],ρ):=rfl
theorem eD (h1:m ρ=some (.ok r,ρ1)) (h2:ms ρ1=some (.ok rs,ρ2)):ab m ms ρ=some (.ok (r :: rs),ρ2):=by
 simp only [ab,af,h1,h2,bF]
theorem pi {mk:List L3.D->L3.D} {f:Fl} (h1:ms ρ=some (.ok rs,ρ1)) (h2:gives rs ρ1=some (.ok ds,ρ2)) (h3:ds.length<=16777216):Ag mk f ms ρ=some (.ok (.val (mk ds) f),ρ2):=by
 simp only [Ag,af,h1,h2,bD,h3,if_true,Dz]
theorem au {F:Fn} {ps qs:List (L3.D × Fl)} (hF:F ps=some (.ok (d,fl),qs)) (h1:ms ρ=some (.ok rs,ρ1)) (h2:prs (frz (qQ rs) ρ1) rs=some ps) (h3:qs.length=ps.length) (h4:back rs ps qs (frz (qQ rs) ρ1) = ρ2):am F ms ρ=some (.ok (.val d fl),ρ2):=by
 simp only [am,af,h1,h2,hF,h3,if_true,h4]
theorem ub {p:L3.D × Fl} (h1:m ρ=some (.ok r,ρ1)) (h2:fU r ρ1=some (.ok p,ρ2)) (h3:i < ρ2.length) (h4:ρ2.set i (some p) = ρ3):bd i m ρ=some (.ok .nx,ρ3):=by
 simp only [bd,af,h1,h2,h3,if_true,h4]
theorem i_asg {bnd:L3.D->Sto->Option Sto} {p:L3.D × Fl} (h1:m ρ=some (.ok r,ρ1)) (h2:fU r ρ1=some (.ok p,ρ2)) (h3:bnd p.1 ρ2=some ρ3):wH bnd m ρ=some (.ok .nx,ρ3):=by
 simp only [wH,af,h1,h2,h3,Dz]
theorem CF (h1:m ρ=some (.ok r,ρ1)):fH m ρ=some (.ok .nx,ρ1):=by
 simp only [fH,af,h1,bF]
noncomputable def retF (np:Nat) (r:R3):SM:=ba np (bF r)
theorem cV (h1:m ρ=some (.ok r,ρ1)) (h2:retF np r ρ1=x):ba np m ρ=x:=by
 rw [<- h2]
 unfold retF
 simp only [ba,af,h1,bF]
theorem oF (h1:sa ρ=some (.ok (.rt d fl),ρ1)):aK sa sb ρ=some (.ok (.rt d fl),ρ1):=by
 simp only [aK,af,h1,bF]
theorem vB (h1:m ρ=some (.ok r,ρ1)) (h2:der r ρ1=some (.ok (.bl b),ρ1)):cB m ρ=some (.ok b,ρ1):=by
 simp only [cB,af,h1,h2,bD,asB,Dz]
theorem ib (h1:c ρ=some (.ok b,ρ1)):jc c ρ=some (.ok (!b),ρ1):=by
 simp only [jc,af,h1,bF]
theorem mL (h1:c ρ=some (.ok b,ρ1)) (hb:b=true) (h2:sa ρ1=x):sIf c sa sb ρ=x:=by
 subst hb;simp only [sIf,af,h1,if_true];exact h2
theorem c8 (h1:c ρ=some (.ok b,ρ1)) (hb:b=false) (h2:sb ρ1=x):sIf c sa sb ρ=x:=by
 subst hb;simp only [sIf,af,h1,DC,if_false];exact h2
theorem k7 (h1:c ρ=some (.ok b,ρ1)) (hb:b=false) (h2:cc ρ1=some (.ok b2,ρ2)):cOr c cc ρ=some (.ok b2,ρ2):=by
 subst hb;simp only [cOr,af,h1,DC,if_false];exact h2
theorem CG (h1:c ρ=some (.ok b,ρ1)) (hb:b=true) (h2:cc ρ1=some (.ok b2,ρ2)):sU c cc ρ=some (.ok b2,ρ2):=by
 subst hb;simp only [sU,af,h1,if_true];exact h2
theorem CH (h1:c ρ=some (.ok b,ρ1)) (hb:b=false):sU c cc ρ=some (.ok false,ρ1):=by
 subst hb;simp only [sU,af,h1,DC,if_false];rfl
theorem jr (h1:ma ρ=some (.ok r,ρ1)) (h2:der r ρ1=some (.ok (.bl b),ρ1)) (hb:b=true) (h3:mb ρ1=y):i5 ma mb ρ=y:=by
 subst hb;simp only [i5,af,h1,h2,bD,asB,Dz,if_true];exact h3
theorem Au (h1:ma ρ=some (.ok r,ρ1)) (h2:der r ρ1=some (.ok (.bl b),ρ1)) (hb:b=false):i5 ma mb ρ=some (.ok (.val (.bl false) .z),ρ1):=by
 subst hb;simp only [i5,af,h1,h2,bD,asB,Dz,DC,if_false];rfl
theorem CA (h1:ma ρ=some (.ok r,ρ1)) (h2:der r ρ1=some (.ok (.bl b),ρ1)) (hb:b=true):mOr ma mb ρ=some (.ok (.val (.bl true) .z),ρ1):=by
 subst hb;simp only [mOr,af,h1,h2,bD,asB,Dz,if_true];rfl
theorem CB (h1:ma ρ=some (.ok r,ρ1)) (h2:der r ρ1=some (.ok (.bl b),ρ1)) (hb:b=false) (h3:mb ρ1=y):mOr ma mb ρ=y:=by
 subst hb;simp only [mOr,af,h1,h2,bD,asB,Dz,DC,if_false];exact h3
theorem CC (h1:c ρ=some (.ok b,ρ1)) (hb:b=true) (h2:ma ρ1=y):mIf c ma mb ρ=y:=by
 subst hb;simp only [mIf,af,h1,if_true];exact h2
theorem CD (h1:c ρ=some (.ok b,ρ1)) (hb:b=false) (h2:mb ρ1=y):mIf c ma mb ρ=y:=by
 subst hb;simp only [mIf,af,h1,DC,if_false];exact h2
theorem i_sl {f:L3.D->Option Int->Option Int->Option (L3.D × Fl)} {pl pu:M3 (Option Int)} {lo hi:Option Int} (h1:ma ρ=some (.ok ra,ρ1)) (h2:pl ρ1=some (.ok lo,ρ2)) (h3:pu ρ2=some (.ok hi,ρ3)) (h4:der ra ρ3=some (.ok da,ρ3)) (h5:f da lo hi=some (d,fl)):mSl f ma pl pu ρ=some (.ok (.val d fl),ρ3):=by
 simp only [mSl,af,h1,h2,h3,h4,bD,h5,Dz]
theorem At:tW ρ=some (.ok none,ρ):=rfl
theorem As {k:Int} (h1:m ρ=some (.ok r,ρ1)) (h2:der r ρ1=some (.ok (.int k),ρ1)):j5 m ρ=some (.ok (some k),ρ1):=by
 simp only [j5,af,h1,h2,bD,asI,Dz]
theorem i_mut {ok:L3.D->Bool} {f:L3.D->List L3.D->Option (L3.D × L3.D)} {d2 d3 d4:L3.D} (h0:(ρ[i]?).join=some (d,fl)) (hk:ok d=true) (h1:ms ρ=some (.ok rs,ρ1)) (h2:gives rs ρ1=some (.ok ds,ρ2)) (h3:(ρ2[i]?).join=some (d2,.u)) (h4:f d2 ds=some (d3,d4)) (h5:ρ2.set i (some (d3,.u)) = ρ3):sE ok f i ms ρ=some (.ok (.val d4 .z),ρ3):=by
 simp only [sE,af,cU h0,chk,h0,hk,if_true,h1,h2,h3,h4,h5]
theorem x4 {f:L3.D->List L3.D->Option (L3.D × L3.D)} {d2 d3 d4:L3.D} (h1:mb ρ=some (.ok rb,ρ1)) (h0:(ρ1[i]?).join=some (d,fl)) (h2:ma ρ1=some (.ok ra,ρ2)) (h3:gives [ra,rb] ρ2=some (.ok ds,ρ3)) (h4:(ρ3[i]?).join=some (d2,.u)) (h5:f d2 ds=some (d3,d4)):rN f i ma mb ρ=some (.ok .nx,ρ3.set i (some (d3,.u))):=by
 simp only [rN,af,h1,cU h0,h2,h3,h4,h5]
theorem aY {mask:List Bool} {ps qs:List (L3.D × Fl)} (h1:ps.length=mask.length) (h0:k8 n (List.zipWith vt mask ps) = ρ) (h2:sa ρ=some (.ok (.rt d fl),ρ1)) (h3:jx ρ1 0 (List.zipWith vt mask ps)=some qs):fnM mask n sa ps=some (.ok (d,fl),qs):=by
 subst h0;simp only [fnM,h1,if_true,fn0,h2,h3,Dz]
theorem AJ {mask:List Bool} {ps qs:List (L3.D × Fl)} (h1:ps.length=mask.length) (h0:k8 n (List.zipWith vt mask ps) = ρ) (h2:sa ρ=some (.ok .nx,ρ1)) (h3:jx ρ1 0 (List.zipWith vt mask ps)=some qs):fnM mask n sa ps=some (.ok (.non,.z),qs):=by
 subst h0;simp only [fnM,h1,if_true,fn0,h2,h3,Dz]
theorem iQ {i j:Int} (h:-18446744073709551616 < i/\i < 18446744073709551616):fS (.int i) (.int j)=some (.int (i * j),.z):=by
 simp [fN,h]
theorem qw {i j:Int} (h:-18446744073709551616 < j/\j < 18446744073709551616):fS (.int i) (.int j)=some (.int (i * j),.z):=by
 simp [fN,h]
theorem gG {im:IM} {bnd:L3.D->Sto->Option Sto} {o:Except L3.D Flw} (h1:im ρ=some (.ok (rs,ds),ρ1)) (hp:us ρ1 (pls rs)=[]) (h2:ic bnd sb ds ρ1=some (o,ρ2)):fQ im bnd sb ρ=some (o,ρ2):=by
 have h4:∀ f ρ,aZ f [] ρ = ρ:=fun _ _=>rfl
 simp only [fQ,af,h1,hp,h4,h2,Dz]
theorem uc (h1:m ρ=some (.ok r,ρ1)) (h2:der r ρ1=some (.ok d,ρ1)) (h3:AT d=some ds):cT m ρ=some (.ok ([r],ds),ρ1):=by
 simp only [cT,af,h1,h2,bD,h3,Dz]
theorem dw {f:List L3.D->Option (List L3.D)} {xs:List L3.D} (h1:ms ρ=some (.ok rs,ρ1)) (h2:ik rs ρ1=some (.ok ds,ρ1)) (h3:f ds=some xs):bm f ms ρ=some (.ok ([],xs),ρ1):=xZ h1 h2 h3
end
theorem bE {α:Type} {bnd:L3.D->Sto->Option Sto} {c:M3 Bool} {elt:EM} (P:Sto->Prop) (D:α->L3.D) (g:α->Bool) (f:α->L3.D):∀ {xs:List α} {τ:Sto},P τ ->
  (∀ x ∈ xs,∀ τ,P τ->∃ τ1 τ2,bnd (D x) τ=some τ1/\c τ1=some (.ok (g x),τ2)/\(g x=false->P τ2)/\(g x=true->∃ r τ3 p τ4,elt τ2=some (.ok r,τ3)/\fU r τ3=some (.ok p,τ4)/\p.1=f x/\P τ4)) ->
  ∃ τ',bV bnd c elt (xs.map D) τ=some (.ok ((xs.filter g).map f),τ')/\P τ'
 | [],τ,h0,_=>⟨τ,rfl,h0⟩
 | x :: xs,τ,h0,hs=>by
  obtain ⟨τ1,τ2,e1,e2,hf,ht⟩:=hs x C5 τ h0
  cases hg:g x with
  | false =>
   obtain ⟨τ',e,hp⟩:=bE P D g f (xs:=xs) (τ:=τ2) (hf hg) fun d hd=>hs d (C6 _ hd)
   refine ⟨τ',?_,hp⟩
   rw [Dq]
   unfold bV
   rw [hg] at e2
   simp [e1,af,e2,e,List.filter_cons,hg]
  | true =>
   obtain ⟨r,τ3,p,τ4,e3,e4,e5,hp4⟩:=ht hg
   obtain ⟨τ',e,hp⟩:=bE P D g f (xs:=xs) (τ:=τ4) hp4 fun d hd=>hs d (C6 _ hd)
   refine ⟨τ',?_,hp⟩
   rw [Dq]
   unfold bV
   rw [hg] at e2
   simp [e1,af,e2,e3,e4,e,List.filter_cons,hg,bF,e5]
section
variable {α:Type} {P:List α->Prop} {us:List α}
theorem bnd0 (h:us.length=0) (f:P []):P us:=by
 cases us with
 | nil=>exact f
 | cons a us=>cases h
theorem CV {n:Nat} (h:us.length=n+1) (f:∀ a r,r.length=n->P (a :: r)):P us:=by
 cases us with
 | nil=>cases h
 | cons a us=>exact f a us (Nat.succ.inj h)
theorem bnd1 (h:us.length=1) (f:∀ a,P [a]):P us:=CV h fun a _ h=>bnd0 (P:=fun r=>P (a :: r)) h (f a)
theorem bnd2 (h:us.length=2) (f:∀ a b,P [a,b]):P us:=CV h fun a _ h=>bnd1 (P:=fun r=>P (a :: r)) h (f a)
theorem bnd3 (h:us.length=3) (f:∀ a b c,P [a,b,c]):P us:=CV h fun a _ h=>bnd2 (P:=fun r=>P (a :: r)) h (f a)
end
theorem hb1 {x:Str} {st:Stmt} {p0:Str} (f:∀ (kV doc pm:Value) (an:Option Addr) (cdv ct a0:Value),bindArgs (PySem.W.fnOf x x (bT st) (bq st) (aj st) .none kV doc pm an cdv ct) ⟨[a0],[]⟩=pure ([p0].zip [a0])) (kV doc pm:Value) (an:Option Addr) (cdv ct:Value) (us:List Value) (hl:us.length=[p0].length):bindArgs (PySem.W.fnOf x x (bT st) (bq st) (aj st) .none kV doc pm an cdv ct) ⟨us,[]⟩=pure ([p0].zip us) :=
 bnd1 (P:=fun us=>bindArgs (PySem.W.fnOf x x (bT st) (bq st) (aj st) .none kV doc pm an cdv ct) ⟨us,[]⟩=pure ([p0].zip us)) hl (f kV doc pm an cdv ct)
theorem hb2 {x:Str} {st:Stmt} {p0 p1:Str} (f:∀ (kV doc pm:Value) (an:Option Addr) (cdv ct a0 a1:Value),bindArgs (PySem.W.fnOf x x (bT st) (bq st) (aj st) .none kV doc pm an cdv ct) ⟨[a0,a1],[]⟩=pure ([p0,p1].zip [a0,a1])) (kV doc pm:Value) (an:Option Addr) (cdv ct:Value) (us:List Value) (hl:us.length=[p0,p1].length):bindArgs (PySem.W.fnOf x x (bT st) (bq st) (aj st) .none kV doc pm an cdv ct) ⟨us,[]⟩=pure ([p0,p1].zip us) :=
 bnd2 (P:=fun us=>bindArgs (PySem.W.fnOf x x (bT st) (bq st) (aj st) .none kV doc pm an cdv ct) ⟨us,[]⟩=pure ([p0,p1].zip us)) hl (f kV doc pm an cdv ct)
theorem hb3 {x:Str} {st:Stmt} {p0 p1 p2:Str} (f:∀ (kV doc pm:Value) (an:Option Addr) (cdv ct a0 a1 a2:Value),bindArgs (PySem.W.fnOf x x (bT st) (bq st) (aj st) .none kV doc pm an cdv ct) ⟨[a0,a1,a2],[]⟩=pure ([p0,p1,p2].zip [a0,a1,a2])) (kV doc pm:Value) (an:Option Addr) (cdv ct:Value) (us:List Value) (hl:us.length=[p0,p1,p2].length):bindArgs (PySem.W.fnOf x x (bT st) (bq st) (aj st) .none kV doc pm an cdv ct) ⟨us,[]⟩=pure ([p0,p1,p2].zip us) :=
 bnd3 (P:=fun us=>bindArgs (PySem.W.fnOf x x (bT st) (bq st) (aj st) .none kV doc pm an cdv ct) ⟨us,[]⟩=pure ([p0,p1,p2].zip us)) hl (f kV doc pm an cdv ct)
end Bn
end
section
namespace Bn
open PySem L2 L3
local macro_rules | `(tactic| infer_instance)=>`(tactic| first | with_reducible apply cU | with_reducible exact i_c | with_reducible apply gH | with_reducible apply i_un | with_reducible apply hV | with_reducible exact gF | with_reducible apply eD | with_reducible apply pi | with_reducible apply ub | with_reducible apply i_asg | with_reducible apply CF | with_reducible apply cV | with_reducible exact i_nilS | with_reducible apply vB | with_reducible apply ib | with_reducible apply i_mNot | with_reducible apply i_sl | with_reducible exact At | with_reducible apply As | with_reducible apply i_mut | with_reducible apply x4 | with_reducible apply uc | with_reducible apply dw | with_reducible apply jr | with_reducible apply k7)
local macro_rules | `(tactic| eq_refl)=>`(tactic| first | exact rfl | exact Nat.le_of_ble_eq_true rfl)
section
variable {X:Cx} {G0:Gm} {W0:L3.D->Sto->Prop} {pos:Pos}
theorem rvl (i:Nat) {x:Str} (hN:X.N[i]?=some x:=by exact rfl) (hv:Vis X.env.scope x:=by exact Or.inl rfl) (hd:(x == ("__debug__":Str))=false:=by decide) (hc:(x == ("__classdict__":Str))=false:=by decide):RE X G0 W0 (.Name x pos) (ac i):=wY i hN hv hd hc
theorem rvc (i:Nat) {x:Str} (hN:X.N[i]?=some x:=by exact rfl) (hv:Vis X.env.scope x:=by exact Or.inr (Or.inl rfl)) (hd:(x == ("__debug__":Str))=false:=by decide) (hc:(x == ("__classdict__":Str))=false:=by decide):RE X G0 W0 (.Name x pos) (ac i):=wY i hN hv hd hc
end
section
variable {P:Program} {w:World} {K:FG} {mg:Str->Option Value} {base:Heap}
noncomputable def sA:SM:=(ba 1 (i5 (mUn (sK "int") (ac 0)) (Cq (mUn (sK "bool") (ac 0)))))
noncomputable def bj:Fn:=fnM [false] 1 sA
theorem p8:FnScope ["thing"] ["thing"] (aj gO):=⟨rfl,rfl,rfl,by decide +kernel,rfl,by decide +kernel,by decide +kernel⟩
theorem pD (B:Bl mg) (D:Def K mg "is_whole" gO):aG P w K mg base "is_whole" 1 ["thing"] bj :=
 aP (k:=0) D p8 rfl rfl (hb1 fun _ _ _ _ _ _ _=>rfl) fun cdv A outer s H E f G hr hp =>
  (ak (aH 1 (fun i hi=>by rw [hp];exact aC (by simpa using hi)) (gS (ky pw rfl B.isinstance (jn (v:=V.ty "int") rfl B.int b_int rfl (by decide) (by decide)) (rvl 0) rfl rfl rfl) (iJ (BN (ky nq rfl B.isinstance (jn (v:=V.ty "bool") rfl B.bool CZ rfl (by decide) (by decide)) (rvl 0) rfl rfl rfl))))))
noncomputable def sC:SM:=(ba 1 (i5 (mUn (sK "tuple") (ac 0)) (i5 (ah eqX (aD eS (ab (ac 0) ai)) (mC (.int 2))) (i5 (am bj (ab (ah aB (ac 0) (mC (.int 0))) ai)) (am bj (ab (ah aB (ac 0) (mC (.int 1))) ai))))))
noncomputable def ir:Fn:=fnM [false] 1 sC
theorem qa:FnScope ["thing"] ["thing"] (aj gQ):=⟨rfl,rfl,rfl,by decide +kernel,rfl,by decide +kernel,by decide +kernel⟩
theorem pF (B:Bl mg) (D:Def K mg "is_point" gQ) (C_is_whole:aG P w K mg base "is_whole" 1 ["thing"] bj):aG P w K mg base "is_point" 2 ["thing"] ir :=
 aP (k:=1) D qa rfl rfl (hb1 fun _ _ _ _ _ _ _=>rfl) fun cdv A outer s H E f G hr hp =>
  (ak (aH 1 (fun i hi=>by rw [hp];exact aC (by simpa using hi)) (gS (ky dZ rfl B.isinstance (jn (v:=V.ty "tuple") rfl B.tuple cS rfl (by decide) (by decide)) (rvl 0) rfl rfl rfl) (gS (gl (cH hr.units) cI (aI aF cb rfl B.len dy (aa (rvl 0) ad rfl) (by decide) (by decide) rfl rfl) ae (aS _)) (gS (al C_is_whole (hr.mono (by decide)) (aa (aE (aA hr.hu) ay (rvl 0) ae (fun _ _=>rfl)) ad rfl) rfl (by decide) rfl rfl) (iJ (al C_is_whole (hr.mono (by decide)) (aa (aE (aA hr.hu) ay (rvl 0) ae (fun _ _=>rfl)) ad rfl) rfl (by decide) rfl rfl)))))))
noncomputable def sD:SM:=(ba 2 (i5 (am bj (ab (ac 0) ai)) (iZ leI ltI (mC (.int 0)) (ac 0) (ac 1))))
noncomputable def iu:Fn:=fnM [false,false] 2 sD
theorem qb:FnScope ["thing","many"] ["thing","many"] (aj gR):=⟨rfl,rfl,rfl,by decide +kernel,rfl,by decide +kernel,by decide +kernel⟩
theorem pG (B:Bl mg) (D:Def K mg "is_place" gR) (C_is_whole:aG P w K mg base "is_whole" 1 ["thing"] bj):aG P w K mg base "is_place" 2 ["thing","many"] iu :=
 aP (k:=1) D qb rfl rfl (hb2 fun _ _ _ _ _ _ _ _=>rfl) fun cdv A outer s H E f G hr hp =>
  (ak (aH 2 (fun i hi=>by rw [hp];exact aC (by simpa using hi)) (gS (al C_is_whole (hr.mono (by decide)) (aa (rvl 0) ad rfl) rfl (by decide) rfl rfl) (iJ (qk j6 nV mo nU ae (rvl 0) (rvl 1) (fun h1 h2 h3=>qr j6 mo h1 h2 h3))))))
noncomputable def bJ:EM:=(am iu (ab (ac 0) (ab (ac 1) ai)))
noncomputable def dS:EM:=(bL (cT (ac 0)) (aw 0) ce bJ [none,some 1])
noncomputable def bI:EM:=(ah ltI (ah aB (ac 1) (ac 0)) (ah aB (ac 1) (ah cv (ac 0) (mC (.int 1)))))
noncomputable def dR:EM:=(bL (bm dC (ab (ah gh (aD eS (ab (ac 0) ai)) (mC (.int 1))) ai)) (aw 0) ce bI [none,some 0])
noncomputable def fe:SM:=(aK (sIf (cOr (jc (cB (mUn (sK "tuple") (ac 0)))) (jc (cB (aD pK (ab dS ai))))) (ba 2 (mC (.bl false))) d9) (ba 2 (aD pK (ab dR ai))))
noncomputable def b7:Fn:=fnM [false,false] 2 fe
theorem iH:FnScope ["thing","many"] ["thing","many"] (aj b6):=⟨rfl,rfl,rfl,by decide +kernel,rfl,by decide +kernel,by decide +kernel⟩
theorem iC (B:Bl mg) (D:Def K mg "are_rising_places" b6) (C_is_place:aG P w K mg base "is_place" 2 ["thing","many"] iu):aG P w K mg base "are_rising_places" 3 ["thing","many"] b7 :=
 aP (k:=2) D iH rfl rfl (hb2 fun _ _ _ _ _ _ _ _=>rfl) fun cdv A outer s H E f G hr hp =>
  (ag (cZ (qe (lZ (eh (eX (ky dZ rfl B.isinstance (jn (v:=V.ty "tuple") rfl B.tuple cS rfl (by decide) (by decide)) (rvc 0) rfl rfl rfl) (fun _=>rfl))) (jE (eh (eX (aI (eU rfl) ja rfl B.all la (aa (bf ["place","many"] [none,some 1] rfl (cX (rvc 0)) (fun s H C fp=>bv) (fun s H C fp=>(al C_is_place (hr.mono (by decide)) (aa (rvl 0) (aa (rvc 1) ad rfl) rfl) rfl (by decide) rfl rfl)) (by rfl) (bQ (by decide)) (fun _=>rfl) ⟨_,aO rfl,fun s H C fp=>aW (i:=0) (show (["place","many"]:List Str).Nodup by decide +kernel) rfl (Or.inl rfl) (Or.inr rfl)⟩) ad rfl) (by decide) (by decide) rfl rfl) (fun _=>rfl)))))) (ak (aH 2 (fun i hi=>by rw [hp];exact aC (by simpa using hi)) fY)) bo) (ak (aH 2 (fun i hi=>by rw [hp];exact aC (by simpa using hi)) (aI (eU rfl) ja rfl B.all la (aa (bf ["at","thing"] [none,some 0] rfl (df rfl B.range (aa (av b8 bz (aI aF cb rfl B.len dy (aa (rvc 0) ad rfl) (by decide) (by decide) rfl rfl) ae) ad rfl) rfl) (fun s H C fp=>bv) (fun s H C fp=>(gl mo nU (aE (aA hr.hu) ay (rvc 1) (rvl 0) (fun _ _=>rfl)) (aE (aA hr.hu) ay (rvc 1) (av aV bh (rvl 0) ae) (fun _ _=>rfl)) (aS _))) (by rfl) (bQ (by decide)) (fun _=>rfl) ⟨_,aO rfl,fun s H C fp=>aW (i:=0) (show (["at","thing"]:List Str).Nodup by decide +kernel) rfl (Or.inl rfl) (Or.inr rfl)⟩) ad rfl) (by decide) (by decide) rfl rfl))))
noncomputable def nh:SM:=(sIf (jc (cB (am bj (ab (ac 0) ai)))) lY d9)
noncomputable def eP:Fn:=fnM [false] 1 nh
theorem lV:FnScope ["thing"] ["thing"] (aj eK):=⟨rfl,rfl,rfl,by decide +kernel,rfl,by decide +kernel,by decide +kernel⟩
theorem lx (B:Bl mg) (D:Def K mg "check_whole" eK) (C_is_whole:aG P w K mg base "is_whole" 1 ["thing"] bj):aG P w K mg base "check_whole" 2 ["thing"] eP :=
 aP (k:=1) D lV rfl rfl (hb1 fun _ _ _ _ _ _ _=>rfl) fun cdv A outer s H E f G hr hp =>
  (ak (cZ (eh (eX (al C_is_whole (hr.mono (by decide)) (aa (rvl 0) ad rfl) rfl (by decide) rfl rfl) (fun _=>rfl))) (ak jW) bo))
noncomputable def mI:SM:=(sIf (cOr (jc (cB (am bj (ab (ac 0) ai)))) (jc (cB (iZ leI leI (ac 1) (ac 0) (ac 2))))) lY d9)
noncomputable def cf:Fn:=fnM [false,false,false] 3 mI
theorem lh:FnScope ["thing","least","most"] ["thing","least","most"] (aj dG):=⟨rfl,rfl,rfl,by decide +kernel,rfl,by decide +kernel,by decide +kernel⟩
theorem kO (B:Bl mg) (D:Def K mg "check_number" dG) (C_is_whole:aG P w K mg base "is_whole" 1 ["thing"] bj):aG P w K mg base "check_number" 2 ["thing","least","most"] cf :=
 aP (k:=1) D lh rfl rfl (hb3 fun _ _ _ _ _ _ _ _ _=>rfl) fun cdv A outer s H E f G hr hp =>
  (ak (cZ (qe (lZ (eh (eX (al C_is_whole (hr.mono (by decide)) (aa (rvl 0) ad rfl) rfl (by decide) rfl rfl) (fun _=>rfl))) (jE (eh (wU j6 nV j6 nV (rvl 1) (rvl 0) (rvl 2) (by with_unfolding_all rfl)))))) (ak jW) bo))
noncomputable def eZ:EM:=(am ir (ab (ac 0) ai))
noncomputable def iz:EM:=(bL (cT (ac 0)) (aw 0) ce eZ [none])
noncomputable def o6:SM:=(ba 1 (i5 (iZ leI leI (mC (.int 1)) (aD eS (ab (ac 0) ai)) (mC (.int (24)))) (aD pK (ab iz ai))))
noncomputable def fy:Fn:=fnM [false] 1 o6
theorem m7:FnScope ["things"] ["things"] (aj fi):=⟨rfl,rfl,rfl,by decide +kernel,rfl,by decide +kernel,by decide +kernel⟩
theorem mT (B:Bl mg) (D:Def K mg "are_points" fi) (C_is_point:aG P w K mg base "is_point" 2 ["thing"] ir) {tk_MOST_POINTS:Tok} (Q_MOST_POINTS:mg "MOST_POINTS"=some (.int (24) tk_MOST_POINTS)):aG P w K mg base "are_points" 3 ["things"] fy :=
 aP (k:=2) D m7 rfl rfl (hb1 fun _ _ _ _ _ _ _=>rfl) fun cdv A outer s H E f G hr hp =>
  (ak (aH 1 (fun i hi=>by rw [hp];exact aC (by simpa using hi)) (gS (qk j6 nV j6 nV ae (aI aF cb rfl B.len dy (aa (rvl 0) ad rfl) (by decide) (by decide) rfl rfl) (cG rfl Q_MOST_POINTS (by decide)) (fun h1 h2 h3=>qr j6 j6 h1 h2 h3)) (iJ (aI (eU rfl) ja rfl B.all la (aa (bf ["thing"] [none] rfl (cX (rvl 0)) (fun s H C fp=>bv) (fun s H C fp=>(al C_is_point (hr.mono (by decide)) (aa (rvl 0) ad rfl) rfl (by decide) rfl rfl)) (by rfl) (bQ (by decide)) (fun _=>rfl) ⟨_,aO rfl,fun s H C fp=>aW (i:=0) (show (["thing"]:List Str).Nodup by decide +kernel) rfl (Or.inl rfl) (Or.inr rfl)⟩) ad rfl) (by decide) (by decide) rfl rfl)))))
noncomputable def dO:EM:=(ah ltI (ah aB (ah aB (ac 1) (ac 0)) (mC (.int 0))) (ah aB (ah aB (ac 1) (ah cv (ac 0) (mC (.int 1)))) (mC (.int 0))))
noncomputable def gc:EM:=(bL (bm dC (ab (ah gh (aD eS (ab (ac 0) ai)) (mC (.int 1))) ai)) (aw 0) ce dO [none,some 0])
noncomputable def iW:SM:=(ba 1 (aD pK (ab gc ai)))
noncomputable def d6:Fn:=fnM [false] 1 iW
theorem lf:FnScope ["points"] ["points"] (aj dE):=⟨rfl,rfl,rfl,by decide +kernel,rfl,by decide +kernel,by decide +kernel⟩
theorem kM (B:Bl mg) (D:Def K mg "has_rising_x" dE):aG P w K mg base "has_rising_x" 1 ["points"] d6 :=
 aP (k:=0) D lf rfl rfl (hb1 fun _ _ _ _ _ _ _=>rfl) fun cdv A outer s H E f G hr hp =>
  (ak (aH 1 (fun i hi=>by rw [hp];exact aC (by simpa using hi)) (aI (eU rfl) ja rfl B.all la (aa (bf ["at","points"] [none,some 0] rfl (df rfl B.range (aa (av b8 bz (aI aF cb rfl B.len dy (aa (rvc 0) ad rfl) (by decide) (by decide) rfl rfl) ae) ad rfl) rfl) (fun s H C fp=>bv) (fun s H C fp=>(gl mo nU (aE (aA hr.hu) ay (aE (aA hr.hu) ay (rvc 1) (rvl 0) (fun _ _=>rfl)) ae (fun _ _=>rfl)) (aE (aA hr.hu) ay (aE (aA hr.hu) ay (rvc 1) (av aV bh (rvl 0) ae) (fun _ _=>rfl)) ae (fun _ _=>rfl)) (aS _))) (by rfl) (bQ (by decide)) (fun _=>rfl) ⟨_,aO rfl,fun s H C fp=>aW (i:=0) (show (["at","points"]:List Str).Nodup by decide +kernel) rfl (Or.inl rfl) (Or.inr rfl)⟩) ad rfl) (by decide) (by decide) rfl rfl)))
noncomputable def Cp:SM:=(aK (bd 3 (ah fS (ah gh (ah aB (ac 1) (mC (.int 0))) (ah aB (ac 0) (mC (.int 0)))) (ah gh (ah aB (ac 2) (mC (.int 1))) (ah aB (ac 0) (mC (.int 1)))))) (ba 3 (ah gh (ac 3) (ah fS (ah gh (ah aB (ac 1) (mC (.int 1))) (ah aB (ac 0) (mC (.int 1)))) (ah gh (ah aB (ac 2) (mC (.int 0))) (ah aB (ac 0) (mC (.int 0))))))))
noncomputable def iw:Fn:=fnM [false,false,false] 4 Cp
theorem sc_bend:FnScope ["first","second","third","run"] ["first","second","third"] (aj oI):=⟨rfl,rfl,rfl,by decide +kernel,rfl,by decide +kernel,by decide +kernel⟩
theorem yx (B:Bl mg) (D:Def K mg "bend" oI):aG P w K mg base "bend" 1 ["first","second","third"] iw :=
 aP (k:=0) D sc_bend rfl rfl (hb3 fun _ _ _ _ _ _ _ _ _=>rfl) fun cdv A outer s H E f G hr hp =>
  (ag (aJ 3 sc_bend.nd rfl (Or.inl rfl) (av cp bG (av b8 bz (aE (aA hr.hu) ay (rvl 1) ae (fun _ _=>rfl)) (aE (aA hr.hu) ay (rvl 0) ae (fun _ _=>rfl))) (av b8 bz (aE (aA hr.hu) ay (rvl 2) ae (fun _ _=>rfl)) (aE (aA hr.hu) ay (rvl 0) ae (fun _ _=>rfl)))) rfl (Or.inl rfl) (by rw [hp];rfl)) (ak (aH 3 (fun i hi=>by rw [hp];exact aC (by simpa using hi)) (av b8 bz (rvl 3) (av cp bG (av b8 bz (aE (aA hr.hu) ay (rvl 1) ae (fun _ _=>rfl)) (aE (aA hr.hu) ay (rvl 0) ae (fun _ _=>rfl))) (av b8 bz (aE (aA hr.hu) ay (rvl 2) ae (fun _ _=>rfl)) (aE (aA hr.hu) ay (rvl 0) ae (fun _ _=>rfl))))))))
noncomputable def iS:EM:=(cL (ab (ac 1) (ab (ac 2) (ab (ac 0) ai))))
noncomputable def kX:EM:=(bL (bm gj (ab (ah cv (ac 3) (mC (.int 1))) (ab (ac 0) ai))) (aw 0) ce iS [none,some 2,some 3])
noncomputable def iT:SM:=(fH (sE isL vG 1 (ab kX ai)))
noncomputable def kY:SM:=(fQ (bm gj (ab (ah cv (ac 2) (mC (.int 1))) (ab (ac 0) ai))) (aw 3) iT)
noncomputable def xH:SM:=(aK (bd 1 (lp ai)) (aK (fQ (bm dC (ab (ac 0) ai)) (aw 2) kY) (ba 1 (ac 1))))
noncomputable def bZ:Fn:=fnM [false] 4 xH
theorem sc_threes:FnScope ["many","found","i","j"] ["many"] (aj jQ):=⟨rfl,rfl,rfl,by decide +kernel,rfl,by decide +kernel,by decide +kernel⟩
theorem sQ (B:Bl mg) (D:Def K mg "threes" jQ):aG P w K mg base "threes" 1 ["many"] bZ :=
 aP (k:=0) D sc_threes rfl rfl (hb1 fun _ _ _ _ _ _ _=>rfl) fun cdv A outer s H E f G hr hp =>
  (ag (aJ 1 sc_threes.nd rfl (Or.inl rfl) (iK ad) rfl (Or.inl rfl) (by rw [hp];rfl)) (ag (en PassesOwn.never rfl (df rfl B.range (aa (rvl 0) ad rfl) rfl) (cn 2 sc_threes.nd rfl (Or.inr rfl) (Or.inl rfl) (by rw [hp];rfl)) (ak (en PassesOwn.never rfl (jm rfl B.range (aa (av aV bh (rvc 2) ae) (aa (rvl 0) ad rfl) rfl) rfl rfl) (cn 3 sc_threes.nd rfl (Or.inr rfl) (Or.inl rfl) (by rw [hp];rfl)) (ak (dI (oN (ok:=isL) PySem.F.plainAttrs_list PySem.F.slot_list_extend PySem.F.type_list_extend nW xG sL (jH (i:=1) rfl (Or.inl rfl) (by decide) (by decide)) (aa (bf ["k","i","j"] [none,some 2,some 3] rfl (jm rfl B.range (aa (av aV bh (rvc 3) ae) (aa (rvl 0) ad rfl) rfl) rfl rfl) (fun s H C fp=>bv) (fun s H C fp=>(bO (aa (rvc 1) (aa (rvc 2) (aa (rvl 0) ad rfl) rfl) rfl))) (by rfl) (bQ (by decide)) (fun _=>rfl) ⟨_,aO rfl,fun s H C fp=>aW (i:=0) (show (["k","i","j"]:List Str).Nodup by decide +kernel) rfl (Or.inl rfl) (Or.inr rfl)⟩) ad rfl) rfl rfl rfl rfl rfl) rfl)) (fun _=>rfl))) (fun _=>rfl)) (ak (aH 1 (fun i hi=>by rw [hp];exact aC (by simpa using hi)) (rvl 1)))))
noncomputable def jJ:EM:=(ah cv (ac 1) (cL (ab (ac 0) ai)))
noncomputable def mH:EM:=(bL (bm gj (ab (ah cv (ah aB (ac 2) (mC (.int 2))) (mC (.int 1))) (ab (ac 0) ai))) (aw 0) ce jJ [none,some 2])
noncomputable def hJ:SM:=(fH (sE isL vG 1 (ab mH ai)))
noncomputable def Af:SM:=(aK (bd 1 (lp ai)) (aK (fQ (cT (am bZ (ab (ac 0) ai))) (aw 2) hJ) (ba 1 (ac 1))))
noncomputable def lL:Fn:=fnM [false] 3 Af
theorem sc_fours:FnScope ["many","found","three"] ["many"] (aj lC):=⟨rfl,rfl,rfl,by decide +kernel,rfl,by decide +kernel,by decide +kernel⟩
theorem vY (B:Bl mg) (D:Def K mg "fours" lC) (C_threes:aG P w K mg base "threes" 1 ["many"] bZ):aG P w K mg base "fours" 2 ["many"] lL :=
 aP (k:=1) D sc_fours rfl rfl (hb1 fun _ _ _ _ _ _ _=>rfl) fun cdv A outer s H E f G hr hp =>
  (ag (aJ 1 sc_fours.nd rfl (Or.inl rfl) (iK ad) rfl (Or.inl rfl) (by rw [hp];rfl)) (ag (en PassesOwn.never rfl (cX (al C_threes (hr.mono (by decide)) (aa (rvl 0) ad rfl) rfl (by decide) rfl rfl)) (cn 2 sc_fours.nd rfl (Or.inr rfl) (Or.inl rfl) (by rw [hp];rfl)) (ak (dI (oN (ok:=isL) PySem.F.plainAttrs_list PySem.F.slot_list_extend PySem.F.type_list_extend nW xG sL (jH (i:=1) rfl (Or.inl rfl) (by decide) (by decide)) (aa (bf ["last","three"] [none,some 2] rfl (jm rfl B.range (aa (av aV bh (aE (aA hr.hu) ay (rvc 2) ae (fun _ _=>rfl)) ae) (aa (rvl 0) ad rfl) rfl) rfl rfl) (fun s H C fp=>bv) (fun s H C fp=>(av aV bh (rvc 1) (bO (aa (rvl 0) ad rfl)))) (by rfl) (bQ (by decide)) (fun _=>rfl) ⟨_,aO rfl,fun s H C fp=>aW (i:=0) (show (["last","three"]:List Str).Nodup by decide +kernel) rfl (Or.inl rfl) (Or.inr rfl)⟩) ad rfl) rfl rfl rfl rfl rfl) rfl)) (fun _=>rfl)) (ak (aH 1 (fun i hi=>by rw [hp];exact aC (by simpa using hi)) (rvl 1)))))
noncomputable def dm:EM:=(ah aB (ac 1) (ac 0))
noncomputable def fJ:EM:=(bL (cT (ac 1)) (aw 0) ce dm [none,some 0])
noncomputable def cq:SM:=(aK (bd 2 (aD ld (ab fJ ai))) (sIf (cB (ah eqX (am iw (ab (ah aB (ac 2) (mC (.int 0))) (ab (ah aB (ac 2) (mC (.int 1))) (ab (ah aB (ac 2) (mC (.int 2))) ai)))) (mC (.int 0)))) (ba 1 (ac 2)) d9))
noncomputable def ln:SM:=(aK (fQ (cT (am bZ (ab (aD eS (ab (ac 0) ai)) ai))) (aw 1) cq) (ba 1 (mC .non)))
noncomputable def dg:Fn:=fnM [false] 3 ln
theorem sc_first_on_line:FnScope ["points","three","found"] ["points"] (aj de):=⟨rfl,rfl,rfl,by decide +kernel,rfl,by decide +kernel,by decide +kernel⟩
theorem kj (B:Bl mg) (D:Def K mg "first_on_line" de) (C_bend:aG P w K mg base "bend" 1 ["first","second","third"] iw) (C_threes:aG P w K mg base "threes" 1 ["many"] bZ):aG P w K mg base "first_on_line" 2 ["points"] dg :=
 aP (k:=1) D sc_first_on_line rfl rfl (hb1 fun _ _ _ _ _ _ _=>rfl) fun cdv A outer s H E f G hr hp =>
  (ag (en PassesOwn.never rfl (cX (al C_threes (hr.mono (by decide)) (aa (aI aF cb rfl B.len dy (aa (rvc 0) ad rfl) (by decide) (by decide) rfl rfl) ad rfl) rfl (by decide) rfl rfl)) (cn 1 sc_first_on_line.nd rfl (Or.inl rfl) (Or.inl rfl) (by rw [hp];rfl)) (ag (aJ 2 sc_first_on_line.nd rfl (Or.inl rfl) (cO bu il rfl B.tuple cS (aa (bf ["place","points"] [none,some 0] rfl (cX (rvl 1)) (fun s H C fp=>bv) (fun s H C fp=>(aE (aA hr.hu) ay (rvc 1) (rvl 0) (fun _ _=>rfl))) (by rfl) (bQ (by decide)) (fun _=>rfl) ⟨_,aO rfl,fun s H C fp=>aW (i:=0) (show (["place","points"]:List Str).Nodup by decide +kernel) rfl (Or.inl rfl) (Or.inr rfl)⟩) ad rfl) (by decide) (by decide) rfl rfl) rfl (Or.inl rfl) (by rw [hp];rfl)) (ak (cZ (bA (cH hr.units) cI (al C_bend (hr.mono (by decide)) (aa (aE (aA hr.hu) ay (rvl 2) ae (fun _ _=>rfl)) (aa (aE (aA hr.hu) ay (rvl 2) ae (fun _ _=>rfl)) (aa (aE (aA hr.hu) ay (rvl 2) ae (fun _ _=>rfl)) ad rfl) rfl) rfl) rfl (by decide) rfl rfl) ae (aS _)) (ak (aH 1 (fun i hi=>by rw [hp];exact aC (by simpa using hi)) (rvl 2))) bo))) (fun _=>rfl)) (ak (aH 1 (fun i hi=>by rw [hp];exact aC (by simpa using hi)) rY)))
noncomputable def sB:SM:=(aK (sIf (cOr (jc (cB (mUn (sK "tuple") (ac 0)))) (jc (cB (am fy (ab (ac 0) ai))))) (ba 1 (mC (.bl false))) d9) (ba 1 (i5 (am d6 (ab (ac 0) ai)) (ah isN (am dg (ab (ac 0) ai)) (mC .non)))))
noncomputable def iq:Fn:=fnM [false] 1 sB
theorem p9:FnScope ["thing"] ["thing"] (aj gP):=⟨rfl,rfl,rfl,by decide +kernel,rfl,by decide +kernel,by decide +kernel⟩
theorem pE (B:Bl mg) (D:Def K mg "is_sheet" gP) (C_are_points:aG P w K mg base "are_points" 3 ["things"] fy) (C_first_on_line:aG P w K mg base "first_on_line" 2 ["points"] dg) (C_has_rising_x:aG P w K mg base "has_rising_x" 1 ["points"] d6):aG P w K mg base "is_sheet" 4 ["thing"] iq :=
 aP (k:=3) D p9 rfl rfl (hb1 fun _ _ _ _ _ _ _=>rfl) fun cdv A outer s H E f G hr hp =>
  (ag (cZ (qe (lZ (eh (eX (ky dZ rfl B.isinstance (jn (v:=V.ty "tuple") rfl B.tuple cS rfl (by decide) (by decide)) (rvl 0) rfl rfl rfl) (fun _=>rfl))) (jE (eh (eX (al C_are_points (hr.mono (by decide)) (aa (rvl 0) ad rfl) rfl (by decide) rfl rfl) (fun _=>rfl)))))) (ak (aH 1 (fun i hi=>by rw [hp];exact aC (by simpa using hi)) fY)) bo) (ak (aH 1 (fun i hi=>by rw [hp];exact aC (by simpa using hi)) (gS (al C_has_rising_x (hr.mono (by decide)) (aa (rvl 0) ad rfl) rfl (by decide) rfl rfl) (iJ (gl Ce Ci (al C_first_on_line (hr.mono (by decide)) (aa (rvl 0) ad rfl) rfl (by decide) rfl rfl) rY (aS _)))))))
noncomputable def ni:SM:=(sIf (jc (cB (am iq (ab (ac 0) ai)))) lY d9)
noncomputable def bM:Fn:=fnM [false] 1 ni
theorem lX:FnScope ["thing"] ["thing"] (aj eM):=⟨rfl,rfl,rfl,by decide +kernel,rfl,by decide +kernel,by decide +kernel⟩
theorem lA (B:Bl mg) (D:Def K mg "check_sheet" eM) (C_is_sheet:aG P w K mg base "is_sheet" 4 ["thing"] iq):aG P w K mg base "check_sheet" 5 ["thing"] bM :=
 aP (k:=4) D lX rfl rfl (hb1 fun _ _ _ _ _ _ _=>rfl) fun cdv A outer s H E f G hr hp =>
  (ak (cZ (eh (eX (al C_is_sheet (hr.mono (by decide)) (aa (rvl 0) ad rfl) rfl (by decide) rfl rfl) (fun _=>rfl))) (ak jW) bo))
noncomputable def vm:SM:=(ba 2 (mIf (cB (ah gtI (am iw (ab (ah aB (ac 0) (ah aB (ac 1) (mC (.int 0)))) (ab (ah aB (ac 0) (ah aB (ac 1) (mC (.int 1)))) (ab (ah aB (ac 0) (ah aB (ac 1) (mC (.int 2)))) ai)))) (mC (.int 0)))) (mC (.int 1)) (mUn oX (mC (.int 1)))))
noncomputable def fD:Fn:=fnM [false,false] 2 vm
theorem rJ:FnScope ["sheet","three"] ["sheet","three"] (aj jf):=⟨rfl,rfl,rfl,by decide +kernel,rfl,by decide +kernel,by decide +kernel⟩
theorem qY (B:Bl mg) (D:Def K mg "turn_at" jf) (C_bend:aG P w K mg base "bend" 1 ["first","second","third"] iw):aG P w K mg base "turn_at" 2 ["sheet","three"] fD :=
 aP (k:=1) D rJ rfl rfl (hb2 fun _ _ _ _ _ _ _ _=>rfl) fun cdv A outer s H E f G hr hp =>
  (ak (aH 2 (fun i hi=>by rw [hp];exact aC (by simpa using hi)) (re_if (bA AZ A0 (al C_bend (hr.mono (by decide)) (aa (aE (aA hr.hu) ay (rvl 0) (aE (aA hr.hu) ay (rvl 1) ae (fun _ _=>rfl)) (fun _ _=>rfl)) (aa (aE (aA hr.hu) ay (rvl 0) (aE (aA hr.hu) ay (rvl 1) ae (fun _ _=>rfl)) (fun _ _=>rfl)) (aa (aE (aA hr.hu) ay (rvl 0) (aE (aA hr.hu) ay (rvl 1) ae (fun _ _=>rfl)) (fun _ _=>rfl)) ad rfl) rfl) rfl) rfl (by decide) rfl rfl) ae (aS _)) ae (kS iE iF ae))))
noncomputable def dU:SM:=(rN rH 1 (ac 2) (am fD (ab (ac 0) (ab (ac 2) ai))))
noncomputable def qF:SM:=(aK (fH (am bM (ab (ac 0) ai))) (aK (bd 1 sF) (aK (fQ (cT (am bZ (ab (aD eS (ab (ac 0) ai)) ai))) (aw 2) dU) (ba 1 (ac 1)))))
noncomputable def ci:Fn:=fnM [false] 3 qF
theorem sc_all_turns:FnScope ["sheet","turns","three"] ["sheet"] (aj fX):=⟨rfl,rfl,rfl,by decide +kernel,rfl,by decide +kernel,by decide +kernel⟩
theorem nw (B:Bl mg) (D:Def K mg "all_turns" fX) (C_check_sheet:aG P w K mg base "check_sheet" 5 ["thing"] bM) (C_threes:aG P w K mg base "threes" 1 ["many"] bZ) (C_turn_at:aG P w K mg base "turn_at" 2 ["sheet","three"] fD):aG P w K mg base "all_turns" 6 ["sheet"] ci :=
 aP (k:=5) D sc_all_turns rfl rfl (hb1 fun _ _ _ _ _ _ _=>rfl) fun cdv A outer s H E f G hr hp =>
  (ag (dI (al C_check_sheet (hr.mono (by decide)) (aa (rvl 0) ad rfl) rfl (by decide) rfl rfl) rfl) (ag (aJ 1 sc_all_turns.nd rfl (Or.inl rfl) qj rfl (Or.inl rfl) (by rw [hp];rfl)) (ag (en PassesOwn.never rfl (cX (al C_threes (hr.mono (by decide)) (aa (aI aF cb rfl B.len dy (aa (rvl 0) ad rfl) (by decide) (by decide) rfl rfl) ad rfl) rfl (by decide) rfl rfl)) (cn 2 sc_all_turns.nd rfl (Or.inl rfl) (Or.inl rfl) (by rw [hp];rfl)) (ak (rS (i:=1) (oE hr.hu) so (jH rfl (Or.inl rfl) (by decide) (by decide)) (rvl 2) (al C_turn_at (hr.mono (by decide)) (aa (rvl 0) (aa (rvl 2) ad rfl) rfl) rfl (by decide) rfl rfl) (fun _=>rfl) rfl rfl rfl)) (fun _=>rfl)) (ak (aH 1 (fun i hi=>by rw [hp];exact aC (by simpa using hi)) (rvl 1))))))
noncomputable def eA:EM:=(cL (ab (ah aB (ac 0) (mC (.int 0))) (ab (mUn oX (ah aB (ac 0) (mC (.int 1)))) ai)))
noncomputable def gA:EM:=(bL (cT (ac 0)) (aw 0) ce eA [none])
noncomputable def jz:SM:=(aK (fH (am bM (ab (ac 0) ai))) (ba 1 (aD ld (ab gA ai))))
noncomputable def c9:Fn:=fnM [false] 1 jz
theorem lT:FnScope ["sheet"] ["sheet"] (aj eG):=⟨rfl,rfl,rfl,by decide +kernel,rfl,by decide +kernel,by decide +kernel⟩
theorem ls (B:Bl mg) (D:Def K mg "turned_over" eG) (C_check_sheet:aG P w K mg base "check_sheet" 5 ["thing"] bM):aG P w K mg base "turned_over" 6 ["sheet"] c9 :=
 aP (k:=5) D lT rfl rfl (hb1 fun _ _ _ _ _ _ _=>rfl) fun cdv A outer s H E f G hr hp =>
  (ag (dI (al C_check_sheet (hr.mono (by decide)) (aa (rvl 0) ad rfl) rfl (by decide) rfl rfl) rfl) (ak (aH 1 (fun i hi=>by rw [hp];exact aC (by simpa using hi)) (cO bu il rfl B.tuple cS (aa (bf ["point"] [none] rfl (cX (rvl 0)) (fun s H C fp=>bv) (fun s H C fp=>(bO (aa (aE (aA hr.hu) ay (rvl 0) ae (fun _ _=>rfl)) (aa (kS iE iF (aE (aA hr.hu) ay (rvl 0) ae (fun _ _=>rfl))) ad rfl) rfl))) (by rfl) (bQ (by decide)) (fun _=>rfl) ⟨_,aO rfl,fun s H C fp=>aW (i:=0) (show (["point"]:List Str).Nodup by decide +kernel) rfl (Or.inl rfl) (Or.inr rfl)⟩) ad rfl) (by decide) (by decide) rfl rfl))))
noncomputable def gW:EM:=(cL (ab (ah aB (ac 0) (mC (.int 0))) (ab (ah cv (ah aB (ac 0) (mC (.int 1))) (ah fS (ac 1) (ah aB (ac 0) (mC (.int 0))))) ai)))
noncomputable def j8:EM:=(bL (cT (ac 0)) (aw 0) ce gW [none,some 1])
noncomputable def nY:SM:=(aK (fH (am bM (ab (ac 0) ai))) (aK (fH (am eP (ab (ac 1) ai))) (ba 2 (aD ld (ab j8 ai)))))
noncomputable def gK:Fn:=fnM [false,false] 2 nY
theorem rK:FnScope ["sheet","by"] ["sheet","by"] (aj jg):=⟨rfl,rfl,rfl,by decide +kernel,rfl,by decide +kernel,by decide +kernel⟩
theorem qZ (B:Bl mg) (D:Def K mg "sheared" jg) (C_check_sheet:aG P w K mg base "check_sheet" 5 ["thing"] bM) (C_check_whole:aG P w K mg base "check_whole" 2 ["thing"] eP):aG P w K mg base "sheared" 6 ["sheet","by"] gK :=
 aP (k:=5) D rK rfl rfl (hb2 fun _ _ _ _ _ _ _ _=>rfl) fun cdv A outer s H E f G hr hp =>
  (ag (dI (al C_check_sheet (hr.mono (by decide)) (aa (rvl 0) ad rfl) rfl (by decide) rfl rfl) rfl) (ag (dI (al C_check_whole (hr.mono (by decide)) (aa (rvc 1) ad rfl) rfl (by decide) rfl rfl) rfl) (ak (aH 2 (fun i hi=>by rw [hp];exact aC (by simpa using hi)) (cO bu il rfl B.tuple cS (aa (bf ["point","by"] [none,some 1] rfl (cX (rvl 0)) (fun s H C fp=>bv) (fun s H C fp=>(bO (aa (aE (aA hr.hu) ay (rvl 0) ae (fun _ _=>rfl)) (aa (av aV bh (aE (aA hr.hu) ay (rvl 0) ae (fun _ _=>rfl)) (av cp bG (rvc 1) (aE (aA hr.hu) ay (rvl 0) ae (fun _ _=>rfl)))) ad rfl) rfl))) (by rfl) (bQ (by decide)) (fun _=>rfl) ⟨_,aO rfl,fun s H C fp=>aW (i:=0) (show (["point","by"]:List Str).Nodup by decide +kernel) rfl (Or.inl rfl) (Or.inr rfl)⟩) ad rfl) (by decide) (by decide) rfl rfl)))))
noncomputable def cJ:EM:=(ah eqX (ah aB (ac 2) (mSl slD (ac 3) (j5 (ac 0)) (j5 (ah cv (ac 0) (mC (.int 3)))))) (ac 1))
noncomputable def iU:EM:=(bL (bm dC (ab (ah gh (aD eS (ab (ac 1) ai)) (mC (.int 2))) ai)) (aw 0) ce cJ [none,some 2,some 0,some 1])
noncomputable def kZ:SM:=(ba 3 (aD pK (ab iU ai)))
noncomputable def eV:Fn:=fnM [false,false,false] 3 kZ
theorem oG:FnScope ["turns","row","way"] ["turns","row","way"] (aj fV):=⟨rfl,rfl,rfl,by decide +kernel,rfl,by decide +kernel,by decide +kernel⟩
theorem nt (B:Bl mg) (D:Def K mg "row_bends" fV):aG P w K mg base "row_bends" 1 ["turns","row","way"] eV :=
 aP (k:=0) D oG rfl rfl (hb3 fun _ _ _ _ _ _ _ _ _=>rfl) fun cdv A outer s H E f G hr hp =>
  (ak (aH 3 (fun i hi=>by rw [hp];exact aC (by simpa using hi)) (aI (eU rfl) ja rfl B.all la (aa (bf ["at","way","turns","row"] [none,some 2,some 0,some 1] rfl (df rfl B.range (aa (av b8 bz (aI aF cb rfl B.len dy (aa (rvc 1) ad rfl) (by decide) (by decide) rfl rfl) ae) ad rfl) rfl) (fun s H C fp=>bv) (fun s H C fp=>(gl (cH hr.units) cI (aE (aA hr.hu) ay (rvc 2) (me (rvc 3) (jX (rvl 0)) (jX (av aV bh (rvl 0) ae))) (fun _ _=>rfl)) (rvc 1) (aS _))) (by rfl) (bQ (by decide)) (fun _=>rfl) ⟨_,aO rfl,fun s H C fp=>aW (i:=0) (show (["at","way","turns","row"]:List Str).Nodup by decide +kernel) rfl (Or.inl rfl) (Or.inr rfl)⟩) ad rfl) (by decide) (by decide) rfl rfl)))
noncomputable def cC:M3 Bool:=(cB (ah eqX (ah aB (ac 4) (cL (ab (ac 5) (ab (ac 2) (ab (ac 0) ai))))) (ac 3)))
noncomputable def cA:EM:=(ah aB (ac 1) (cL (ab (ac 2) (ab (ac 0) ai))))
noncomputable def dM:EM:=(bL (bm gj (ab (ah cv (ac 5) (mC (.int 1))) (ab (ac 1) ai))) (aw 0) cC cA [none,some 3,some 5,some 2,some 0,some 4])
noncomputable def cE:SM:=(rN rH 3 (cL (ab (ac 4) (ab (ac 5) ai))) (ah cv (mC (.int 1)) (ah Ac dM (mC (.int 1)))))
noncomputable def cD:SM:=(fQ (bm gj (ab (ah cv (ac 4) (mC (.int 1))) (ab (ac 1) ai))) (aw 5) cE)
noncomputable def mz:SM:=(aK (bd 3 sF) (aK (fQ (bm rW (ab (ah gh (ac 1) (mC (.int 2))) (ab (mUn oX (mC (.int 1))) (ab (mUn oX (mC (.int 1))) ai)))) (aw 4) cD) (ba 3 (ac 3))))
noncomputable def d5:Fn:=fnM [false,false,false] 6 mz
theorem sc_onward_table:FnScope ["turns","many","way","most","i","j"] ["turns","many","way"] (aj dD):=⟨rfl,rfl,rfl,by decide +kernel,rfl,by decide +kernel,by decide +kernel⟩
theorem kK (B:Bl mg) (D:Def K mg "onward_table" dD):aG P w K mg base "onward_table" 1 ["turns","many","way"] d5 :=
 aP (k:=0) D sc_onward_table rfl rfl (hb3 fun _ _ _ _ _ _ _ _ _=>rfl) fun cdv A outer s H E f G hr hp =>
  (ag (aJ 3 sc_onward_table.nd rfl (Or.inr rfl) qj rfl (Or.inl rfl) (by rw [hp];rfl)) (ag (en PassesOwn.never rfl (zn rfl B.range (aa (av b8 bz (rvl 1) ae) (aa (kS iE iF ae) (aa (kS iE iF ae) ad rfl) rfl) rfl) rfl rfl) (cn 4 sc_onward_table.nd rfl (Or.inr rfl) (Or.inl rfl) (by rw [hp];rfl)) (ak (en PassesOwn.never rfl (jm rfl B.range (aa (av aV bh (rvc 4) ae) (aa (rvl 1) ad rfl) rfl) rfl rfl) (cn 5 sc_onward_table.nd rfl (Or.inr rfl) (Or.inl rfl) (by rw [hp];rfl)) (ak (rS (i:=3) (oE hr.hu) so (jH rfl (Or.inr (Or.inl rfl)) (by decide) (by decide)) (bO (aa (rvc 4) (aa (rvc 5) ad rfl) rfl)) (av aV bh ae (BO (wM rfl) zV rfl B.max yA (bf ["k","most","j","way","turns","i"] [none,some 3,some 5,some 2,some 0,some 4] rfl (jm rfl B.range (aa (av aV bh (rvc 5) ae) (aa (rvl 1) ad rfl) rfl) rfl rfl) (fun s H C fp=>(gw (bA (cH hr.units) cI (aE (aA hr.hu) ay (rvc 4) (bO (aa (rvc 5) (aa (rvc 2) (aa (rvl 0) ad rfl) rfl) rfl)) (fun _ _=>rfl)) (rvc 3) (aS _)))) (fun s H C fp=>(aE (aA hr.hu) ay (rvc 1) (bO (aa (rvc 2) (aa (rvl 0) ad rfl) rfl)) (fun _ _=>rfl))) (by rfl) (bQ (by decide)) (fun _=>rfl) ⟨_,aO rfl,fun s H C fp=>aW (i:=0) (show (["k","most","j","way","turns","i"]:List Str).Nodup by decide +kernel) rfl (Or.inl rfl) (Or.inr rfl)⟩) ae (by decide) (by decide) rfl rfl rfl rfl rfl rfl)) (fun _=>rfl) rfl rfl rfl)) (fun _=>rfl))) (fun _=>rfl)) (ak (aH 3 (fun i hi=>by rw [hp];exact aC (by simpa using hi)) (rvc 3)))))
noncomputable def cQ:M3 Bool:=(cB (ah eqX (ah aB (ac 2) (ac 0)) (ac 1)))
noncomputable def gE:EM:=(ac 0)
noncomputable def eB:EM:=(bL (ph (ac 3)) (aw 0) cQ gE [none,some 4,some 3])
noncomputable def cP:M3 Bool:=(sU (cB (ah eqX (ah aB (ac 3) (cL (ab (ac 5) (ab (ac 6) (ab (ac 0) ai))))) (ac 1))) (cB (ah eqX (ah aB (ac 4) (cL (ab (ac 6) (ab (ac 0) ai)))) (ac 2))))
noncomputable def gD:EM:=(ac 0)
noncomputable def gB:EM:=(bL (bm gj (ab (ah cv (ac 7) (mC (.int 1))) (ab (ac 1) ai))) (aw 0) cP gD [none,some 2,some 8,some 0,some 3,some 6,some 7])
noncomputable def b9:M3 Bool:=(cB (ah ltI (aD eS (ab (ac 5) ai)) (ac 4)))
noncomputable def cR:SM:=(aK (bd 6 (ah aB (ac 5) (mUn oX (mC (.int 2))))) (aK (bd 7 (ah aB (ac 5) (mUn oX (mC (.int 1))))) (aK (bd 8 (ah cv (ah gh (ac 4) (aD eS (ab (ac 5) ai))) (mC (.int 1)))) (bd 5 (ah cv (ac 5) (cL (ab (aD t6 (ab gB ai)) ai)))))))
noncomputable def nc:SM:=(aK (sIf (cB (ah eqX (ac 1) (mC (.int 1)))) (ba 3 (mC .non)) d9) (aK (bd 3 (am d5 (ab (ac 0) (ab (ac 1) (ab (ac 2) ai))))) (aK (bd 4 (aD qB (ab (ac 3) ai))) (aK (bd 5 (aD t5 (ab eB ai))) (aK (gi b9 cR) (ba 3 (ac 5)))))))
noncomputable def cx:Fn:=fnM [false,false,false] 9 nc
theorem sc_longest_row:FnScope ["turns","many","way","onward","length","row","i","j","left"] ["turns","many","way"] (aj eI):=⟨rfl,rfl,rfl,by decide +kernel,rfl,by decide +kernel,by decide +kernel⟩
theorem lu (B:Bl mg) (D:Def K mg "longest_row" eI) (C_onward_table:aG P w K mg base "onward_table" 1 ["turns","many","way"] d5):aG P w K mg base "longest_row" 2 ["turns","many","way"] cx :=
 aP (k:=1) D sc_longest_row rfl rfl (hb3 fun _ _ _ _ _ _ _ _ _=>rfl) fun cdv A outer s H E f G hr hp =>
  (ag (cZ (bA (cH hr.units) cI (rvl 1) ae (aS _)) (ak (aH 3 (fun i hi=>by rw [hp];exact aC (by simpa using hi)) rY)) bo) (ag (aJ 3 sc_longest_row.nd rfl (Or.inr rfl) (al C_onward_table (hr.mono (by decide)) (aa (rvc 0) (aa (rvl 1) (aa (rvc 2) ad rfl) rfl) rfl) rfl (by decide) rfl rfl) rfl (Or.inl rfl) (by rw [hp];rfl)) (ag (aJ 4 sc_longest_row.nd rfl (Or.inr rfl) (zq rfl rfl B.max (rvc 3) rfl rfl rfl rfl) rfl (Or.inl rfl) (by rw [hp];rfl)) (ag (aJ 5 sc_longest_row.nd rfl (Or.inl rfl) (aI (vQ rfl hr.hu) AA rfl B.min yz (aa (bf ["pair","length","onward"] [none,some 4,some 3] rfl (zo (rvc 3)) (fun s H C fp=>(gw (bA (cH hr.units) cI (aE (aA hr.hu) ay (rvc 2) (rvl 0) (fun _ _=>rfl)) (rvc 1) (aS _)))) (fun s H C fp=>(rvl 0)) (by rfl) (bQ (by decide)) (fun _=>rfl) ⟨_,aO rfl,fun s H C fp=>aW (i:=0) (show (["pair","length","onward"]:List Str).Nodup by decide +kernel) rfl (Or.inl rfl) (Or.inr rfl)⟩) ad rfl) (by decide) (by decide) rfl rfl) rfl (Or.inl rfl) (by rw [hp];rfl)) (ag (qf PassesOwn.never (bA mo nU (aI aF cb rfl B.len dy (aa (rvl 5) ad rfl) (by decide) (by decide) rfl rfl) (rvc 4) (aS _)) (ag (aJ 6 sc_longest_row.nd rfl (Or.inr rfl) (aE (aA hr.hu) ay (rvl 5) (kS iE iF ae) (fun _ _=>rfl)) rfl (Or.inl rfl) (by rw [hp];rfl)) (ag (aJ 7 sc_longest_row.nd rfl (Or.inr rfl) (aE (aA hr.hu) ay (rvl 5) (kS iE iF ae) (fun _ _=>rfl)) rfl (Or.inl rfl) (by rw [hp];rfl)) (ag (aJ 8 sc_longest_row.nd rfl (Or.inr rfl) (av aV bh (av b8 bz (rvc 4) (aI aF cb rfl B.len dy (aa (rvl 5) ad rfl) (by decide) (by decide) rfl rfl)) ae) rfl (Or.inl rfl) (by rw [hp];rfl)) (ak (aJ 5 sc_longest_row.nd rfl (Or.inl rfl) (av aV bh (rvl 5) (bO (aa (aI (vT rfl) AC rfl B.min yz (aa (bf ["k","way","left","turns","onward","i","j"] [none,some 2,some 8,some 0,some 3,some 6,some 7] rfl (jm rfl B.range (aa (av aV bh (rvc 7) ae) (aa (rvl 1) ad rfl) rfl) rfl rfl) (fun s H C fp=>(gw (qe (BG (bA (cH hr.units) cI (aE (aA hr.hu) ay (rvc 3) (bO (aa (rvc 5) (aa (rvc 6) (aa (rvl 0) ad rfl) rfl) rfl)) (fun _ _=>rfl)) (rvc 1) (aS _)) (ze (bA (cH hr.units) cI (aE (aA hr.hu) ay (rvc 4) (bO (aa (rvc 6) (aa (rvl 0) ad rfl) rfl)) (fun _ _=>rfl)) (rvc 2) (aS _))))))) (fun s H C fp=>(rvl 0)) (by rfl) (bQ (by decide)) (fun _=>rfl) ⟨_,aO rfl,fun s H C fp=>aW (i:=0) (show (["k","way","left","turns","onward","i","j"]:List Str).Nodup by decide +kernel) rfl (Or.inl rfl) (Or.inr rfl)⟩) ad rfl) (by decide) (by decide) rfl rfl) ad rfl))) rfl (Or.inl rfl) (by rw [hp];rfl))))))) (ak (aH 3 (fun i hi=>by rw [hp];exact aC (by simpa using hi)) (rvl 5))))))))
noncomputable def ng:SM:=(ba 1 (am cx (ab (am ci (ab (ac 0) ai)) (ab (aD eS (ab (ac 0) ai)) (ab (mC (.int (1))) ai)))))
noncomputable def eO:Fn:=fnM [false] 1 ng
theorem lU:FnScope ["sheet"] ["sheet"] (aj eJ):=⟨rfl,rfl,rfl,by decide +kernel,rfl,by decide +kernel,by decide +kernel⟩
theorem lw (B:Bl mg) (D:Def K mg "longest_cup" eJ) (C_all_turns:aG P w K mg base "all_turns" 6 ["sheet"] ci) (C_longest_row:aG P w K mg base "longest_row" 2 ["turns","many","way"] cx) {tk_UP:Tok} (Q_UP:mg "UP"=some (.int (1) tk_UP)):aG P w K mg base "longest_cup" 7 ["sheet"] eO :=
 aP (k:=6) D lU rfl rfl (hb1 fun _ _ _ _ _ _ _=>rfl) fun cdv A outer s H E f G hr hp =>
  (ak (aH 1 (fun i hi=>by rw [hp];exact aC (by simpa using hi)) (al C_longest_row (hr.mono (by decide)) (aa (al C_all_turns (hr.mono (by decide)) (aa (rvl 0) ad rfl) rfl (by decide) rfl rfl) (aa (aI aF cb rfl B.len dy (aa (rvl 0) ad rfl) (by decide) (by decide) rfl rfl) (aa (cG rfl Q_UP (by decide)) ad rfl) rfl) rfl) rfl (by decide) rfl rfl)))
noncomputable def c6:M3 Bool:=(cB (ah eqX (ah aB (ac 2) (cL (ab (ac 3) (ab (ac 0) (ab (ac 4) ai))))) (ac 1)))
noncomputable def gr:EM:=(ac 0)
noncomputable def gq:EM:=(bL (cT (mSl slD (ac 1) (j5 (mC (.int 1))) (j5 (mUn oX (mC (.int 1)))))) (aw 0) c6 gr [none,some 2,some 0,some 3,some 4])
noncomputable def my:SM:=(aK (bd 3 (ah aB (ac 1) (mC (.int 0)))) (aK (bd 4 (ah aB (ac 1) (mUn oX (mC (.int 1))))) (ba 3 (ah cv (ah cv (cL (ab (ac 3) ai)) (aD ld (ab gq ai))) (cL (ab (ac 4) ai))))))
noncomputable def fP:Fn:=fnM [false,false,false] 5 my
theorem sc_side_row:FnScope ["turns","ring","way","first","last"] ["turns","ring","way"] (aj gN):=⟨rfl,rfl,rfl,by decide +kernel,rfl,by decide +kernel,by decide +kernel⟩
theorem pC (B:Bl mg) (D:Def K mg "side_row" gN):aG P w K mg base "side_row" 1 ["turns","ring","way"] fP :=
 aP (k:=0) D sc_side_row rfl rfl (hb3 fun _ _ _ _ _ _ _ _ _=>rfl) fun cdv A outer s H E f G hr hp =>
  (ag (aJ 3 sc_side_row.nd rfl (Or.inr rfl) (aE (aA hr.hu) ay (rvl 1) ae (fun _ _=>rfl)) rfl (Or.inl rfl) (by rw [hp];rfl)) (ag (aJ 4 sc_side_row.nd rfl (Or.inr rfl) (aE (aA hr.hu) ay (rvl 1) (kS iE iF ae) (fun _ _=>rfl)) rfl (Or.inl rfl) (by rw [hp];rfl)) (ak (aH 3 (fun i hi=>by rw [hp];exact aC (by simpa using hi)) (av aV bh (av aV bh (bO (aa (rvc 3) ad rfl)) (cO bu il rfl B.tuple cS (aa (bf ["place","way","turns","first","last"] [none,some 2,some 0,some 3,some 4] rfl (cX (me (rvl 1) (jX ae) (jX (kS iE iF ae)))) (fun s H C fp=>(gw (bA (cH hr.units) cI (aE (aA hr.hu) ay (rvc 2) (bO (aa (rvc 3) (aa (rvl 0) (aa (rvc 4) ad rfl) rfl) rfl)) (fun _ _=>rfl)) (rvc 1) (aS _)))) (fun s H C fp=>(rvl 0)) (by rfl) (bQ (by decide)) (fun _=>rfl) ⟨_,aO rfl,fun s H C fp=>aW (i:=0) (show (["place","way","turns","first","last"]:List Str).Nodup by decide +kernel) rfl (Or.inl rfl) (Or.inr rfl)⟩) ad rfl) (by decide) (by decide) rfl rfl)) (bO (aa (rvc 4) ad rfl)))))))
noncomputable def eY:EM:=(am eV (ab (ac 1) (ab (am fP (ab (ac 1) (ab (ac 2) (ab (ac 0) ai)))) (ab (ac 0) ai))))
noncomputable def iy:EM:=(bL (cT (cL (ab (mC (.int (1))) (ab (mC (.int (-1))) ai)))) (aw 0) ce eY [none,some 0,some 1])
noncomputable def gZ:SM:=(aK (sIf (cOr (jc (cB (am b7 (ab (ac 1) (ab (ac 2) ai))))) (cB (ah ltI (aD eS (ab (ac 1) ai)) (mC (.int (3)))))) (ba 3 (mC (.bl false))) d9) (ba 3 (aD pK (ab iy ai))))
noncomputable def bK:Fn:=fnM [false,false,false] 3 gZ
theorem m6:FnScope ["turns","thing","many"] ["turns","thing","many"] (aj fh):=⟨rfl,rfl,rfl,by decide +kernel,rfl,by decide +kernel,by decide +kernel⟩
theorem mS (B:Bl mg) (D:Def K mg "is_ring_by" fh) (C_are_rising_places:aG P w K mg base "are_rising_places" 3 ["thing","many"] b7) (C_row_bends:aG P w K mg base "row_bends" 1 ["turns","row","way"] eV) (C_side_row:aG P w K mg base "side_row" 1 ["turns","ring","way"] fP) {tk_DOWN:Tok} (Q_DOWN:mg "DOWN"=some (.int (-1) tk_DOWN)) {tk_LEAST_CORNERS:Tok} (Q_LEAST_CORNERS:mg "LEAST_CORNERS"=some (.int (3) tk_LEAST_CORNERS)) {tk_UP:Tok} (Q_UP:mg "UP"=some (.int (1) tk_UP)):aG P w K mg base "is_ring_by" 4 ["turns","thing","many"] bK :=
 aP (k:=3) D m6 rfl rfl (hb3 fun _ _ _ _ _ _ _ _ _=>rfl) fun cdv A outer s H E f G hr hp =>
  (ag (cZ (qe (lZ (eh (eX (al C_are_rising_places (hr.mono (by decide)) (aa (rvc 1) (aa (rvl 2) ad rfl) rfl) rfl (by decide) rfl rfl) (fun _=>rfl))) (jE (bA mo nU (aI aF cb rfl B.len dy (aa (rvc 1) ad rfl) (by decide) (by decide) rfl rfl) (cG rfl Q_LEAST_CORNERS (by decide)) (aS _))))) (ak (aH 3 (fun i hi=>by rw [hp];exact aC (by simpa using hi)) fY)) bo) (ak (aH 3 (fun i hi=>by rw [hp];exact aC (by simpa using hi)) (aI (eU rfl) ja rfl B.all la (aa (bf ["way","turns","thing"] [none,some 0,some 1] rfl (cX (bO (aa (cG rfl Q_UP (by decide)) (aa (cG rfl Q_DOWN (by decide)) ad rfl) rfl))) (fun s H C fp=>bv) (fun s H C fp=>(al C_row_bends (hr.mono (by decide)) (aa (rvc 1) (aa (al C_side_row (hr.mono (by decide)) (aa (rvc 1) (aa (rvc 2) (aa (rvl 0) ad rfl) rfl) rfl) rfl (by decide) rfl rfl) (aa (rvl 0) ad rfl) rfl) rfl) rfl (by decide) rfl rfl)) (by rfl) (bQ (by decide)) (fun _=>rfl) ⟨_,aO rfl,fun s H C fp=>aW (i:=0) (show (["way","turns","thing"]:List Str).Nodup by decide +kernel) rfl (Or.inl rfl) (Or.inr rfl)⟩) ad rfl) (by decide) (by decide) rfl rfl))))
noncomputable def vo:SM:=(ba 2 (am bK (ab (am ci (ab (ac 1) ai)) (ab (ac 0) (ab (aD eS (ab (ac 1) ai)) ai)))))
noncomputable def dB:Fn:=fnM [false,false] 2 vo
theorem rM:FnScope ["thing","sheet"] ["thing","sheet"] (aj jj):=⟨rfl,rfl,rfl,by decide +kernel,rfl,by decide +kernel,by decide +kernel⟩
theorem rg (B:Bl mg) (D:Def K mg "is_ring" jj) (C_all_turns:aG P w K mg base "all_turns" 6 ["sheet"] ci) (C_is_ring_by:aG P w K mg base "is_ring_by" 4 ["turns","thing","many"] bK):aG P w K mg base "is_ring" 7 ["thing","sheet"] dB :=
 aP (k:=6) D rM rfl rfl (hb2 fun _ _ _ _ _ _ _ _=>rfl) fun cdv A outer s H E f G hr hp =>
  (ak (aH 2 (fun i hi=>by rw [hp];exact aC (by simpa using hi)) (al C_is_ring_by (hr.mono (by decide)) (aa (al C_all_turns (hr.mono (by decide)) (aa (rvl 1) ad rfl) rfl (by decide) rfl rfl) (aa (rvl 0) (aa (aI aF cb rfl B.len dy (aa (rvl 1) ad rfl) (by decide) (by decide) rfl rfl) ad rfl) rfl) rfl) rfl (by decide) rfl rfl)))
noncomputable def vn:SM:=(ba 1 (i5 (am bj (ab (ac 0) ai)) (mOr (ah eqX (ac 0) (mC (.int (1)))) (ah eqX (ac 0) (mC (.int (-1)))))))
noncomputable def jt:Fn:=fnM [false] 1 vn
theorem rL:FnScope ["thing"] ["thing"] (aj ji):=⟨rfl,rfl,rfl,by decide +kernel,rfl,by decide +kernel,by decide +kernel⟩
theorem rf (B:Bl mg) (D:Def K mg "is_sign" ji) (C_is_whole:aG P w K mg base "is_whole" 1 ["thing"] bj) {tk_DOWN:Tok} (Q_DOWN:mg "DOWN"=some (.int (-1) tk_DOWN)) {tk_UP:Tok} (Q_UP:mg "UP"=some (.int (1) tk_UP)):aG P w K mg base "is_sign" 2 ["thing"] jt :=
 aP (k:=1) D rL rfl rfl (hb1 fun _ _ _ _ _ _ _=>rfl) fun cdv A outer s H E f G hr hp =>
  (ak (aH 1 (fun i hi=>by rw [hp];exact aC (by simpa using hi)) (gS (al C_is_whole (hr.mono (by decide)) (aa (rvl 0) ad rfl) rfl (by decide) rfl rfl) (iJ (re_or (gl (cH hr.units) cI (rvl 0) (cG rfl Q_UP (by decide)) (aS _)) (iJ (gl (cH hr.units) cI (rvl 0) (cG rfl Q_DOWN (by decide)) (aS _))))))))
noncomputable def kC:SM:=(ba 2 (xK (ab (am bZ (ab (ac 0) ai)) (ab (ac 1) ai))))
noncomputable def a9:Fn:=fnM [false,false] 2 kC
theorem jP:FnScope ["many","signs"] ["many","signs"] (aj cN):=⟨rfl,rfl,rfl,by decide +kernel,rfl,by decide +kernel,by decide +kernel⟩
theorem jK (B:Bl mg) (D:Def K mg "turns_by_signs" cN) (C_threes:aG P w K mg base "threes" 1 ["many"] bZ):aG P w K mg base "turns_by_signs" 2 ["many","signs"] a9 :=
 aP (k:=1) D jP rfl rfl (hb2 fun _ _ _ _ _ _ _ _=>rfl) fun cdv A outer s H E f G hr hp =>
  (ak (aH 2 (fun i hi=>by rw [hp];exact aC (by simpa using hi)) (zr rfl hr.units rfl B.dict rfl B.zip (aa (al C_threes (hr.mono (by decide)) (aa (rvl 0) ad rfl) rfl (by decide) rfl rfl) (aa (rvl 1) ad rfl) rfl) rfl rfl rfl)))
noncomputable def aQ:M3 Bool:=(cB (ah neX (ah aB (ac 1) (ac 0)) (ah aB (ac 1) (ah cv (ac 0) (mC (.int 1))))))
noncomputable def bp:EM:=(ac 0)
noncomputable def c7:EM:=(bL (bm dC (ab (mC (.int 3)) ai)) (aw 0) aQ bp [none,some 6])
noncomputable def d8:SM:=(aK (bd 2 (ah aB (ac 1) (mC (.int 0)))) (aK (bd 3 (ah aB (ac 1) (mC (.int 1)))) (aK (bd 4 (ah aB (ac 1) (mC (.int 2)))) (aK (bd 5 (ah aB (ac 1) (mC (.int 3)))) (aK (bd 6 (lp (ab (ah aB (ac 0) (cL (ab (ac 2) (ab (ac 3) (ab (ac 4) ai))))) (ab (ah aB (ac 0) (cL (ab (ac 2) (ab (ac 3) (ab (ac 5) ai))))) (ab (ah aB (ac 0) (cL (ab (ac 2) (ab (ac 4) (ab (ac 5) ai))))) (ab (ah aB (ac 0) (cL (ab (ac 3) (ab (ac 4) (ab (ac 5) ai))))) ai)))))) (ba 2 (ah leI (aD eS (ab c7 ai)) (mC (.int 1)))))))))
noncomputable def bU:Fn:=fnM [false,false] 7 d8
theorem sc_change_once_at_most:FnScope ["turns","four","h","i","j","k","row"] ["turns","four"] (aj bS):=⟨rfl,rfl,rfl,by decide +kernel,rfl,by decide +kernel,by decide +kernel⟩
theorem gI (B:Bl mg) (D:Def K mg "change_once_at_most" bS):aG P w K mg base "change_once_at_most" 1 ["turns","four"] bU :=
 aP (k:=0) D sc_change_once_at_most rfl rfl (hb2 fun _ _ _ _ _ _ _ _=>rfl) fun cdv A outer s H E f G hr hp =>
  (ag (aJ 2 sc_change_once_at_most.nd rfl (Or.inl rfl) (aE (aA hr.hu) ay (rvl 1) ae (fun _ _=>rfl)) rfl (Or.inl rfl) (by rw [hp];rfl)) (ag (aJ 3 sc_change_once_at_most.nd rfl (Or.inl rfl) (aE (aA hr.hu) ay (rvl 1) ae (fun _ _=>rfl)) rfl (Or.inl rfl) (by rw [hp];rfl)) (ag (aJ 4 sc_change_once_at_most.nd rfl (Or.inl rfl) (aE (aA hr.hu) ay (rvl 1) ae (fun _ _=>rfl)) rfl (Or.inl rfl) (by rw [hp];rfl)) (ag (aJ 5 sc_change_once_at_most.nd rfl (Or.inl rfl) (aE (aA hr.hu) ay (rvl 1) ae (fun _ _=>rfl)) rfl (Or.inl rfl) (by rw [hp];rfl)) (ag (aJ 6 sc_change_once_at_most.nd rfl (Or.inr rfl) (iK (aa (aE (aA hr.hu) ay (rvl 0) (bO (aa (rvl 2) (aa (rvl 3) (aa (rvl 4) ad rfl) rfl) rfl)) (fun _ _=>rfl)) (aa (aE (aA hr.hu) ay (rvl 0) (bO (aa (rvl 2) (aa (rvl 3) (aa (rvl 5) ad rfl) rfl) rfl)) (fun _ _=>rfl)) (aa (aE (aA hr.hu) ay (rvl 0) (bO (aa (rvl 2) (aa (rvl 4) (aa (rvl 5) ad rfl) rfl) rfl)) (fun _ _=>rfl)) (aa (aE (aA hr.hu) ay (rvl 0) (bO (aa (rvl 3) (aa (rvl 4) (aa (rvl 5) ad rfl) rfl) rfl)) (fun _ _=>rfl)) ad rfl) rfl) rfl) rfl)) rfl (Or.inl rfl) (by rw [hp];rfl)) (ak (aH 2 (fun i hi=>by rw [hp];exact aC (by simpa using hi)) (gl j6 nV (aI aF cb rfl B.len dy (aa (bf ["at","row"] [none,some 6] rfl (df rfl B.range (aa ae ad rfl) rfl) (fun s H C fp=>(gw (bA (iO hr.units) iP (aE (aA hr.hu) ay (rvc 1) (rvl 0) (fun _ _=>rfl)) (aE (aA hr.hu) ay (rvc 1) (av aV bh (rvl 0) ae) (fun _ _=>rfl)) (aS _)))) (fun s H C fp=>(rvl 0)) (by rfl) (bQ (by decide)) (fun _=>rfl) ⟨_,aO rfl,fun s H C fp=>aW (i:=0) (show (["at","row"]:List Str).Nodup by decide +kernel) rfl (Or.inl rfl) (Or.inr rfl)⟩) ad rfl) (by decide) (by decide) rfl rfl) ae (aS _)))))))))
noncomputable def dQ:EM:=(am jt (ab (ac 0) ai))
noncomputable def gf:EM:=(bL (cT (ac 1)) (aw 0) ce dQ [none])
noncomputable def dP:EM:=(am bU (ab (ac 1) (ab (ac 0) ai)))
noncomputable def ge:EM:=(bL (cT (am lL (ab (ac 0) ai))) (aw 0) ce dP [none,some 2])
noncomputable def iY:SM:=(aK (sIf (cOr (jc (cB (mUn (sK "tuple") (ac 1)))) (jc (cB (aD pK (ab gf ai))))) (ba 2 (mC (.bl false))) d9) (aK (sIf (cB (ah neX (aD eS (ab (ac 1) ai)) (aD eS (ab (am bZ (ab (ac 0) ai)) ai)))) (ba 2 (mC (.bl false))) d9) (aK (bd 2 (am a9 (ab (ac 0) (ab (ac 1) ai)))) (ba 2 (aD pK (ab ge ai))))))
noncomputable def cg:Fn:=fnM [false,false] 3 iY
theorem sc_are_signs_of:FnScope ["many","thing","turns"] ["many","thing"] (aj dH):=⟨rfl,rfl,rfl,by decide +kernel,rfl,by decide +kernel,by decide +kernel⟩
theorem kP (B:Bl mg) (D:Def K mg "are_signs_of" dH) (C_change_once_at_most:aG P w K mg base "change_once_at_most" 1 ["turns","four"] bU) (C_fours:aG P w K mg base "fours" 2 ["many"] lL) (C_is_sign:aG P w K mg base "is_sign" 2 ["thing"] jt) (C_threes:aG P w K mg base "threes" 1 ["many"] bZ) (C_turns_by_signs:aG P w K mg base "turns_by_signs" 2 ["many","signs"] a9):aG P w K mg base "are_signs_of" 3 ["many","thing"] cg :=
 aP (k:=2) D sc_are_signs_of rfl rfl (hb2 fun _ _ _ _ _ _ _ _=>rfl) fun cdv A outer s H E f G hr hp =>
  (ag (cZ (qe (lZ (eh (eX (ky dZ rfl B.isinstance (jn (v:=V.ty "tuple") rfl B.tuple cS rfl (by decide) (by decide)) (rvl 1) rfl rfl rfl) (fun _=>rfl))) (jE (eh (eX (aI (eU rfl) ja rfl B.all la (aa (bf ["sign"] [none] rfl (cX (rvl 1)) (fun s H C fp=>bv) (fun s H C fp=>(al C_is_sign (hr.mono (by decide)) (aa (rvl 0) ad rfl) rfl (by decide) rfl rfl)) (by rfl) (bQ (by decide)) (fun _=>rfl) ⟨_,aO rfl,fun s H C fp=>aW (i:=0) (show (["sign"]:List Str).Nodup by decide +kernel) rfl (Or.inl rfl) (Or.inr rfl)⟩) ad rfl) (by decide) (by decide) rfl rfl) (fun _=>rfl)))))) (ak (aH 2 (fun i hi=>by rw [hp];exact aC (by simpa using hi)) fY)) bo) (ag (cZ (bA (iO hr.units) iP (aI aF cb rfl B.len dy (aa (rvl 1) ad rfl) (by decide) (by decide) rfl rfl) (aI aF cb rfl B.len dy (aa (al C_threes (hr.mono (by decide)) (aa (rvl 0) ad rfl) rfl (by decide) rfl rfl) ad rfl) (by decide) (by decide) rfl rfl) (aS _)) (ak (aH 2 (fun i hi=>by rw [hp];exact aC (by simpa using hi)) fY)) bo) (ag (aJ 2 sc_are_signs_of.nd rfl (Or.inr rfl) (al C_turns_by_signs (hr.mono (by decide)) (aa (rvl 0) (aa (rvl 1) ad rfl) rfl) rfl (by decide) rfl rfl) rfl (Or.inl rfl) (by rw [hp];rfl)) (ak (aH 2 (fun i hi=>by rw [hp];exact aC (by simpa using hi)) (aI (eU rfl) ja rfl B.all la (aa (bf ["four","turns"] [none,some 2] rfl (cX (al C_fours (hr.mono (by decide)) (aa (rvl 0) ad rfl) rfl (by decide) rfl rfl)) (fun s H C fp=>bv) (fun s H C fp=>(al C_change_once_at_most (hr.mono (by decide)) (aa (rvc 1) (aa (rvl 0) ad rfl) rfl) rfl (by decide) rfl rfl)) (by rfl) (bQ (by decide)) (fun _=>rfl) ⟨_,aO rfl,fun s H C fp=>aW (i:=0) (show (["four","turns"]:List Str).Nodup by decide +kernel) rfl (Or.inl rfl) (Or.inr rfl)⟩) ad rfl) (by decide) (by decide) rfl rfl))))))
noncomputable def k4:SM:=(aK (fH (am cf (ab (ac 0) (ab (mC (.int 1)) (ab (mC (.int (24))) ai))))) (ba 2 (am cg (ab (ac 0) (ab (ac 1) ai)))))
noncomputable def eW:Fn:=fnM [false,false] 2 k4
theorem oH:FnScope ["many","thing"] ["many","thing"] (aj fW):=⟨rfl,rfl,rfl,by decide +kernel,rfl,by decide +kernel,by decide +kernel⟩
theorem nv (B:Bl mg) (D:Def K mg "are_signs" fW) (C_are_signs_of:aG P w K mg base "are_signs_of" 3 ["many","thing"] cg) (C_check_number:aG P w K mg base "check_number" 2 ["thing","least","most"] cf) {tk_MOST_POINTS:Tok} (Q_MOST_POINTS:mg "MOST_POINTS"=some (.int (24) tk_MOST_POINTS)):aG P w K mg base "are_signs" 4 ["many","thing"] eW :=
 aP (k:=3) D oH rfl rfl (hb2 fun _ _ _ _ _ _ _ _=>rfl) fun cdv A outer s H E f G hr hp =>
  (ag (dI (al C_check_number (hr.mono (by decide)) (aa (rvl 0) (aa ae (aa (cG rfl Q_MOST_POINTS (by decide)) ad rfl) rfl) rfl) rfl (by decide) rfl rfl) rfl) (ak (aH 2 (fun i hi=>by rw [hp];exact aC (by simpa using hi)) (al C_are_signs_of (hr.mono (by decide)) (aa (rvl 0) (aa (rvl 1) ad rfl) rfl) rfl (by decide) rfl rfl))))
noncomputable def jB:SM:=(aK (fH (am cf (ab (ac 0) (ab (mC (.int 1)) (ab (ac 1) ai))))) (sIf (jc (cB (am cg (ab (ac 0) (ab (ac 2) ai))))) lY d9))
noncomputable def cy:Fn:=fnM [false,false,false] 3 jB
theorem lW:FnScope ["many","most","signs"] ["many","most","signs"] (aj eL):=⟨rfl,rfl,rfl,by decide +kernel,rfl,by decide +kernel,by decide +kernel⟩
theorem ly (B:Bl mg) (D:Def K mg "check_signs" eL) (C_are_signs_of:aG P w K mg base "are_signs_of" 3 ["many","thing"] cg) (C_check_number:aG P w K mg base "check_number" 2 ["thing","least","most"] cf):aG P w K mg base "check_signs" 4 ["many","most","signs"] cy :=
 aP (k:=3) D lW rfl rfl (hb3 fun _ _ _ _ _ _ _ _ _=>rfl) fun cdv A outer s H E f G hr hp =>
  (ag (dI (al C_check_number (hr.mono (by decide)) (aa (rvl 0) (aa ae (aa (rvl 1) ad rfl) rfl) rfl) rfl (by decide) rfl rfl) rfl) (ak (cZ (eh (eX (al C_are_signs_of (hr.mono (by decide)) (aa (rvl 0) (aa (rvl 2) ad rfl) rfl) rfl (by decide) rfl rfl) (fun _=>rfl))) (ak jW) bo)))
noncomputable def gp:EM:=(ah aB (ac 1) (ac 0))
noncomputable def jA:EM:=(bL (cT (am bZ (ab (aD eS (ab (ac 0) ai)) ai))) (aw 0) ce gp [none,some 1])
noncomputable def mx:SM:=(aK (bd 1 (am ci (ab (ac 0) ai))) (ba 1 (aD ld (ab jA ai))))
noncomputable def bR:Fn:=fnM [false] 2 mx
theorem sc_signs_of:FnScope ["sheet","turns"] ["sheet"] (aj gM):=⟨rfl,rfl,rfl,by decide +kernel,rfl,by decide +kernel,by decide +kernel⟩
theorem pB (B:Bl mg) (D:Def K mg "signs_of" gM) (C_all_turns:aG P w K mg base "all_turns" 6 ["sheet"] ci) (C_threes:aG P w K mg base "threes" 1 ["many"] bZ):aG P w K mg base "signs_of" 7 ["sheet"] bR :=
 aP (k:=6) D sc_signs_of rfl rfl (hb1 fun _ _ _ _ _ _ _=>rfl) fun cdv A outer s H E f G hr hp =>
  (ag (aJ 1 sc_signs_of.nd rfl (Or.inr rfl) (al C_all_turns (hr.mono (by decide)) (aa (rvl 0) ad rfl) rfl (by decide) rfl rfl) rfl (Or.inl rfl) (by rw [hp];rfl)) (ak (aH 1 (fun i hi=>by rw [hp];exact aC (by simpa using hi)) (cO bu il rfl B.tuple cS (aa (bf ["three","turns"] [none,some 1] rfl (cX (al C_threes (hr.mono (by decide)) (aa (aI aF cb rfl B.len dy (aa (rvl 0) ad rfl) (by decide) (by decide) rfl rfl) ad rfl) rfl (by decide) rfl rfl)) (fun s H C fp=>bv) (fun s H C fp=>(aE (aA hr.hu) ay (rvc 1) (rvl 0) (fun _ _=>rfl))) (by rfl) (bQ (by decide)) (fun _=>rfl) ⟨_,aO rfl,fun s H C fp=>aW (i:=0) (show (["three","turns"]:List Str).Nodup by decide +kernel) rfl (Or.inl rfl) (Or.inr rfl)⟩) ad rfl) (by decide) (by decide) rfl rfl))))
noncomputable def iX:SM:=(aK (fH (am cy (ab (ac 0) (ab (mC (.int (24))) (ab (ac 1) ai))))) (ba 2 (am cx (ab (am a9 (ab (ac 0) (ab (ac 1) ai))) (ab (ac 0) (ab (mC (.int (1))) ai))))))
noncomputable def d7:Fn:=fnM [false,false] 2 iX
theorem lg:FnScope ["many","signs"] ["many","signs"] (aj dF):=⟨rfl,rfl,rfl,by decide +kernel,rfl,by decide +kernel,by decide +kernel⟩
theorem kN (B:Bl mg) (D:Def K mg "cup_by_signs" dF) (C_check_signs:aG P w K mg base "check_signs" 4 ["many","most","signs"] cy) (C_longest_row:aG P w K mg base "longest_row" 2 ["turns","many","way"] cx) (C_turns_by_signs:aG P w K mg base "turns_by_signs" 2 ["many","signs"] a9) {tk_MOST_POINTS:Tok} (Q_MOST_POINTS:mg "MOST_POINTS"=some (.int (24) tk_MOST_POINTS)) {tk_UP:Tok} (Q_UP:mg "UP"=some (.int (1) tk_UP)):aG P w K mg base "cup_by_signs" 5 ["many","signs"] d7 :=
 aP (k:=4) D lg rfl rfl (hb2 fun _ _ _ _ _ _ _ _=>rfl) fun cdv A outer s H E f G hr hp =>
  (ag (dI (al C_check_signs (hr.mono (by decide)) (aa (rvl 0) (aa (cG rfl Q_MOST_POINTS (by decide)) (aa (rvl 1) ad rfl) rfl) rfl) rfl (by decide) rfl rfl) rfl) (ak (aH 2 (fun i hi=>by rw [hp];exact aC (by simpa using hi)) (al C_longest_row (hr.mono (by decide)) (aa (al C_turns_by_signs (hr.mono (by decide)) (aa (rvl 0) (aa (rvl 1) ad rfl) rfl) rfl (by decide) rfl rfl) (aa (rvl 0) (aa (cG rfl Q_UP (by decide)) ad rfl) rfl) rfl) rfl (by decide) rfl rfl))))
noncomputable def fI:SM:=(aK (fH (am cy (ab (ac 1) (ab (mC (.int (24))) (ab (ac 2) ai))))) (ba 3 (am bK (ab (am a9 (ab (ac 1) (ab (ac 2) ai))) (ab (ac 0) (ab (ac 1) ai))))))
noncomputable def cr:Fn:=fnM [false,false,false] 3 fI
theorem jv:FnScope ["thing","many","signs"] ["thing","many","signs"] (aj cj):=⟨rfl,rfl,rfl,by decide +kernel,rfl,by decide +kernel,by decide +kernel⟩
theorem jb (B:Bl mg) (D:Def K mg "is_ring_by_signs" cj) (C_check_signs:aG P w K mg base "check_signs" 4 ["many","most","signs"] cy) (C_is_ring_by:aG P w K mg base "is_ring_by" 4 ["turns","thing","many"] bK) (C_turns_by_signs:aG P w K mg base "turns_by_signs" 2 ["many","signs"] a9) {tk_MOST_POINTS:Tok} (Q_MOST_POINTS:mg "MOST_POINTS"=some (.int (24) tk_MOST_POINTS)):aG P w K mg base "is_ring_by_signs" 5 ["thing","many","signs"] cr :=
 aP (k:=4) D jv rfl rfl (hb3 fun _ _ _ _ _ _ _ _ _=>rfl) fun cdv A outer s H E f G hr hp =>
  (ag (dI (al C_check_signs (hr.mono (by decide)) (aa (rvl 1) (aa (cG rfl Q_MOST_POINTS (by decide)) (aa (rvl 2) ad rfl) rfl) rfl) rfl (by decide) rfl rfl) rfl) (ak (aH 3 (fun i hi=>by rw [hp];exact aC (by simpa using hi)) (al C_is_ring_by (hr.mono (by decide)) (aa (al C_turns_by_signs (hr.mono (by decide)) (aa (rvl 1) (aa (rvl 2) ad rfl) rfl) rfl (by decide) rfl rfl) (aa (rvl 0) (aa (rvl 1) ad rfl) rfl) rfl) rfl (by decide) rfl rfl))))
noncomputable def gY:SM:=(aK (bd 5 (ah qy (ah cv (ah cv (ah fS (ah qy (ac 2) (mC (.int 2147483647))) (mC (.int 48271))) (ah fS (mC (.int 7919)) (ac 4))) (mC (.int 1))) (mC (.int 2147483647)))) (aK (bd 5 (ah qy (ah fS (ac 5) (ac 5)) (mC (.int 2147483629)))) (bd 3 (ah cv (ah fS (ac 3) (mC (.int 2147483647))) (ah qy (ah fS (ac 5) (ah cv (ac 5) (mC (.int 13)))) (mC (.int 2147483647)))))))
noncomputable def Ae:SM:=(aK (bd 2 (ah cv (ah fS (mC (.int 7919)) (ac 1)) (mC (.int 13)))) (aK (sIf (cB (ah ltI (ac 1) (aD eS (ab (ac 0) ai)))) (bd 2 (ah aB (ac 0) (ac 1))) d9) (aK (sIf (cB (ah eqX (ah qy (ac 2) (mC (.int 2))) (mC (.int 0)))) (ba 2 (lp (ab (ah CN (ac 2) (mC (.int 2))) ai))) d9) (aK (bd 3 (mC (.int 0))) (aK (fQ (bm dC (ab (mC (.int 16)) ai)) (aw 4) gY) (ba 2 (lp (ab (ac 3) ai))))))))
noncomputable def lK:Fn:=fnM [false,false] 6 Ae
theorem sc_l_box:FnScope ["_law_script","_law_k","_law_here","_law_number","_law_j","_law_part"] ["_law_script","_law_k"] (aj lB):=⟨rfl,rfl,rfl,by decide +kernel,rfl,by decide +kernel,by decide +kernel⟩
theorem vX (B:Bl mg) (D:Def K mg "_law_box" lB):aG P w K mg base "_law_box" 1 ["_law_script","_law_k"] lK :=
 aP (k:=0) D sc_l_box rfl rfl (hb2 fun _ _ _ _ _ _ _ _=>rfl) fun cdv A outer s H E f G hr hp =>
  (ag (aJ 2 sc_l_box.nd rfl (Or.inl rfl) (av aV bh (av cp bG ae (rvl 1)) ae) rfl (Or.inl rfl) (by rw [hp];rfl)) (ag (cZ (bA mo nU (rvl 1) (aI aF cb rfl B.len dy (aa (rvl 0) ad rfl) (by decide) (by decide) rfl rfl) (aS _)) (ak (aJ 2 sc_l_box.nd rfl (Or.inl rfl) (aE (aA hr.hu) ay (rvl 0) (rvl 1) (fun _ _=>rfl)) rfl (Or.inl rfl) (by rw [hp];rfl))) bo) (ag (cZ (bA (cH hr.units) cI (av kz jo (rvl 2) ae) ae (aS _)) (ak (aH 2 (fun i hi=>by rw [hp];exact aC (by simpa using hi)) (iK (aa (av xr zY (rvl 2) ae) ad rfl)))) bo) (ag (aJ 3 sc_l_box.nd rfl (Or.inl rfl) ae rfl (Or.inl rfl) (by rw [hp];rfl)) (ag (en PassesOwn.never rfl (df rfl B.range (aa ae ad rfl) rfl) (cn 4 sc_l_box.nd rfl (Or.inl rfl) (Or.inl rfl) (by rw [hp];rfl)) (ag (aJ 5 sc_l_box.nd rfl (Or.inl rfl) (av kz jo (av aV bh (av aV bh (av cp bG (av kz jo (rvl 2) ae) ae) (av cp bG ae (rvl 4))) ae) ae) rfl (Or.inl rfl) (by rw [hp];rfl)) (ag (aJ 5 sc_l_box.nd rfl (Or.inl rfl) (av kz jo (av cp bG (rvl 5) (rvl 5)) ae) rfl (Or.inl rfl) (by rw [hp];rfl)) (ak (aJ 3 sc_l_box.nd rfl (Or.inl rfl) (av aV bh (av cp bG (rvl 3) ae) (av kz jo (av cp bG (rvl 5) (av aV bh (rvl 5) ae)) ae)) rfl (Or.inl rfl) (by rw [hp];rfl))))) (fun _=>rfl)) (ak (aH 2 (fun i hi=>by rw [hp];exact aC (by simpa using hi)) (iK (aa (rvl 3) ad rfl)))))))))
noncomputable def xI:SM:=(aK (wH (sW 2 (iA (aw 2) (iA (aw 3) sX))) (aD yl (ab (ah aB (ac 0) (mC (.int 0))) (ab (ac 1) ai)))) (aK (rN rH 0 (mC (.int 0)) (ac 2)) (ba 2 (ac 3))))
noncomputable def b5:Fn:=fnM [false,false] 4 xI
theorem sc_l_take:FnScope ["_law_box_here","_law_many","_law_left","_law_digit"] ["_law_box_here","_law_many"] (aj jR):=⟨rfl,rfl,rfl,by decide +kernel,rfl,by decide +kernel,by decide +kernel⟩
theorem sR (B:Bl mg) (D:Def K mg "_law_take" jR):aG P w K mg base "_law_take" 1 ["_law_box_here","_law_many"] b5 :=
 aP (k:=0) D sc_l_take rfl rfl (hb2 fun _ _ _ _ _ _ _ _=>rfl) fun cdv A outer s H E f G hr hp =>
  (ag (BL (BM rfl (qi (cn 2 sc_l_take.nd rfl (Or.inl rfl) (Or.inl rfl) (by rw [hp];rfl)) (qi (cn 3 sc_l_take.nd rfl (Or.inl rfl) (Or.inl rfl) (by rw [hp];rfl)) zp rfl) rfl) rfl rfl) (aI qX vM rfl B.divmod yB (aa (aE (aA hr.hu) ay (rvl 0) ae (fun _ _=>rfl)) (aa (rvl 1) ad rfl) rfl) (by decide) (by decide) rfl rfl) rfl rfl rfl) (ag (rS (i:=0) (oE hr.hu) so (jH rfl (Or.inl rfl) (by decide) (by decide)) ae (rvl 2) (fun _=>rfl) rfl rfl rfl) (ak (aH 2 (fun i hi=>by rw [hp];exact aC (by simpa using hi)) (rvl 3)))))
noncomputable def xJ:SM:=(aK (bd 3 (ah fS (ah gh (ah aB (ac 1) (mC (.int 0))) (ah aB (ac 0) (mC (.int 0)))) (ah gh (ah aB (ac 2) (mC (.int 1))) (ah aB (ac 0) (mC (.int 1)))))) (ba 3 (ah gh (ac 3) (ah fS (ah gh (ah aB (ac 1) (mC (.int 1))) (ah aB (ac 0) (mC (.int 1)))) (ah gh (ah aB (ac 2) (mC (.int 0))) (ah aB (ac 0) (mC (.int 0))))))))
noncomputable def je:Fn:=fnM [false,false,false] 4 xJ
theorem sc_l_bend:FnScope ["_law_one","_law_two","_law_three","_law_across"] ["_law_one","_law_two","_law_three"] (aj jT):=⟨rfl,rfl,rfl,by decide +kernel,rfl,by decide +kernel,by decide +kernel⟩
theorem sT (B:Bl mg) (D:Def K mg "_law_bend" jT):aG P w K mg base "_law_bend" 1 ["_law_one","_law_two","_law_three"] je :=
 aP (k:=0) D sc_l_bend rfl rfl (hb3 fun _ _ _ _ _ _ _ _ _=>rfl) fun cdv A outer s H E f G hr hp =>
  (ag (aJ 3 sc_l_bend.nd rfl (Or.inl rfl) (av cp bG (av b8 bz (aE (aA hr.hu) ay (rvl 1) ae (fun _ _=>rfl)) (aE (aA hr.hu) ay (rvl 0) ae (fun _ _=>rfl))) (av b8 bz (aE (aA hr.hu) ay (rvl 2) ae (fun _ _=>rfl)) (aE (aA hr.hu) ay (rvl 0) ae (fun _ _=>rfl)))) rfl (Or.inl rfl) (by rw [hp];rfl)) (ak (aH 3 (fun i hi=>by rw [hp];exact aC (by simpa using hi)) (av b8 bz (rvl 3) (av cp bG (av b8 bz (aE (aA hr.hu) ay (rvl 1) ae (fun _ _=>rfl)) (aE (aA hr.hu) ay (rvl 0) ae (fun _ _=>rfl))) (av b8 bz (aE (aA hr.hu) ay (rvl 2) ae (fun _ _=>rfl)) (aE (aA hr.hu) ay (rvl 0) ae (fun _ _=>rfl))))))))
noncomputable def gb:SM:=(sIf (cB (ah eqX (am je (ab (ah aB (ac 0) (ac 3)) (ab (ah aB (ac 0) (ac 2)) (ab (ac 1) ai)))) (mC (.int 0)))) (ba 2 (mC (.bl false))) d9)
noncomputable def cK:SM:=(fQ (bm dC (ab (ac 2) ai)) (aw 3) gb)
noncomputable def qE:SM:=(aK (fQ (bm dC (ab (aD eS (ab (ac 0) ai)) ai)) (aw 2) cK) (ba 2 (mC (.bl true))))
noncomputable def kn:Fn:=fnM [false,false] 4 qE
theorem sc_l_free:FnScope ["_law_found","_law_point","_law_k","_law_j"] ["_law_found","_law_point"] (aj jS):=⟨rfl,rfl,rfl,by decide +kernel,rfl,by decide +kernel,by decide +kernel⟩
theorem sS (B:Bl mg) (D:Def K mg "_law_free" jS) (C__law_bend:aG P w K mg base "_law_bend" 1 ["_law_one","_law_two","_law_three"] je):aG P w K mg base "_law_free" 2 ["_law_found","_law_point"] kn :=
 aP (k:=1) D sc_l_free rfl rfl (hb2 fun _ _ _ _ _ _ _ _=>rfl) fun cdv A outer s H E f G hr hp =>
  (ag (en PassesOwn.never rfl (df rfl B.range (aa (aI aF cb rfl B.len dy (aa (rvl 0) ad rfl) (by decide) (by decide) rfl rfl) ad rfl) rfl) (cn 2 sc_l_free.nd rfl (Or.inl rfl) (Or.inl rfl) (by rw [hp];rfl)) (ak (en PassesOwn.never rfl (df rfl B.range (aa (rvl 2) ad rfl) rfl) (cn 3 sc_l_free.nd rfl (Or.inl rfl) (Or.inl rfl) (by rw [hp];rfl)) (ak (cZ (bA (cH hr.units) cI (al C__law_bend (hr.mono (by decide)) (aa (aE (aA hr.hu) ay (rvl 0) (rvl 3) (fun _ _=>rfl)) (aa (aE (aA hr.hu) ay (rvl 0) (rvl 2) (fun _ _=>rfl)) (aa (rvl 1) ad rfl) rfl) rfl) rfl (by decide) rfl rfl) ae (aS _)) (ak (aH 2 (fun i hi=>by rw [hp];exact aC (by simpa using hi)) fY)) bo)) (fun _=>rfl))) (fun _=>rfl)) (ak (aH 2 (fun i hi=>by rw [hp];exact aC (by simpa using hi)) fY)))
noncomputable def dN:M3 Bool:=(jc (cB (am kn (ab (ac 5) (ab (cL (ab (ac 4) (ab (ac 8) ai))) ai)))))
noncomputable def ft:SM:=(bd 8 (ah cv (ac 8) (mC (.int 1))))
noncomputable def fq:SM:=(aK (bd 4 (ah cv (ah cv (ac 4) (mC (.int 1))) (am b5 (ab (ac 0) (ab (mC (.int 3)) ai))))) (aK (bd 7 (ah aB (lp (ab (ah fS (ac 4) (ac 4)) (ab (ah gh (mC (.int 0)) (ah fS (ac 4) (ac 4))) ai))) (ah qy (ac 6) (mC (.int 2))))) (aK (bd 8 (ah aB (lp (ab (am b5 (ab (ac 0) (ab (mC (.int 40)) ai))) (ab (ah fS (ac 4) (ac 4)) (ab (ah gh (mC (.int 9)) (ah fS (ac 4) (ac 4))) (ab (ac 7) (ab (am b5 (ab (ac 0) (ab (mC (.int 6)) ai))) ai)))))) (ac 3))) (aK (gi dN ft) (fH (sE isL AG 5 (ab (cL (ab (ac 4) (ab (ac 8) ai))) ai)))))))
noncomputable def gX:EM:=(cL (ab (ah fS (ac 0) (ah xk (mC (.int 10)) (mC (.int 12)))) (ab (ah cv (ah fS (ac 1) (ah xk (mC (.int 10)) (mC (.int 15)))) (mC (.int 7))) ai)))
noncomputable def fk:EM:=(bL (cT (ac 5)) (sW 2 (iA (aw 0) (iA (aw 1) sX))) ce gX [none,none])
noncomputable def nZ:SM:=(aK (bd 2 (ah cv (mC (.int 1)) (am b5 (ab (ac 0) (ab (ac 1) ai))))) (aK (bd 3 (am b5 (ab (ac 0) (ab (mC (.int 5)) ai)))) (aK (bd 4 (ah gh (mC (.int 0)) (am b5 (ab (ac 0) (ab (mC (.int 9)) ai))))) (aK (bd 5 (lp ai)) (aK (fQ (bm dC (ab (ac 2) ai)) (aw 6) fq) (aK (sIf (cB (ah eqX (am b5 (ab (ac 0) (ab (mC (.int 6)) ai))) (mC (.int 5)))) (bd 5 fk) d9) (ba 2 (aD ld (ab (ac 5) ai)))))))))
noncomputable def js:Fn:=fnM [false,false] 9 nZ
theorem sc_l_sheet:FnScope ["_law_box_here","_law_most","_law_many","_law_kind","_law_x","_law_found","_law_k","_law_bent","_law_y"] ["_law_box_here","_law_most"] (aj jh):=⟨rfl,rfl,rfl,by decide +kernel,rfl,by decide +kernel,by decide +kernel⟩
theorem re (B:Bl mg) (D:Def K mg "_law_sheet" jh) (C__law_free:aG P w K mg base "_law_free" 2 ["_law_found","_law_point"] kn) (C__law_take:aG P w K mg base "_law_take" 1 ["_law_box_here","_law_many"] b5):aG P w K mg base "_law_sheet" 3 ["_law_box_here","_law_most"] js :=
 aP (k:=2) D sc_l_sheet rfl rfl (hb2 fun _ _ _ _ _ _ _ _=>rfl) fun cdv A outer s H E f G hr hp =>
  (ag (aJ 2 sc_l_sheet.nd rfl (Or.inl rfl) (av aV bh ae (al C__law_take (hr.mono (by decide)) (aa (rvl 0) (aa (rvl 1) ad rfl) rfl) rfl (by decide) rfl rfl)) rfl (Or.inl rfl) (by rw [hp];rfl)) (ag (aJ 3 sc_l_sheet.nd rfl (Or.inl rfl) (al C__law_take (hr.mono (by decide)) (aa (rvl 0) (aa ae ad rfl) rfl) rfl (by decide) rfl rfl) rfl (Or.inl rfl) (by rw [hp];rfl)) (ag (aJ 4 sc_l_sheet.nd rfl (Or.inl rfl) (av b8 bz ae (al C__law_take (hr.mono (by decide)) (aa (rvl 0) (aa ae ad rfl) rfl) rfl (by decide) rfl rfl)) rfl (Or.inl rfl) (by rw [hp];rfl)) (ag (aJ 5 sc_l_sheet.nd rfl (Or.inl rfl) (iK ad) rfl (Or.inl rfl) (by rw [hp];rfl)) (ag (en PassesOwn.never rfl (df rfl B.range (aa (rvl 2) ad rfl) rfl) (cn 6 sc_l_sheet.nd rfl (Or.inl rfl) (Or.inl rfl) (by rw [hp];rfl)) (ag (aJ 4 sc_l_sheet.nd rfl (Or.inl rfl) (av aV bh (av aV bh (rvl 4) ae) (al C__law_take (hr.mono (by decide)) (aa (rvl 0) (aa ae ad rfl) rfl) rfl (by decide) rfl rfl)) rfl (Or.inl rfl) (by rw [hp];rfl)) (ag (aJ 7 sc_l_sheet.nd rfl (Or.inl rfl) (aE (aA hr.hu) ay (iK (aa (av cp bG (rvl 4) (rvl 4)) (aa (av b8 bz ae (av cp bG (rvl 4) (rvl 4))) ad rfl) rfl)) (av kz jo (rvl 6) ae) (fun _ _=>rfl)) rfl (Or.inl rfl) (by rw [hp];rfl)) (ag (aJ 8 sc_l_sheet.nd rfl (Or.inl rfl) (aE (aA hr.hu) ay (iK (aa (al C__law_take (hr.mono (by decide)) (aa (rvl 0) (aa ae ad rfl) rfl) rfl (by decide) rfl rfl) (aa (av cp bG (rvl 4) (rvl 4)) (aa (av b8 bz ae (av cp bG (rvl 4) (rvl 4))) (aa (rvl 7) (aa (al C__law_take (hr.mono (by decide)) (aa (rvl 0) (aa ae ad rfl) rfl) rfl (by decide) rfl rfl) ad rfl) rfl) rfl) rfl) rfl)) (rvl 3) (fun _ _=>rfl)) rfl (Or.inl rfl) (by rw [hp];rfl)) (ag (qf PassesOwn.never (eh (eX (al C__law_free (hr.mono (by decide)) (aa (rvl 5) (aa (bO (aa (rvl 4) (aa (rvl 8) ad rfl) rfl)) ad rfl) rfl) rfl (by decide) rfl rfl) (fun _=>rfl))) (ak (aJ 8 sc_l_sheet.nd rfl (Or.inl rfl) (av aV bh (rvl 8) ae) rfl (Or.inl rfl) (by rw [hp];rfl)))) (ak (dI (oN (ok:=isL) PySem.F.plainAttrs_list PySem.F.slot_list_append PySem.F.type_list_append vf Co sL (jH (i:=5) rfl (Or.inl rfl) (by decide) (by decide)) (aa (bO (aa (rvl 4) (aa (rvl 8) ad rfl) rfl)) ad rfl) rfl rfl rfl rfl rfl) rfl)))))) (fun _=>rfl)) (ag (cZ (bA (cH hr.units) cI (al C__law_take (hr.mono (by decide)) (aa (rvl 0) (aa ae ad rfl) rfl) rfl (by decide) rfl rfl) ae (aS _)) (ak (rT (i:=5) sc_l_sheet.nd rfl (Or.inl rfl) ["_law_x","_law_y"] [none,none] rfl (cX (rvl 5)) (fun s H C fp=>bv) (fun s H C fp=>(bO (aa (av cp bG (rvl 0) (av xq tY ae ae)) (aa (av aV bh (av cp bG (rvl 1) (av xq tY ae ae)) ae) ad rfl) rfl))) (by rfl) (bQ (by decide)) rfl (Or.inl rfl) (fun _=>rfl) (by rw [hp];rfl) ⟨_,pI (gJ (aO rfl) (gJ (aO rfl) mU)),fun s H C fp=>sf (n:=2) rfl (iN (aW (i:=0) (show (["_law_x","_law_y"]:List Str).Nodup by decide +kernel) rfl (Or.inl rfl) (Or.inr rfl)) (iN (aW (i:=1) (show (["_law_x","_law_y"]:List Str).Nodup by decide +kernel) rfl (Or.inl rfl) (Or.inr rfl)) oR rfl) rfl) rfl rfl⟩)) bo) (ak (aH 2 (fun i hi=>by rw [hp];exact aC (by simpa using hi)) (cO bu il rfl B.tuple cS (aa (rvl 5) ad rfl) (by decide) (by decide) rfl rfl)))))))))
noncomputable def iV:M3 Bool:=(cB (ah eqX (am b5 (ab (ac 1) (ab (mC (.int 2)) ai))) (mC (.int 1))))
noncomputable def j9:EM:=(ac 0)
noncomputable def mE:EM:=(bL (bm dC (ab (ac 4) ai)) (aw 0) iV j9 [none,some 2])
noncomputable def kc:SM:=(aK (bd 8 (aD ld (ab mE ai))) (sIf (cB (ah neX (am cr (ab (ac 8) (ab (ac 4) (ab (ac 5) ai)))) (am dB (ab (ac 8) (ab (ac 3) ai))))) (ba 1 (mC (.bl false))) d9))
noncomputable def mG:EM:=(ah gh (mC (.int 0)) (ac 0))
noncomputable def mD:EM:=(bL (cT (ac 5)) (aw 0) ce mG [none])
noncomputable def mF:EM:=(cL (ab (ah fS (ac 0) (mC (.int 3))) (ab (ah fS (ac 1) (mC (.int 7))) ai)))
noncomputable def mB:EM:=(bL (cT (ac 3)) (sW 2 (iA (aw 0) (iA (aw 1) sX))) ce mF [none,none])
noncomputable def kb:SM:=(aK (bd 2 (am lK (ab (ac 0) (ab (ac 1) ai)))) (aK (bd 3 (am js (ab (ac 2) (ab (mC (.int 9)) ai)))) (aK (bd 4 (aD eS (ab (ac 3) ai))) (aK (bd 5 (am bR (ab (ac 3) ai))) (aK (sIf (cOr (cB (ah isnB (am eW (ab (ac 4) (ab (ac 5) ai))) (mC (.bl true)))) (cB (ah neX (am d7 (ab (ac 4) (ab (ac 5) ai))) (am eO (ab (ac 3) ai))))) (ba 1 (mC (.bl false))) d9) (aK (fQ (bm dC (ab (mC (.int 12)) ai)) (aw 6) kc) (aK (bd 7 (ah gh (am b5 (ab (ac 2) (ab (mC (.int 19)) ai))) (mC (.int 9)))) (aK (sIf (cOr (cB (ah neX (am bR (ab (am c9 (ab (ac 3) ai)) ai)) (aD ld (ab mD ai)))) (cB (ah neX (am bR (ab (am gK (ab (ac 3) (ab (ac 7) ai))) ai)) (ac 5)))) (ba 1 (mC (.bl false))) d9) (aK (sIf (cB (ah neX (am bR (ab (aD ld (ab mB ai)) ai)) (ac 5))) (ba 1 (mC (.bl false))) d9) (sIf (cB (ah gtI (ac 4) (mC (.int 3)))) (aK (bd 9 (mSl slD (ac 3) tW (j5 (mC (.int 4))))) (aK (bd 10 (am bR (ab (ac 9) ai))) (sIf (cB (ah neX (am dB (ab (cL (ab (mC (.int 0)) (ab (mC (.int 1)) (ab (mC (.int 2)) (ab (mC (.int 3)) ai))))) (ab (ac 9) ai))) (i5 (ah eqX (ah aB (ac 10) (mC (.int 0))) (ah aB (ac 10) (mC (.int 1)))) (ah eqX (ah aB (ac 10) (mC (.int 2))) (ah aB (ac 10) (mC (.int 3))))))) (ba 1 (mC (.bl false))) d9))) d9))))))))))
noncomputable def m_law:SM:=(aK (fQ (bm dC (ab (aD A3 (ab (mC (.int 1)) (ab (aD A2 (ab (aD eS (ab (ac 0) ai)) (ab (mC (.int 3)) ai))) ai))) ai)) (aw 1) kb) (ba 1 (mC (.bl true))))
noncomputable def Be:Fn:=fnM [false] 11 m_law
theorem sc_law:FnScope ["_law_script","_law_k","_law_box_here","_law_sheet_here","_law_many","_law_signs","_law_lap","_law_by","_law_some","_law_four","_law_told"] ["_law_script"] (aj iI):=⟨rfl,rfl,rfl,by decide +kernel,rfl,by decide +kernel,by decide +kernel⟩
theorem Ax {f:Addr} {fd:FuncData} (B:Bl mg) (D:Fun K "law" "law" iI f fd) (C__law_box:aG P w K mg base "_law_box" 1 ["_law_script","_law_k"] lK) (C__law_sheet:aG P w K mg base "_law_sheet" 3 ["_law_box_here","_law_most"] js) (C__law_take:aG P w K mg base "_law_take" 1 ["_law_box_here","_law_many"] b5) (C_are_signs:aG P w K mg base "are_signs" 4 ["many","thing"] eW) (C_cup_by_signs:aG P w K mg base "cup_by_signs" 5 ["many","signs"] d7) (C_is_ring:aG P w K mg base "is_ring" 7 ["thing","sheet"] dB) (C_is_ring_by_signs:aG P w K mg base "is_ring_by_signs" 5 ["thing","many","signs"] cr) (C_longest_cup:aG P w K mg base "longest_cup" 7 ["sheet"] eO) (C_sheared:aG P w K mg base "sheared" 6 ["sheet","by"] gK) (C_signs_of:aG P w K mg base "signs_of" 7 ["sheet"] bR) (C_turned_over:aG P w K mg base "turned_over" 6 ["sheet"] c9):FnOk P w K mg base CX0 8 f fd ["_law_script"] (uN K Be) :=
 CJ (k:=7) D sc_law rfl rfl fun cdv A outer s H E f G hr hp =>
  (ag (en PassesOwn.never rfl (df rfl B.range (aa (aI (vW rfl) AE rfl B.max yA (aa ae (aa (aI (vS rfl) AB rfl B.min yz (aa (aI aF cb rfl B.len dy (aa (rvl 0) ad rfl) (by decide) (by decide) rfl rfl) (aa ae ad rfl) rfl) (by decide) (by decide) rfl rfl) ad rfl) rfl) (by decide) (by decide) rfl rfl) ad rfl) rfl) (cn 1 sc_law.nd rfl (Or.inl rfl) (Or.inl rfl) (by rw [hp];rfl)) (ag (aJ 2 sc_law.nd rfl (Or.inr rfl) (al C__law_box (hr.mono (by decide)) (aa (rvl 0) (aa (rvl 1) ad rfl) rfl) rfl (by decide) rfl rfl) rfl (Or.inl rfl) (by rw [hp];rfl)) (ag (aJ 3 sc_law.nd rfl (Or.inl rfl) (al C__law_sheet (hr.mono (by decide)) (aa (rvc 2) (aa ae ad rfl) rfl) rfl (by decide) rfl rfl) rfl (Or.inl rfl) (by rw [hp];rfl)) (ag (aJ 4 sc_law.nd rfl (Or.inl rfl) (aI aF cb rfl B.len dy (aa (rvl 3) ad rfl) (by decide) (by decide) rfl rfl) rfl (Or.inl rfl) (by rw [hp];rfl)) (ag (aJ 5 sc_law.nd rfl (Or.inl rfl) (al C_signs_of (hr.mono (by decide)) (aa (rvl 3) ad rfl) rfl (by decide) rfl rfl) rfl (Or.inl rfl) (by rw [hp];rfl)) (ag (cZ (qe (lZ (bA zR zW (al C_are_signs (hr.mono (by decide)) (aa (rvl 4) (aa (rvl 5) ad rfl) rfl) rfl (by decide) rfl rfl) fY (aS _)) (jE (bA (iO hr.units) iP (al C_cup_by_signs (hr.mono (by decide)) (aa (rvl 4) (aa (rvl 5) ad rfl) rfl) rfl (by decide) rfl rfl) (al C_longest_cup (hr.mono (by decide)) (aa (rvl 3) ad rfl) rfl (by decide) rfl rfl) (aS _))))) (ak (aH 1 (fun i hi=>by rw [hp];exact aC (by simpa using hi)) fY)) bo) (ag (en PassesOwn.never rfl (df rfl B.range (aa ae ad rfl) rfl) (cn 6 sc_law.nd rfl (Or.inl rfl) (Or.inl rfl) (by rw [hp];rfl)) (ag (aJ 8 sc_law.nd rfl (Or.inl rfl) (cO bu il rfl B.tuple cS (aa (bf ["_law_place","_law_box_here"] [none,some 2] rfl (df rfl B.range (aa (rvl 4) ad rfl) rfl) (fun s H C fp=>(gw (bA (cH hr.units) cI (al C__law_take (hr.mono (by decide)) (aa (rvc 1) (aa ae ad rfl) rfl) rfl (by decide) rfl rfl) ae (aS _)))) (fun s H C fp=>(rvl 0)) (by rfl) (bQ (by decide)) (fun _=>rfl) ⟨_,aO rfl,fun s H C fp=>aW (i:=0) (show (["_law_place","_law_box_here"]:List Str).Nodup by decide +kernel) rfl (Or.inl rfl) (Or.inr rfl)⟩) ad rfl) (by decide) (by decide) rfl rfl) rfl (Or.inl rfl) (by rw [hp];rfl)) (ak (cZ (bA (iO hr.units) iP (al C_is_ring_by_signs (hr.mono (by decide)) (aa (rvl 8) (aa (rvl 4) (aa (rvl 5) ad rfl) rfl) rfl) rfl (by decide) rfl rfl) (al C_is_ring (hr.mono (by decide)) (aa (rvl 8) (aa (rvl 3) ad rfl) rfl) rfl (by decide) rfl rfl) (aS _)) (ak (aH 1 (fun i hi=>by rw [hp];exact aC (by simpa using hi)) fY)) bo))) (fun _=>rfl)) (ag (aJ 7 sc_law.nd rfl (Or.inl rfl) (av b8 bz (al C__law_take (hr.mono (by decide)) (aa (rvc 2) (aa ae ad rfl) rfl) rfl (by decide) rfl rfl) ae) rfl (Or.inl rfl) (by rw [hp];rfl)) (ag (cZ (qe (lZ (bA (iO hr.units) iP (al C_signs_of (hr.mono (by decide)) (aa (al C_turned_over (hr.mono (by decide)) (aa (rvl 3) ad rfl) rfl (by decide) rfl rfl) ad rfl) rfl (by decide) rfl rfl) (cO bu il rfl B.tuple cS (aa (bf ["_law_one"] [none] rfl (cX (rvl 5)) (fun s H C fp=>bv) (fun s H C fp=>(av b8 bz ae (rvl 0))) (by rfl) (bQ (by decide)) (fun _=>rfl) ⟨_,aO rfl,fun s H C fp=>aW (i:=0) (show (["_law_one"]:List Str).Nodup by decide +kernel) rfl (Or.inl rfl) (Or.inr rfl)⟩) ad rfl) (by decide) (by decide) rfl rfl) (aS _)) (jE (bA (iO hr.units) iP (al C_signs_of (hr.mono (by decide)) (aa (al C_sheared (hr.mono (by decide)) (aa (rvl 3) (aa (rvl 7) ad rfl) rfl) rfl (by decide) rfl rfl) ad rfl) rfl (by decide) rfl rfl) (rvl 5) (aS _))))) (ak (aH 1 (fun i hi=>by rw [hp];exact aC (by simpa using hi)) fY)) bo) (ag (cZ (bA (iO hr.units) iP (al C_signs_of (hr.mono (by decide)) (aa (cO bu il rfl B.tuple cS (aa (bf ["_law_x","_law_y"] [none,none] rfl (cX (rvl 3)) (fun s H C fp=>bv) (fun s H C fp=>(bO (aa (av cp bG (rvl 0) ae) (aa (av cp bG (rvl 1) ae) ad rfl) rfl))) (by rfl) (bQ (by decide)) (fun _=>rfl) ⟨_,pI (gJ (aO rfl) (gJ (aO rfl) mU)),fun s H C fp=>sf (n:=2) rfl (iN (aW (i:=0) (show (["_law_x","_law_y"]:List Str).Nodup by decide +kernel) rfl (Or.inl rfl) (Or.inr rfl)) (iN (aW (i:=1) (show (["_law_x","_law_y"]:List Str).Nodup by decide +kernel) rfl (Or.inl rfl) (Or.inr rfl)) oR rfl) rfl) rfl rfl⟩) ad rfl) (by decide) (by decide) rfl rfl) ad rfl) rfl (by decide) rfl rfl) (rvl 5) (aS _)) (ak (aH 1 (fun i hi=>by rw [hp];exact aC (by simpa using hi)) fY)) bo) (ak (cZ (bA AZ A0 (rvl 4) ae (aS _)) (ag (aJ 9 sc_law.nd rfl (Or.inl rfl) (me (rvl 3) zh (jX ae)) rfl (Or.inl rfl) (by rw [hp];rfl)) (ag (aJ 10 sc_law.nd rfl (Or.inl rfl) (al C_signs_of (hr.mono (by decide)) (aa (rvl 9) ad rfl) rfl (by decide) rfl rfl) rfl (Or.inl rfl) (by rw [hp];rfl)) (ak (cZ (bA (iO hr.units) iP (al C_is_ring (hr.mono (by decide)) (aa (bO (aa ae (aa ae (aa ae (aa ae ad rfl) rfl) rfl) rfl)) (aa (rvl 9) ad rfl) rfl) rfl (by decide) rfl rfl) (gS (gl (cH hr.units) cI (aE (aA hr.hu) ay (rvl 10) ae (fun _ _=>rfl)) (aE (aA hr.hu) ay (rvl 10) ae (fun _ _=>rfl)) (aS _)) (iJ (gl (cH hr.units) cI (aE (aA hr.hu) ay (rvl 10) ae (fun _ _=>rfl)) (aE (aA hr.hu) ay (rvl 10) ae (fun _ _=>rfl)) (aS _)))) (aS _)) (ak (aH 1 (fun i hi=>by rw [hp];exact aC (by simpa using hi)) fY)) bo)))) bo))))))))))) (fun _=>rfl)) (ak (aH 1 (fun i hi=>by rw [hp];exact aC (by simpa using hi)) fY)))
end
set_option tactic.hygienic true in
theorem gv (i:Int):bj [(.int i,.z)]=some (.ok (.bl true,.z),[(.int i,.z)]):=by
 apply aY (ρ:=[some (.int i,.z)]) rfl rfl
 ·(repeat' (first | infer_instance | eq_refl))
 ·rfl
set_option tactic.hygienic true in
theorem uU (p:Pt):ir [(Pd p,.z)]=some (.ok (.bl true,.z),[(Pd p,.z)]):=by
 apply aY (ρ:=[some (Pd p,.z)]) rfl rfl
 ·(repeat' (first | infer_instance | with_reducible apply au (gv _) | eq_refl))
 ·rfl
theorem pj {f f':L3.D->L3.D->Option (L3.D × Fl)} {ma mb mc:EM} {ra rb rc:R3} {ρ ρ1 ρ2 ρ3:Sto} {da db db2 dc d:L3.D} {fl fl2:Fl} (h1:ma ρ=some (.ok ra,ρ1)) (h2:mb ρ1=some (.ok rb,ρ2)) (h3:der ra ρ2=some (.ok da,ρ2)) (h4:der rb ρ2=some (.ok db,ρ2)) (h5:f da db=some (.bl true,fl)) (h6:mc ρ2=some (.ok rc,ρ3)) (h7:der rb ρ3=some (.ok db2,ρ3)) (h8:der rc ρ3=some (.ok dc,ρ3)) (h9:f' db2 dc=some (d,fl2)):iZ f f' ma mb mc ρ=some (.ok (.val d fl2),ρ3):=by
 simp only [iZ,af,h1,h2,h3,h4,h5,bD,Option.bind_some,asB,Dz,if_true,h6,h7,h8,h9]
set_option tactic.hygienic true in
theorem wT (ps:List Pt) (h0:0 < ps.length) (h1:ps.length<=24):fy [(Shd ps,.z)]=some (.ok (.bl true,.z),[(Shd ps,.z)]):=by
 obtain ⟨τ',e,a,rfl⟩:=dY (bnd:=aw 0) (c:=ce) (elt:=eZ) (fun τ=>∃ a,τ=[a]) (fun _=>true) (fun _=>.bl true) (ds:=ps.map Pd) (τ:=[none]) ⟨none,rfl⟩ (by
  rintro d hd τ ⟨a,rfl⟩
  obtain ⟨p,hp,rfl⟩:=Dk.mp hd
  exact ⟨[some (Pd p,.z)],_,rfl,rfl,(fun h=>by cases h),fun _=>⟨.val (.bl true) .z,[some (Pd p,.z)],(.bl true,.z),[some (Pd p,.z)],by unfold eZ;(repeat' (first | infer_instance | with_reducible apply au (uU _) | eq_refl)),rfl,rfl,_,rfl⟩⟩)
 have e3:=fB (ds:=((ps.map Pd).filter fun _=>true).map fun _=>.bl true) (fun d hd=>by obtain ⟨_,_,rfl⟩:=Dk.mp hd;rfl)
 generalize ((ps.map Pd).filter fun _=>true).map (fun _=>L3.D.bl true)=out at *
 have e2:iz [some (Shd ps,.z)]=some (.ok (.val (.lst out) .u),[some (Shd ps,.z)]):=aT (im:=cT (ac 0)) (ix:=[none]) (ρ1:=[some (Shd ps,.z)]) (ρ2:=[some (Shd ps,.z)]) (ds:=ps.map Pd) (rs:=[.pl 0]) rfl e (by simp;omega) rfl
 have l1:leI (.int 1) (.int ((ps.map Pd).length:Int))=some (.bl true,.z):=by simp [fN];omega
 have l2:leI (.int ((ps.map Pd).length:Int)) (.int 24)=some (.bl true,.z):=by simp [fN];omega
 apply aY (ρ:=[some (Shd ps,.z)]) rfl rfl
 ·apply cV
  ·apply jr
   ·apply pj
    ·exact i_c
    ·(repeat' (first | infer_instance | eq_refl))
    ·rfl
    ·rfl
    ·exact l1
    ·exact i_c
    ·rfl
    ·rfl
    ·exact l2
   ·rfl
   ·rfl
   ·(repeat' (first | with_reducible exact e2 | infer_instance | exact e3 | eq_refl))
  ·rfl
 ·rfl
theorem fG {xs:List L3.D} {k:Int} {d:L3.D} (h:L2.atI xs k=some d):aB (.tup xs) (.int k)=some (d,.z):=by
 show orD ixD qM (.tup xs) (.int k)=_
 simp [orD,ixD,h]
theorem za {xs:List L3.D} {k:Int} {d:L3.D} (h:L2.atI xs k=some d):aB (.lst xs) (.int k)=some (d,.z):=by
 show orD ixD qM (.lst xs) (.int k)=_
 simp [orD,ixD,h]
set_option tactic.hygienic true in
theorem wK (ps:List Pt) (h0:0 < ps.length) (h1:ps.length<=24) (R:Rising ps):d6 [(Shd ps,.z)]=some (.ok (.bl true,.z),[(Shd ps,.z)]):=by
 obtain ⟨τ',e,a,rfl⟩:=dY (bnd:=aw 0) (c:=ce) (elt:=dO) (fun τ=>∃ a,τ=[a,some (Shd ps,.z)]) (fun _=>true) (fun _=>.bl true) (ds:=bc 0 (ps.length - 1)) (τ:=[none,some (Shd ps,.z)]) ⟨none,rfl⟩ (by
  rintro d hd τ ⟨a,rfl⟩
  obtain ⟨i,hi⟩:=List.getElem?_of_mem hd
  obtain ⟨hi,rfl⟩:=dJ hi
  have q1:ps[i]?=some ps[i]:=Dc _
  have q2:ps[i+1]?=some ps[i+1]:=Dc _
  have hlt:=R i (i+1) _ _ (by omega) q1 q2
  have a1:aB (Shd ps) (.int (0+(i:Int)))=some (Pd ps[i],.z):=fG (by rw [Int.zero_add];exact sY q1)
  have a2:aB (Shd ps) (.int (0+(i:Int)+1))=some (Pd ps[i+1],.z):=fG (by rw [Int.zero_add];exact sY q2)
  have hl:ltI (.int ps[i].1) (.int ps[i+1].1)=some (.bl true,.z):=by simp [fN,hlt]
  generalize (0+(i:Int))=j at *
  refine ⟨[some (.int j,.z),some (Shd ps,.z)],_,rfl,rfl,(fun h=>by cases h),fun _=>⟨.val (.bl true) .z,[some (.int j,.z),some (Shd ps,.z)],(.bl true,.z),[some (.int j,.z),some (Shd ps,.z)],?_,rfl,rfl,_,rfl⟩⟩
  unfold dO
  (repeat' (first | infer_instance | exact a1 | exact a2 | exact hl | eq_refl)))
 have tn:((ps.length:Int) - 1).toNat=ps.length - 1:=by omega
 have hr:dC [.int (((ps.map Pd).length:Int) - 1)]=some (bc 0 (ps.length - 1)):=dL (by simp;omega) (by simp)
 have e3:=fB (ds:=((bc 0 (ps.length - 1)).filter fun _=>true).map fun _=>.bl true) (fun d hd=>by obtain ⟨_,_,rfl⟩:=Dk.mp hd;rfl)
 generalize ((bc 0 (ps.length - 1)).filter fun _=>true).map (fun _=>L3.D.bl true)=out at *
 have e2:gc [some (Shd ps,.z)]=some (.ok (.val (.lst out) .u),[some (Shd ps,.z)]):=aT (ρ1:=[some (Shd ps,.z)]) (rs:=[]) (by (repeat' (first | with_reducible apply dw (h3:=hr) | infer_instance | eq_refl))) e (by rw [bN];omega) rfl
 apply aY (ρ:=[some (Shd ps,.z)]) rfl rfl
 ·unfold iW;(repeat' (first | with_reducible exact e2 | infer_instance | exact e3 | eq_refl))
 ·rfl
set_option tactic.hygienic true in
theorem wq {n i j:Nat} (xs:List L3.D) (hn:n<=25) (hj:j < n) (elt:EM) (he:∀ (a b c:L3.D),elt [some (c,.z),some (a,.z),some (b,.z)]=some (.ok (.val (.tup [a,b,c]) .z),[some (c,.z),some (a,.z),some (b,.z)])) :
  bL (bm gj (ab (ah cv (ac 3) (mC (.int 1))) (ab (ac 0) ai))) (aw 0) ce elt [none,some 2,some 3] [some (.int n,.z),some (.lst xs,.u),some (.int i,.z),some (.int j,.z)]=some (.ok (.val (.lst ((li i j (n - (j+1))).map Td)) .u),[some (.int n,.z),some (.lst xs,.u),some (.int i,.z),some (.int j,.z)]):=by
 obtain ⟨τ',e,a,rfl⟩:=dY (bnd:=aw 0) (c:=ce) (elt:=elt) (fun τ=>∃ a,τ=[a,some (.int i,.z),some (.int j,.z)]) (fun _=>true) (fun d=>.tup [.int i,.int j,d]) (ds:=bc ((j:Int)+1) (n - (j+1))) (τ:=[none,some (.int i,.z),some (.int j,.z)]) ⟨none,rfl⟩ (by
  rintro d hd τ ⟨a,rfl⟩
  exact ⟨[some (d,.z),some (.int i,.z),some (.int j,.z)],_,rfl,rfl,(fun h=>by cases h),fun _=>⟨_,_,(.tup [.int i,.int j,d],.z),_,he _ _ _,rfl,rfl,_,rfl⟩⟩)
 have e4:((bc ((j:Int)+1) (n - (j+1))).filter fun _=>true).map (fun d=>L3.D.tup [.int i,.int j,d])=(li i j (n - (j+1))).map Td:=by
  rw [DK.mpr (fun _ _=>rfl)]
  simp [bc,li,Function.comp_def]
 rw [e4] at e
 have hr:gj [.int ((j:Int)+1),.int n]=some (bc ((j:Int)+1) (n - (j+1))):=jl (by omega) (by omega) (by omega)
 exact aT (rs:=[]) (by (repeat' (first | with_reducible apply dw (h3:=hr) | infer_instance | eq_refl))) e (by rw [bN];omega) rfl
theorem yg {A B:List L3.D} (h:A.length+B.length<=16777216):vG (.lst A) [.lst B]=some (.lst (A ++ B),.non):=by simp [vG,h]
theorem C0 {A:List L3.D} {d:L3.D} (h:A.length < 16777216):AG (.lst A) [d]=some (.lst (A ++ [d]),.non):=by simp [AG,h]
theorem lI {A B:List L3.D} (h:A.length+B.length<=16777216):cv (.tup A) (.tup B)=some (.tup (A ++ B),.z):=by simp [orD,fN,CT,CS,CU,h]
set_option tactic.hygienic true in
theorem uL {n:Nat} (hn:n<=25) {b1 b2:SM} (h2:b2=fQ (bm gj (ab (ah cv (ac 2) (mC (.int 1))) (ab (ac 0) ai))) (aw 3) b1)
  (h1:∀ (i j:Nat) (xs:List L3.D),j < n->xs.length<=20000->b1 [some (.int n,.z),some (.lst xs,.u),some (.int i,.z),some (.int j,.z)]=some (.ok .nx,[some (.int n,.z),some (.lst (xs ++ (li i j (n - (j+1))).map Td),.u),some (.int i,.z),some (.int j,.z)])) :
  ∃ v2 v3,fQ (bm dC (ab (ac 0) ai)) (aw 2) b2 [some (.int n,.z),some (.lst [],.u),none,none]=some (.ok .nx,[some (.int n,.z),some (.lst ((aU n).map Td),.u),v2,v3]):=by
 have inner:∀ (i:Nat) (xs:List Tri) (v3:Option (L3.D × Fl)),i < n->xs.length<=15625->∃ v3',b2 [some (.int n,.z),some (.lst (xs.map Td),.u),some (.int i,.z),v3]=some (.ok .nx,[some (.int n,.z),some (.lst ((xs ++ jG n i (n - (i+1))).map Td),.u),some (.int i,.z),v3']):=by
  intro i xs v3 hi hx
  obtain ⟨ρ',e,v3',rfl⟩:=cu (bnd:=aw 3) (b:=b1) (fun m ρ=>∃ v3,ρ=[some (.int n,.z),some (.lst ((xs ++ jG n i m).map Td),.u),some (.int i,.z),v3]) (ds:=bc ((i:Int)+1) (n - (i+1))) (ρ:=[some (.int n,.z),some (.lst (xs.map Td),.u),some (.int i,.z),v3]) (k:=0) ⟨v3,by simp [jG]⟩ (by
   rintro m d ρ hd ⟨v3,rfl⟩
   obtain ⟨hm,rfl⟩:=dJ hd
   have hx2:((xs ++ jG n i m).map Td).length<=20000:=by
    have:=rV (n:=n) (i:=i) (m:=m) hn (by omega)
    simp only [Dg,Dw]
    omega
   have c:=h1 i (i+1+m) ((xs ++ jG n i m).map Td) (by omega) hx2
   rw [show ((i+1+m:Nat):Int)=(i:Int)+1+m by omega,<- List.map_append,List.append_assoc,<- nN] at c
   exact ⟨_,_,by rw [Du];rfl,.inl c,_,by rw [Du]⟩)
  refine ⟨v3',?_⟩
  rw [bN,Du] at e
  have hr:gj [.int ((i:Int)+1),.int n]=some (bc ((i:Int)+1) (n - (i+1))):=jl (by omega) (by omega) (by omega)
  rw [h2]
  apply gG
  ·(repeat' (first | with_reducible apply dw (h3:=hr) | infer_instance | eq_refl))
  ·rfl
  ·exact e
 obtain ⟨ρ',e,v2,v3,rfl⟩:=cu (bnd:=aw 2) (b:=b2) (fun m ρ=>∃ v2 v3,ρ=[some (.int n,.z),some (.lst ((m8 n m).map Td),.u),v2,v3]) (ds:=bc 0 n) (ρ:=[some (.int n,.z),some (.lst [],.u),none,none]) (k:=0) ⟨none,none,rfl⟩ (by
  rintro m d ρ hd ⟨v2,v3,rfl⟩
  obtain ⟨hm,rfl⟩:=dJ hd
  rw [Du,Int.zero_add]
  obtain ⟨v3',e⟩:=inner m (m8 n m) v3 hm (l6 hn (by omega))
  rw [<- nO] at e
  exact ⟨_,_,rfl,.inl e,_,_,rfl⟩)
 rw [bN,Du] at e
 have hr:dC [.int (n:Int)]=some (bc 0 n):=dL (by omega) (by omega)
 refine ⟨v2,v3,?_⟩
 apply gG
 ·(repeat' (first | with_reducible apply dw (h3:=hr) | infer_instance | eq_refl))
 ·rfl
 ·exact e
set_option tactic.hygienic true in
theorem eg (n:Nat) (hn:n<=25):bZ [(.int n,.z)]=some (.ok (.lst ((aU n).map Td),.u),[(.int n,.z)]):=by
 obtain ⟨v2,v3,e⟩:=uL (n:=n) hn (b1:=iT) (b2:=kY) rfl (by
  intro i j xs hj hx
  have c:=wq (n:=n) (i:=i) (j:=j) xs hn hj iS (fun a b c=>by unfold iS;(repeat' (first | infer_instance | eq_refl)))
  have hl:xs.length+((li i j (n - (j+1))).map Td).length<=16777216:=by
   rw [Dg,qg];omega
  unfold iT kX
  (repeat' (first | with_reducible exact c | infer_instance | exact yg hl | eq_refl)))
 apply aY (ρ:=[some (.int n,.z),none,none,none]) rfl rfl
 ·apply ao
  ·(repeat' (first | infer_instance | eq_refl))
  ·apply ao
   ·exact e
   ·(repeat' (first | infer_instance | eq_refl))
 ·rfl
theorem t0 {i j:Int}:neX (.int i) (.int j)=some (.bl (!decide (i=j)),.z):=rfl
noncomputable def fE (p q r:Pt):Int:=if 0 < aM p q r then 1 else -1
set_option tactic.hygienic true in
theorem jU (n m:Int) (h:0 < m/\m < 1073741824):b5 [(.lst [.int n],.u),(.int m,.z)]=some (.ok (.int (n % m),.z),[(.lst [.int (n / m)],.u),(.int m,.z)]):=by
 have hd:yl [.int n,.int m]=some (.tup [.int (n / m),.int (n % m)],.z):=by simp [c2,qJ,h]
 apply aY (ρ:=[some (.lst [.int n],.u),some (.int m,.z),none,none]) rfl rfl
 ·apply ao
  ·(repeat' (first | infer_instance | exact hd | eq_refl))
  ·apply ao
   ·(repeat' (first | infer_instance | eq_refl))
   ·(repeat' (first | infer_instance | eq_refl))
 ·rfl
set_option tactic.hygienic true in
theorem wS (p q r:Int × Int) (h1:-18446744073709551616 < q.1 - p.1/\q.1 - p.1 < 18446744073709551616) (h2:-18446744073709551616 < q.2 - p.2/\q.2 - p.2 < 18446744073709551616):je [(Pd p,.z),(Pd q,.z),(Pd r,.z)]=some (.ok (.int (aM p q r),.z),[(Pd p,.z),(Pd q,.z),(Pd r,.z)]):=by
 apply aY (ρ:=[some (Pd p,.z),some (Pd q,.z),some (Pd r,.z),none]) rfl rfl
 ·apply ao
  ·(repeat' (first | infer_instance | exact iQ h1 | eq_refl))
  ·(repeat' (first | infer_instance | exact iQ h2 | eq_refl))
 ·rfl
theorem fv (c:Int) (m:Int) (h:0 < m):0<=c % m/\c % m < m:=⟨Int.emod_nonneg _ (by omega),Int.emod_lt_of_pos _ h⟩
set_option tactic.hygienic true in
theorem yy (S kk:L3.D) (c n j:Int) (v5:Option (L3.D × Fl)):∃ n' p',gY [some (S,.z),some (kk,.z),some (.int c,.z),some (.int n,.z),some (.int j,.z),v5]=some (.ok .nx,[some (S,.z),some (kk,.z),some (.int c,.z),some (.int n',.z),some (.int j,.z),some (.int p',.z)]):=by
 have b:∀ x:Int,-18446744073709551616 < x % 2147483647/\x % 2147483647 < 18446744073709551616:=fun x=>by have:=fv x 2147483647 (by decide);omega
 have b2:∀ x:Int,-18446744073709551616 < x % 2147483629/\x % 2147483629 < 18446744073709551616:=fun x=>by have:=fv x 2147483629 (by decide);omega
 apply Exists.intro
 apply Exists.intro
 apply ao
 ·(repeat' (first | infer_instance | exact qw (by decide) | exact iQ (by decide) | eq_refl))
 ·apply ao
  ·(repeat' (first | infer_instance | exact iQ (b _) | eq_refl))
  ·(repeat' (first | infer_instance | exact qw (by decide) | exact iQ (b2 _) | eq_refl))
set_option tactic.hygienic true in
theorem rh (S kk:L3.D) (c:Int):∃ (n:Int) (v3 v4 v5:Option (L3.D × Fl)),(aK (sIf (cB (ah eqX (ah qy (ac 2) (mC (.int 2))) (mC (.int 0)))) (ba 2 (lp (ab (ah CN (ac 2) (mC (.int 2))) ai))) d9) (aK (bd 3 (mC (.int 0))) (aK (fQ (bm dC (ab (mC (.int 16)) ai)) (aw 4) gY) (ba 2 (lp (ab (ac 3) ai)))))) [some (S,.z),some (kk,.z),some (.int c,.z),none,none,none]=some (.ok (.rt (.lst [.int n]) .u),[some (S,.z),some (kk,.z),some (.int c,.z),v3,v4,v5]):=by
 by_cases h:c % 2=0
 ·refine ⟨c / 2,none,none,none,?_⟩
  apply oF
  apply mL
  ·(repeat' (first | infer_instance | eq_refl))
  ·exact Dr h
  ·(repeat' (first | infer_instance | eq_refl))
 ·obtain ⟨ρ',e,n,v4,v5,rfl⟩:=cu (bnd:=aw 4) (b:=gY) (fun _ ρ=>∃ (n:Int) (v4 v5:Option (L3.D × Fl)),ρ=[some (S,.z),some (kk,.z),some (.int c,.z),some (.int n,.z),v4,v5]) (ds:=bc 0 16) (ρ:=[some (S,.z),some (kk,.z),some (.int c,.z),some (.int 0,.z),none,none]) (k:=0) ⟨0,none,none,rfl⟩ (by
   rintro i d ρ hd ⟨n,v4,v5,rfl⟩
   obtain ⟨hi,rfl⟩:=dJ hd
   obtain ⟨n',p',e⟩:=yy S kk c n (0+(i:Int)) v5
   exact ⟨_,_,rfl,.inl e,_,_,_,rfl⟩)
  refine ⟨n,some (.int n,.z),v4,v5,?_⟩
  apply ao
  ·apply c8
   ·(repeat' (first | infer_instance | eq_refl))
   ·exact Ds h
   ·rfl
  apply ao
  ·(repeat' (first | infer_instance | eq_refl))
  apply ao
  ·apply gG
   ·exact dw (by (repeat' (first | infer_instance | eq_refl))) rfl (dL (n:=16) (by decide) (by decide))
   ·rfl
   ·exact e
  ·(repeat' (first | infer_instance | eq_refl))
set_option tactic.hygienic true in
theorem zg (ns:List Int) (k:Nat):∃ n:Int,lK [(.fls (ns.map .int),.z),(.int k,.z)]=some (.ok (.lst [.int n],.u),[(.fls (ns.map .int),.z),(.int k,.z)]):=by
 by_cases h:k < ns.length
 ·obtain ⟨n,v3,v4,v5,e⟩:=rh (.fls (ns.map .int)) (.int k) ns[k]
  refine ⟨n,?_⟩
  have a:aB (.fls (ns.map .int)) (.int (k:Int))=some (.int ns[k],.z):=by
   have:L2.atI (ns.map L3.D.int) (k:Int)=some (.int ns[k]):=lJ (by simp [h])
   simp [orD,ixD,this]
  have hk:(k:Int) < ((ns.map L3.D.int).length:Int):=by simp;omega
  generalize (k:Int)=kk at *
  apply aY (ρ:=[some (.fls (ns.map .int),.z),some (.int kk,.z),none,none,none,none]) rfl rfl
  ·apply ao
   ·(repeat' (first | infer_instance | exact iQ (by decide) | eq_refl))
   apply ao
   ·apply mL
    ·(repeat' (first | infer_instance | eq_refl))
    ·exact Dr hk
    ·(repeat' (first | infer_instance | exact a | eq_refl))
   ·exact e
  ·rfl
 ·obtain ⟨n,v3,v4,v5,e⟩:=rh (.fls (ns.map .int)) (.int k) (7919 * (k:Int)+13)
  refine ⟨n,?_⟩
  have hk:¬ (k:Int) < ((ns.map L3.D.int).length:Int):=by simp;omega
  generalize (k:Int)=kk at *
  apply aY (ρ:=[some (.fls (ns.map .int),.z),some (.int kk,.z),none,none,none,none]) rfl rfl
  ·apply ao
   ·(repeat' (first | infer_instance | exact iQ (by decide) | eq_refl))
   apply ao
   ·apply c8
    ·(repeat' (first | infer_instance | eq_refl))
    ·exact Ds hk
    ·rfl
   ·exact e
  ·rfl
set_option tactic.hygienic true in
theorem Aw {X Z:L3.D} {f:Fl} {k j:Int} {p q z:L3.D} {b:Int} (a1:aB X (.int j)=some (p,.z)) (a2:aB X (.int k)=some (q,.z)) (hb:je [(p,.z),(q,.z),(Z,.z)]=some (.ok (.int b,.z),[(p,.z),(q,.z),(Z,.z)])) :
  gb [some (X,f),some (Z,.z),some (.int k,.z),some (.int j,.z)]=some (.ok (if b=0 then .rt (.bl false) .z else .nx),[some (X,f),some (Z,.z),some (.int k,.z),some (.int j,.z)]):=by
 by_cases h:b=0
 ·rw [if_pos h]
  apply mL
  ·(repeat' (first | infer_instance | with_reducible apply au (hb) | exact a1 | exact a2 | eq_refl))
  ·exact Dr h
  ·(repeat' (first | infer_instance | eq_refl))
 ·rw [if_neg h]
  apply c8
  ·(repeat' (first | infer_instance | with_reducible apply au (hb) | exact a1 | exact a2 | eq_refl))
  ·exact Ds h
  ·rfl
set_option tactic.hygienic true in
theorem vD (ps:List Pt) (z:Pt) (hs:∀ p ∈ ps,Small p) (hl:ps.length<=24) {X:L3.D} {f:Fl} (hlen:eS [X]=some (.int (ps.length:Int),.z)) (hix:∀ (i:Nat) (p:Pt),ps[i]?=some p->aB X (.int i)=some (Pd p,.z)) :
  ∃ (b:Bool) (v2 v3:Option (L3.D × Fl)),qE [some (X,f),some (Pd z,.z),none,none]=some (.ok (.rt (.bl b) .z),[some (X,f),some (Pd z,.z),v2,v3])/\(b=true->we ps z)/\(b=false->∃ (i j:Nat) (p q:Pt),i < j/\ps[i]?=some p/\ps[j]?=some q/\aM p q z=0):=by
 have inner:∀ (i:Nat) (q:Pt) (v3:Option (L3.D × Fl)),ps[i]?=some q->∃ v3',cK [some (X,f),some (Pd z,.z),some (.int (0+(i:Int)),.z),v3]=some (.ok .nx,[some (X,f),some (Pd z,.z),some (.int (0+(i:Int)),.z),v3'])/\(∀ j p,j < i->ps[j]?=some p->aM p q z ≠ 0) \/
   cK [some (X,f),some (Pd z,.z),some (.int (0+(i:Int)),.z),v3]=some (.ok (.rt (.bl false) .z),[some (X,f),some (Pd z,.z),some (.int (0+(i:Int)),.z),v3'])/\∃ j p,j < i/\ps[j]?=some p/\aM p q z=0:=by
  intro i q v3 hq
  have hi:i < ps.length:=(Dh.mp hq).1
  have hq2:aB X (.int (0+(i:Int)))=some (Pd q,.z):=by rw [Int.zero_add];exact hix i q hq
  have hr:dC [.int (0+(i:Int))]=some (bc 0 i):=dL (by omega) (by omega)
  obtain ⟨ρ',h⟩:=pq (bnd:=aw 3) (b:=gb) (fun m ρ=>∃ v3,ρ=[some (X,f),some (Pd z,.z),some (.int (0+(i:Int)),.z),v3]/\∀ j p,j < m->ps[j]?=some p->aM p q z ≠ 0)
   (fun m r fl ρ=>r=.bl false/\fl=.z/\∃ v3,ρ=[some (X,f),some (Pd z,.z),some (.int (0+(i:Int)),.z),v3]/\∃ p,ps[m]?=some p/\aM p q z=0)
   (ds:=bc 0 i) (ρ:=[some (X,f),some (Pd z,.z),some (.int (0+(i:Int)),.z),v3]) (k:=0) ⟨v3,rfl,fun j p h=>absurd h (Nat.not_lt_zero _)⟩ (by
    rintro m d ρ hd ⟨v3,rfl,hn⟩
    obtain ⟨hm,rfl⟩:=dJ hd
    have hp:ps[m]?=some (ps[m]'(by omega)):=Dc _
    generalize (ps[m]'(by omega))=p at hp
    have hp2:aB X (.int (0+(m:Int)))=some (Pd p,.z):=by rw [Int.zero_add];exact hix m p hp
    have sm:=Small.sub (hs p (Di hp)) (hs q (Di hq))
    have rb:=Aw (f:=f) (z:=.non) hp2 hq2 (wS p q z sm.1 sm.2)
    by_cases h0:aM p q z=0
    ·rw [if_pos h0] at rb
     exact ⟨_,_,rfl,.inr ⟨.bl false,.z,rb,rfl,rfl,_,rfl,p,by rw [Du];exact hp,h0⟩⟩
    ·rw [if_neg h0] at rb
     refine ⟨_,_,rfl,.inl ⟨.inl rb,_,rfl,fun j p' hj hp1=>?_⟩⟩
     by_cases e:j=m
     ·subst e;rw [hp] at hp1;cases hp1;exact h0
     ·exact hn j p' (by omega) hp1)
  have wrap:∀ {o:Except L3.D Flw} {ρ2:Sto},ic (aw 3) gb (bc 0 i) [some (X,f),some (Pd z,.z),some (.int (0+(i:Int)),.z),v3]=some (o,ρ2)->cK [some (X,f),some (Pd z,.z),some (.int (0+(i:Int)),.z),v3]=some (o,ρ2):=fun e=>by
   apply gG
   ·(repeat' (first | with_reducible apply dw (h3:=hr) | infer_instance | eq_refl))
   ·rfl
   ·exact e
  rcases h with ⟨e,v3',rfl,h⟩ | ⟨m,r,fl,hm,e,rfl,rfl,v3',rfl,p,hp,h0⟩
  ·exact ⟨v3',.inl ⟨wrap e,fun j p hj=>h j p (by rw [bN];omega)⟩⟩
  ·exact ⟨v3',.inr ⟨wrap e,m,p,by rw [bN] at hm;exact hm,by rw [Du] at hp;exact hp,h0⟩⟩
 obtain ⟨ρ',h⟩:=pq (bnd:=aw 2) (b:=cK) (fun m ρ=>∃ v2 v3,ρ=[some (X,f),some (Pd z,.z),v2,v3]/\∀ i j p q,i < j->j < m->ps[i]?=some p->ps[j]?=some q->aM p q z ≠ 0)
   (fun m r fl ρ=>r=.bl false/\fl=.z/\∃ v2 v3,ρ=[some (X,f),some (Pd z,.z),v2,v3]/\∃ (i j:Nat) (p q:Pt),i < j/\ps[i]?=some p/\ps[j]?=some q/\aM p q z=0)
   (ds:=bc 0 ps.length) (ρ:=[some (X,f),some (Pd z,.z),none,none]) (k:=0) ⟨_,_,rfl,fun i j p q _ h=>absurd h (Nat.not_lt_zero _)⟩ (by
    rintro m d ρ hd ⟨v2,v3,rfl,hn⟩
    obtain ⟨hm,rfl⟩:=dJ hd
    have hq:ps[m]?=some (ps[m]'(by omega)):=Dc _
    generalize (ps[m]'(by omega))=q at hq
    obtain ⟨v3',h⟩:=inner m q v3 hq
    rcases h with ⟨e,h⟩ | ⟨e,j,p,hj,hp,h0⟩
    ·refine ⟨_,_,rfl,.inl ⟨.inl e,_,_,rfl,fun i j p q' hij hj hi hj'=>?_⟩⟩
     by_cases ej:j=m
     ·subst ej;rw [hq] at hj';cases hj';exact h i p hij hi
     ·exact hn i j p q' hij (by omega) hi hj'
    ·exact ⟨_,_,rfl,.inr ⟨.bl false,.z,e,rfl,rfl,_,_,rfl,j,m,p,q,hj,hp,hq,h0⟩⟩)
 have hr:dC [.int (ps.length:Int)]=some (bc 0 ps.length):=dL (by omega) (by omega)
 have hf:∀ {o:Except L3.D Flw} {ρ2:Sto},ic (aw 2) cK (bc 0 ps.length) [some (X,f),some (Pd z,.z),none,none]=some (o,ρ2)->fQ (bm dC (ab (aD eS (ab (ac 0) ai)) ai)) (aw 2) cK [some (X,f),some (Pd z,.z),none,none]=some (o,ρ2):=fun e=>by
  apply gG
  ·exact dw (eD (hV (eD (cU rfl) gF) rfl hlen) gF) rfl hr
  ·rfl
  ·exact e
 rcases h with ⟨e,v2,v3,rfl,h⟩ | ⟨m,r,fl,hm,e,rfl,rfl,v2,v3,rfl,hx⟩
 ·refine ⟨true,v2,v3,?_,fun _ i j p q hij hi hj=>h i j p q hij ?_ hi hj,fun h=>by cases h⟩
  ·apply ao
   ·exact hf e
   ·(repeat' (first | infer_instance | eq_refl))
  ·have:=(Dh.mp hj).1
   rw [bN];omega
 ·refine ⟨false,v2,v3,?_,fun h=>(by cases h),fun _=>hx⟩
  apply oF
  exact hf e
theorem wP (ps:List Pt) (z:Pt) (hs:∀ p ∈ ps,Small p) (hl:ps.length<=24):∃ b:Bool,kn [(.lst (ps.map Pd),.u),(Pd z,.z)]=some (.ok (.bl b,.z),[(.lst (ps.map Pd),.u),(Pd z,.z)])/\(b=true->we ps z)/\(b=false->∃ (i j:Nat) (p q:Pt),i < j/\ps[i]?=some p/\ps[j]?=some q/\aM p q z=0):=by
 obtain ⟨b,v2,v3,e,h1,h2⟩:=vD ps z hs hl (X:=.lst (ps.map Pd)) (f:=.u) (by simp [c1,xP]) (fun i p h=>za (sY h))
 refine ⟨b,?_,h1,h2⟩
 apply aY (ρ:=[some (.lst (ps.map Pd),.u),some (Pd z,.z),none,none]) rfl rfl
 ·exact e
 ·rfl
noncomputable abbrev fg (n most many kd x:Int) (ps:List Pt) (v6 v7 v8:Option (L3.D × Fl)):Sto:=[some (.lst [.int n],.u),some (.int most,.z),some (.int many,.z),some (.int kd,.z),some (.int x,.z),some (.lst (ps.map Pd),.u),v6,v7,v8]
theorem wc (ps:List Pt) (x y:Int) (hl:ps.length<=12):above ps x y<=144:=by
 have h1:=yI ps x y
 have h2:ps.length * ps.length<=12 * 12:=Nat.mul_le_mul hl hl
 omega
set_option tactic.hygienic true in
theorem rO {n most many kd x y0:Int} {ps:List Pt} {v6 v7:Option (L3.D × Fl)} (R:Rising ps) (hs:∀ p ∈ ps,Small p) (hl:ps.length<=12) :
  ∃ y,gi dN ft (fg n most many kd x ps v6 v7 (some (.int y0,.z)))=some (.ok .nx,fg n most many kd x ps v6 v7 (some (.int y,.z)))/\we ps (x,y)/\y0<=y/\y<=y0+144:=by
 have ablt:=wc ps x y0 hl
 obtain ⟨ρ',e,y,rfl,hf,h1,h2⟩:=nz (c:=dN) (b:=ft) (fun m ρ=>∃ y:Int,ρ=fg n most many kd x ps v6 v7 (some (.int y,.z))/\m=above ps x y/\y0<=y/\y+(above ps x y:Int)<=y0+(above ps x y0:Int))
  (fun ρ=>∃ y:Int,ρ=fg n most many kd x ps v6 v7 (some (.int y,.z))/\we ps (x,y)/\y0<=y/\y<=y0+144) (ρ:=fg n most many kd x ps v6 v7 (some (.int y0,.z))) ⟨y0,rfl,rfl,Int.le_refl _,Int.le_refl _⟩ (by
   rintro m ρ ⟨y,rfl,rfl,h1,h2⟩
   obtain ⟨b,eb,ht,hf⟩:=wP ps (x,y) hs (by omega)
   have et:dN (fg n most many kd x ps v6 v7 (some (.int y,.z)))=some (.ok (!b),fg n most many kd x ps v6 v7 (some (.int y,.z))):=by
    unfold dN
    (repeat' (first | infer_instance | with_reducible apply au (eb) | eq_refl))
   cases b with
   | true=>exact .inl ⟨_,et,y,rfl,ht rfl,h1,by omega⟩
   | false =>
    obtain ⟨i,j,p,q,hij,e1,e2,h0⟩:=hf rfl
    have hlt:=yH R hij e1 e2 h0
    exact .inr ⟨_,fg n most many kd x ps v6 v7 (some (.int (y+1),.z)),_,et,.inl (by unfold ft;(repeat' (first | infer_instance | eq_refl))),hlt,y+1,rfl,rfl,by omega,by omega⟩)
 exact ⟨y,e,hf,h1,h2⟩
theorem sq_le {x:Int} (h0:-40<=x) (h1:x<=40):0<=x * x/\x * x<=1600:=by
 have a:x * x=(x.natAbs * x.natAbs:Nat):=by rw [Int.natCast_mul];exact (Int.natAbs_mul_self' x).symm
 have b:x.natAbs * x.natAbs<=40 * 40:=Nat.mul_le_mul (by omega) (by omega)
 omega
theorem AF {x k:Int}:∃ b:Int,aB (.lst [.int (x * x),.int (0 - x * x)]) (.int (k % 2))=some (.int b,.z)/\(b=x * x\/b=0 - x * x):=by
 rcases Int.emod_two_eq k with e | e
 ·rw [e];exact ⟨_,rfl,.inl rfl⟩
 ·rw [e];exact ⟨_,rfl,.inr rfl⟩
theorem y_at {a b c d e kd:Int} (h0:0<=kd) (h1:kd < 5):∃ y:Int,aB (.lst [.int a,.int b,.int c,.int d,.int e]) (.int kd)=some (.int y,.z)/\(y=a\/y=b\/y=c\/y=d\/y=e):=by
 obtain ⟨j,rfl⟩:∃ j:Nat,kd=(j:Int):=⟨kd.toNat,by omega⟩
 match j,h1 with
 | 0,_=>exact ⟨_,rfl,.inl rfl⟩
 | 1,_=>exact ⟨_,rfl,.inr (.inl rfl)⟩
 | 2,_=>exact ⟨_,rfl,.inr (.inr (.inl rfl))⟩
 | 3,_=>exact ⟨_,rfl,.inr (.inr (.inr (.inl rfl)))⟩
 | 4,_=>exact ⟨_,rfl,.inr (.inr (.inr (.inr rfl)))⟩
 | j+5,h=>exact absurd h (by omega)
set_option tactic.hygienic true in
theorem wI {n most many kd x k:Int} {ps:List Pt} {v7 v8:Option (L3.D × Fl)} (R:Rising ps) (hs:∀ p ∈ ps,Small p) (hl:ps.length<=12) (k0:0<=kd) (k1:kd < 5) (x0:-9<=x) (x1:x<=36) :
  ∃ (n' d y:Int) (v7' v8':Option (L3.D × Fl)),fq (fg n most many kd x ps (some (.int k,.z)) v7 v8)=some (.ok .nx,fg n' most many kd (x+1+d) (ps ++ [(x+1+d,y)]) (some (.int k,.z)) v7' v8')/\0<=d/\d < 3/\we ps (x+1+d,y)/\-2000<=y/\y<=2000:=by
 have d0:=fv n 3 (by decide)
 have a0:=fv (n / 3) 40 (by decide)
 have c0:=fv (n / 3 / 40) 6 (by decide)
 have t:=jU
 generalize hX:x+1+n % 3=X at *
 have sq:=sq_le (x:=X) (by omega) (by omega)
 obtain ⟨bt,hb,hb2⟩:=AF (x:=X) (k:=k)
 obtain ⟨y0,hy,hy2⟩:=y_at (a:=n / 3 % 40) (b:=X * X) (c:=9 - X * X) (d:=bt) (e:=n / 3 / 40 % 6) k0 k1
 have hm:-18446744073709551616 < X/\X < 18446744073709551616:=by omega
 obtain ⟨y,ew,hf,h1,h2⟩:=rO (n:=n / 3 / 40 / 6) (most:=most) (many:=many) (kd:=kd) (x:=X) (y0:=y0) (ps:=ps) (v6:=some (.int k,.z)) (v7:=some (.int bt,.z)) R hs hl
 have yb:-1700<=y0/\y0<=1700:=by
  rcases hb2 with e | e <;> rcases hy2 with e2 | e2 | e2 | e2 | e2 <;> omega
 refine ⟨n / 3 / 40 / 6,n % 3,y,some (.int bt,.z),some (.int y,.z),?_,d0.1,d0.2,by rw [hX];exact hf,by omega,by omega⟩
 rw [hX]
 have m3:(ps.map Pd).length < 16777216:=by simp;omega
 have ha:=C0 (d:=Pd (X,y)) m3
 rw [show ps.map Pd ++ [Pd (X,y)]=(ps ++ [(X,y)]).map Pd by simp] at ha
 apply ao (ρ1:=fg (n / 3) most many kd X ps (some (.int k,.z)) v7 v8)
 ·rw [<- hX]
  (repeat' (first | infer_instance | with_reducible apply au (t _ _ (by decide)) | eq_refl))
 apply ao (ρ1:=fg (n / 3) most many kd X ps (some (.int k,.z)) (some (.int bt,.z)) v8)
 ·(repeat' (first | infer_instance | exact hb | exact iQ hm | eq_refl))
 apply ao (ρ1:=fg (n / 3 / 40 / 6) most many kd X ps (some (.int k,.z)) (some (.int bt,.z)) (some (.int y0,.z)))
 ·(repeat' (first | infer_instance | with_reducible apply au (t _ _ (by decide)) | exact hy | exact iQ hm | eq_refl))
 apply ao
 ·exact ew
 ·(repeat' (first | infer_instance | exact ha | eq_refl))
set_option tactic.hygienic true in
theorem wN {n most many kd x:Int} (hm:0<=many/\many<=12) (k0:0<=kd) (k1:kd < 5) (x0:-8<=x) (x1:x<=0) :
  ∃ (n' x':Int) (ps:List Pt) (v6 v7 v8:Option (L3.D × Fl)),fQ (bm dC (ab (ac 2) ai)) (aw 6) fq (fg n most many kd x [] none none none)=some (.ok .nx,fg n' most many kd x' ps v6 v7 v8)/\(ps.length:Int)=many/\Rising ps/\NoLine ps/\(∀ q ∈ ps,-9<=q.1/\q.1<=100/\-2000<=q.2/\q.2<=2000):=by
 obtain ⟨ρ',e,n',x',ps,v6,v7,v8,rfl,hl,ris,nl,bnd,h1,h2⟩:=cu (bnd:=aw 6) (b:=fq) (fun i ρ=>∃ (n x:Int) (ps:List Pt) (v6 v7 v8:Option (L3.D × Fl)),ρ=fg n most many kd x ps v6 v7 v8/\ps.length=i/\Rising ps/\NoLine ps/\(∀ q ∈ ps,q.1<=x/\-9<=q.1/\-2000<=q.2/\q.2<=2000)/\-8<=x/\x<=3 * (i:Int))
  (ds:=bc 0 many.toNat) (ρ:=fg n most many kd x [] none none none) (k:=0) ⟨n,x,[],none,none,none,rfl,rfl,fun _ _ _ _ _ e _=>by simp at e,fun _ _ _ _ _ _ _ _ e _ _=>by simp at e,fun _ e=>by simp at e,by omega,by omega⟩ (by
   rintro i d ρ hd ⟨n,x,ps,v6,v7,v8,rfl,hl,ris,nl,bnd,h1,h2⟩
   obtain ⟨hi,rfl⟩:=dJ hd
   have smp:∀ q ∈ ps,Small q:=fun q hq=>by
    obtain ⟨a1,a2,a3,a4⟩:=bnd q hq
    exact ⟨by omega,by omega,by omega,by omega⟩
   obtain ⟨n',dd,y,v7',v8',e,d0,d1,fr,y0,y1⟩:=wI (n:=n) (most:=most) (many:=many) (kd:=kd) (x:=x) (k:=0+(i:Int)) (ps:=ps) (v7:=v7) (v8:=v8) ris smp (by omega) k0 k1 (by omega) (by omega)
   refine ⟨_,_,rfl,.inl e,n',x+1+dd,ps ++ [(x+1+dd,y)],_,_,_,rfl,by simp;omega,ris.snoc fun q hq=>?_,nl.snoc fr,fun q hq=>?_,by omega,by omega⟩
   ·show q.1 < x+1+dd
    have:=(bnd q hq).1
    omega
   ·rcases De.mp hq with hq | hq
    ·obtain ⟨a1,a2,a3,a4⟩:=bnd q hq
     exact ⟨by omega,by omega,by omega,by omega⟩
    ·have e:q=(x+1+dd,y):=by simpa using hq
     subst e
     exact ⟨Int.le_refl _,by show -9<=x+1+dd;omega,by show -2000<=y;omega,by show y<=2000;omega⟩)
 rw [bN] at hl h2
 have hr:dC [.int many]=some (bc 0 many.toNat):=dL (by omega) rfl
 refine ⟨n',x',ps,v6,v7,v8,?_,by omega,ris,nl,fun q hq=>?_⟩
 ·apply gG
  ·(repeat' (first | with_reducible apply dw (h3:=hr) | infer_instance | eq_refl))
  ·rfl
  ·exact e
 ·obtain ⟨a1,a2,a3,a4⟩:=bnd q hq
  exact ⟨by omega,by omega,by omega,by omega⟩
noncomputable def dl (p:Pt):Pt:=(p.1 * 1000000000000,p.2 * 1000000000000000+7)
theorem rm (p q r:Pt):aM (dl p) (dl q) (dl r)=1000000000000000000000000000 * aM p q r:=by
 unfold aM dl
 dsimp only
 have e1:q.1 * 1000000000000 - p.1 * 1000000000000=(q.1 - p.1) * 1000000000000:=by omega
 have e2:r.1 * 1000000000000 - p.1 * 1000000000000=(r.1 - p.1) * 1000000000000:=by omega
 have e3:r.2 * 1000000000000000+7 - (p.2 * 1000000000000000+7)=(r.2 - p.2) * 1000000000000000:=by omega
 have e4:q.2 * 1000000000000000+7 - (p.2 * 1000000000000000+7)=(q.2 - p.2) * 1000000000000000:=by omega
 rw [e1,e2,e3,e4]
 generalize q.1 - p.1=a
 generalize r.2 - p.2=b
 generalize q.2 - p.2=c
 generalize r.1 - p.1=d
 have h:∀ a b:Int,a * 1000000000000 * (b * 1000000000000000)=1000000000000000000000000000 * (a * b):=fun a b=>by
  rw [Int.mul_assoc,Int.mul_left_comm 1000000000000 b,<- Int.mul_assoc,show (1000000000000:Int) * 1000000000000000=1000000000000000000000000000 from rfl,Int.mul_comm]
 rw [h,Int.mul_comm (c * 1000000000000000),h,Int.mul_comm d c,<- Int.mul_sub]
theorem rX {ps:List Pt} (R:Rising ps):Rising (ps.map dl):=fun i j p q hij h1 h2=>by
 rw [Dl] at h1 h2
 obtain ⟨p',e1,rfl⟩:=C8.mp h1
 obtain ⟨q',e2,rfl⟩:=C8.mp h2
 have:=R i j p' q' hij e1 e2
 show p'.1 * 1000000000000 < q'.1 * 1000000000000
 omega
theorem sk {ps:List Pt} (N:NoLine ps):NoLine (ps.map dl):=fun i j k p q r hij hjk h1 h2 h3=>by
 rw [Dl] at h1 h2 h3
 obtain ⟨p',e1,rfl⟩:=C8.mp h1
 obtain ⟨q',e2,rfl⟩:=C8.mp h2
 obtain ⟨r',e3,rfl⟩:=C8.mp h3
 rw [rm]
 exact Int.mul_ne_zero (by decide) (N i j k p' q' r' hij hjk e1 e2 e3)
theorem pow12:xk (.int 10) (.int 12)=some (.int 1000000000000,.z):=rfl
theorem pow15:xk (.int 10) (.int 15)=some (.int 1000000000000000,.z):=rfl
set_option tactic.hygienic true in
theorem uT (ps:List Pt) (hl:ps.length<=24) {n most many kd x:Int} {v6 v7 v8:Option (L3.D × Fl)}:bd 5 fk (fg n most many kd x ps v6 v7 v8)=some (.ok .nx,fg n most many kd x (ps.map dl) v6 v7 v8):=by
 obtain ⟨τ',e,a,b,rfl⟩:=bE (bnd:=sW 2 (iA (aw 0) (iA (aw 1) sX))) (c:=ce) (elt:=gX) (fun τ=>∃ a b,τ=[a,b]) Pd (fun _=>true) (fun p=>Pd (dl p)) (xs:=ps) (τ:=[none,none]) ⟨none,none,rfl⟩ (by
  rintro p hp τ ⟨a,b,rfl⟩
  exact ⟨[some (.int p.1,.z),some (.int p.2,.z)],_,rfl,rfl,(fun h=>by cases h),fun _=>⟨.val (Pd (dl p)) .z,[some (.int p.1,.z),some (.int p.2,.z)],(Pd (dl p),.z),_,by unfold gX;(repeat' (first | infer_instance | exact pow12 | exact pow15 | exact qw (by decide) | eq_refl)),rfl,rfl,_,_,rfl⟩⟩)
 rw [DK.mpr (fun _ _=>rfl)] at e
 have e2:fk (fg n most many kd x ps v6 v7 v8)=some (.ok (.val (.lst (ps.map fun p=>Pd (dl p))) .u),fg n most many kd x ps v6 v7 v8):=aT (rs:=[.pl 5]) (ρ1:=fg n most many kd x ps v6 v7 v8) (ρ2:=[some (.lst [.int n],.u),some (.int most,.z),some (.int many,.z),some (.int kd,.z),some (.int x,.z),some (.lst (ps.map Pd),.l),v6,v7,v8]) rfl e (by simp;omega) rfl
 rw [show (ps.map fun p=>Pd (dl p))=(ps.map dl).map Pd by simp] at e2
 exact ub e2 rfl (Nat.le_of_ble_eq_true rfl) rfl
set_option tactic.hygienic true in
theorem uR (n most:Int) (h1:1<=most) (h2:most<=12):∃ (n':Int) (ps:List Pt),js [(.lst [.int n],.u),(.int most,.z)]=some (.ok (.tup (ps.map Pd),.z),[(.lst [.int n'],.u),(.int most,.z)])/\GoodSh ps/\(ps.length:Int)<=most/\∀ q ∈ ps,(-(2 ^ 61) < q.2/\q.2 < 2 ^ 61)/\-(2 ^ 50) < q.1/\q.1 < 2 ^ 50:=by
 have t:=jU
 have a0:=fv n most (by omega)
 have b0:=fv (n / most) 5 (by decide)
 have x9:=fv (n / most / 5) 9 (by decide)
 obtain ⟨n',x',ps,v6,v7,v8,e,hl,ris,nln,bnd⟩:=wN (n:=n / most / 5 / 9) (most:=most) (many:=1+n % most) (kd:=n / most % 5) (x:=0 - n / most / 5 % 9) ⟨by omega,by omega⟩ b0.1 b0.2 (by omega) (by omega)
 have good:GoodSh ps:=⟨by omega,by omega,fun q hq=>by
  obtain ⟨a1,a2,a3,a4⟩:=bnd q hq
  exact ⟨by omega,by omega,by omega,by omega⟩,ris,nln⟩
 have goodS:GoodSh (ps.map dl):=⟨by simpa using good.pos,by simpa using good.most,fun q hq=>by
  obtain ⟨r,hr,rfl⟩:=Dk.mp hq
  obtain ⟨a1,a2,a3,a4⟩:=bnd r hr
  exact ⟨by show -(2 ^ 62) < r.1 * 1000000000000;omega,by show r.1 * 1000000000000 < 2 ^ 62;omega,by show -(2 ^ 62) < r.2 * 1000000000000000+7;omega,by show r.2 * 1000000000000000+7 < 2 ^ 62;omega⟩,rX ris,sk nln⟩
 have pre:∀ {r:Option (Except L3.D Flw × Sto)},aK (sIf (cB (ah eqX (am b5 (ab (ac 0) (ab (mC (.int 6)) ai))) (mC (.int 5)))) (bd 5 fk) d9) (ba 2 (aD ld (ab (ac 5) ai))) (fg n' most (1+n % most) (n / most % 5) x' ps v6 v7 v8)=r->nZ [some (.lst [.int n],.u),some (.int most,.z),none,none,none,none,none,none,none]=r:=by
  intro r hr
  apply ao (ρ1:=[some (.lst [.int (n / most)],.u),some (.int most,.z),some (.int (1+n % most),.z),none,none,none,none,none,none])
  ·(repeat' (first | infer_instance | with_reducible apply au (t n most (by omega)) | eq_refl))
  apply ao (ρ1:=[some (.lst [.int (n / most / 5)],.u),some (.int most,.z),some (.int (1+n % most),.z),some (.int (n / most % 5),.z),none,none,none,none,none])
  ·(repeat' (first | infer_instance | with_reducible apply au (t _ _ (by decide)) | eq_refl))
  apply ao (ρ1:=[some (.lst [.int (n / most / 5 / 9)],.u),some (.int most,.z),some (.int (1+n % most),.z),some (.int (n / most % 5),.z),some (.int (0 - n / most / 5 % 9),.z),none,none,none,none])
  ·(repeat' (first | infer_instance | with_reducible apply au (t _ _ (by decide)) | eq_refl))
  apply ao (ρ1:=fg (n / most / 5 / 9) most (1+n % most) (n / most % 5) (0 - n / most / 5 % 9) [] none none none)
  ·(repeat' (first | infer_instance | eq_refl))
  exact ao e hr
 by_cases h5:n' % 6=5
 ·refine ⟨n' / 6,ps.map dl,?_,goodS,by rw [Dg];omega,fun q hq=>?_⟩
  ·apply aY (ρ:=[some (.lst [.int n],.u),some (.int most,.z),none,none,none,none,none,none,none]) rfl rfl
   ·apply pre
    apply ao
    ·apply mL
     ·(repeat' (first | infer_instance | with_reducible apply au (t _ _ (by decide)) | eq_refl))
     ·exact Dr h5
     ·exact uT ps (by omega)
    ·(repeat' (first | infer_instance | eq_refl))
   ·rfl
  ·obtain ⟨r,hr,rfl⟩:=Dk.mp hq
   obtain ⟨a1,a2,a3,a4⟩:=bnd r hr
   exact ⟨⟨by show -(2 ^ 61) < r.2 * 1000000000000000+7;omega,by show r.2 * 1000000000000000+7 < 2 ^ 61;omega⟩,by show -(2 ^ 50) < r.1 * 1000000000000;omega,by show r.1 * 1000000000000 < 2 ^ 50;omega⟩
 ·refine ⟨n' / 6,ps,?_,good,by omega,fun q hq=>?_⟩
  ·apply aY (ρ:=[some (.lst [.int n],.u),some (.int most,.z),none,none,none,none,none,none,none]) rfl rfl
   ·apply pre
    apply ao
    ·apply c8
     ·(repeat' (first | infer_instance | with_reducible apply au (t _ _ (by decide)) | eq_refl))
     ·exact Ds h5
     ·rfl
    ·(repeat' (first | infer_instance | eq_refl))
   ·rfl
  ·obtain ⟨a1,a2,a3,a4⟩:=bnd q hq
   exact ⟨⟨by omega,by omega⟩,by omega,by omega⟩
noncomputable def bB (ps:List Pt) (i:Nat):Pt:=ps.getD i (0,0)
theorem aL {ps:List Pt} {i:Nat} (h:i < ps.length):ps[i]?=some (bB ps i):=by
 simp [bB,List.getD,h]
theorem mi {ps:List Pt} {i:Nat} (hs:∀ p ∈ ps,Small p) (h:i < ps.length):Small (bB ps i):=hs _ (Di (aL h))
structure SheetX (ps:List Pt):Prop where
 pos:0 < ps.length
 most:ps.length<=24
 rise:∀ i j:Nat,i < j->j < ps.length->0 < (bB ps j).1 - (bB ps i).1/\(bB ps j).1 - (bB ps i).1 < 18446744073709551616
 nol:∀ i j k:Nat,i < j->j < k->k < ps.length->aM (bB ps i) (bB ps j) (bB ps k) ≠ 0
set_option tactic.hygienic true in
theorem rR (p q r:Int × Int) (h1:-18446744073709551616 < q.1 - p.1/\q.1 - p.1 < 18446744073709551616) (h2:-18446744073709551616 < r.1 - p.1/\r.1 - p.1 < 18446744073709551616):iw [(Pd p,.z),(Pd q,.z),(Pd r,.z)]=some (.ok (.int (aM p q r),.z),[(Pd p,.z),(Pd q,.z),(Pd r,.z)]):=by
 apply aY (ρ:=[some (Pd p,.z),some (Pd q,.z),some (Pd r,.z),none]) rfl rfl
 ·apply ao
  ·(repeat' (first | infer_instance | exact iQ h1 | eq_refl))
  ·(repeat' (first | infer_instance | exact qw h2 | eq_refl))
 ·rfl
set_option tactic.hygienic true in
theorem vF {S:List L3.D} {i j k:Int} {p q r:Pt} {v2:Option (L3.D × Fl)} (a1:aB (.tup S) (.int i)=some (Pd p,.z)) (a2:aB (.tup S) (.int j)=some (Pd q,.z)) (a3:aB (.tup S) (.int k)=some (Pd r,.z)) (b:iw [(Pd p,.z),(Pd q,.z),(Pd r,.z)]=some (.ok (.int (aM p q r),.z),[(Pd p,.z),(Pd q,.z),(Pd r,.z)])) (h0:aM p q r ≠ 0):cq [some (.tup S,.z),some (.tup [.int i,.int j,.int k],.z),v2]=some (.ok .nx,[some (.tup S,.z),some (.tup [.int i,.int j,.int k],.z),some (.tup [Pd p,Pd q,Pd r],.z)]):=by
 have one:∀ (x d:L3.D) (a:Option (L3.D × Fl)),aB (.tup S) x=some (d,.z)->dm [some (x,.z),some (.tup S,.z)]=some (.ok (.val d .z),[some (x,.z),some (.tup S,.z)]):=fun x d a h=>by unfold dm;(repeat' (first | infer_instance | exact h | eq_refl))
 have c:fJ [some (.tup S,.z),some (.tup [.int i,.int j,.int k],.z),v2]=some (.ok (.val (.lst [Pd p,Pd q,Pd r]) .u),[some (.tup S,.z),some (.tup [.int i,.int j,.int k],.z),v2]):=by
  refine aT (ρ1:=[some (.tup S,.z),some (.tup [.int i,.int j,.int k],.z),v2]) (ρ2:=[some (.tup S,.z),some (.tup [.int i,.int j,.int k],.z),v2]) (ds:=[.int i,.int j,.int k]) (rs:=[.pl 1]) (τ:=[some (.int k,.z),some (.tup S,.z)]) rfl ?_ (by simp) rfl
  have e1:=one (.int i) _ none a1
  have e2:=one (.int j) _ none a2
  have e3:=one (.int k) _ none a3
  have n0:∀ d a,aw 0 d [a,some (L3.D.tup S,.z)]=some [some (d,.z),some (.tup S,.z)]:=fun _ _=>rfl
  have cs:sP [none,some 0] (aZ eR (us [some (L3.D.tup S,.z),some (.tup [.int i,.int j,.int k],.z),v2] (pls [R3.pl 1])) [some (.tup S,.z),some (.tup [.int i,.int j,.int k],.z),v2])=[none,some (.tup S,.z)]:=rfl
  rw [cs]
  simp only [bV,n0,ce,af,bF,if_true,e1,e2,e3,fU,nol]
 unfold cq
 apply ao
 ·(repeat' (first | with_reducible exact c | infer_instance | eq_refl))
 ·apply c8
  ·(repeat' (first | infer_instance | with_reducible apply au (b) | eq_refl))
  ·exact Ds h0
  ·rfl
theorem uB {ps:List Pt} (s:SheetX ps) {i j k:Nat} (hij:i < j) (hjk:j < k) (hk:k < ps.length):iw [(Pd (bB ps i),.z),(Pd (bB ps j),.z),(Pd (bB ps k),.z)]=some (.ok (.int (aM (bB ps i) (bB ps j) (bB ps k)),.z),[(Pd (bB ps i),.z),(Pd (bB ps j),.z),(Pd (bB ps k),.z)]):=by
 have a:=s.rise i j hij (by omega)
 have b:=s.rise i k (by omega) hk
 exact rR _ _ _ (by omega) (by omega)
set_option tactic.hygienic true in
theorem wQ {ps:List Pt} (s:SheetX ps):dg [(Shd ps,.z)]=some (.ok (.non,.z),[(Shd ps,.z)]):=by
 have ht:=eg ps.length (by have:=s.most;omega)
 rw [show (ps.length:Int)=((ps.map Pd).length:Int) by rw [Dg]] at ht
 obtain ⟨ρ',e,v1,v2,rfl⟩:=cu (bnd:=aw 1) (b:=cq) (fun _ ρ=>∃ v1 v2,ρ=[some (Shd ps,.z),v1,v2]) (ds:=(aU ps.length).map Td) (ρ:=[some (Shd ps,.z),none,none]) (k:=0) ⟨none,none,rfl⟩ (by
  rintro m d ρ hd ⟨v1,v2,rfl⟩
  rw [Dl,C8] at hd
  obtain ⟨t,ht,rfl⟩:=hd
  obtain ⟨m1,m2,m3⟩:=gx (Di ht)
  have b:=vF (v2:=v2) (fG (sY (aL (show t.1 < ps.length by omega)))) (fG (sY (aL (show t.2.1 < ps.length by omega)))) (fG (sY (aL m3))) (uB s m1 m2 m3) (s.nol _ _ _ m1 m2 m3)
  exact ⟨[some (Shd ps,.z),some (Td t,.z),v2],_,rfl,.inl b,_,_,rfl⟩)
 apply aY (ρ:=[some (Shd ps,.z),none,none]) rfl rfl
 ·apply ao
  ·apply gG
   ·(repeat' (first | infer_instance | with_reducible apply au (ht) | eq_refl))
   ·rfl
   ·exact e
  ·(repeat' (first | infer_instance | eq_refl))
 ·rfl
theorem ku {ps:List Pt} (s:SheetX ps):Rising ps:=fun i j p q hij h1 h2=>by
 have hj:=(Dh.mp h2).1
 have a:=s.rise i j hij hj
 have e1:=aL (ps:=ps) (i:=i) (by omega)
 have e2:=aL (ps:=ps) (i:=j) hj
 rw [h1] at e1
 rw [h2] at e2
 injection e1 with e1
 injection e2 with e2
 rw [<- e1,<- e2] at a
 omega
set_option tactic.hygienic true in
theorem oK {ps:List Pt} (g:SheetX ps):iq [(Shd ps,.z)]=some (.ok (.bl true,.z),[(Shd ps,.z)]):=by
 have h1:=wT ps g.pos g.most
 have h2:=wK ps g.pos g.most (ku g)
 have h3:=wQ g
 apply aY (ρ:=[some (Shd ps,.z)]) rfl rfl
 ·apply ao
  ·apply c8
   ·(repeat' (first | infer_instance | with_reducible apply au (h1) | eq_refl))
   ·rfl
   ·rfl
  ·(repeat' (first | infer_instance | with_reducible apply au (h2) | with_reducible apply au (h3) | eq_refl))
 ·rfl
set_option tactic.hygienic true in
theorem jF {ps:List Pt} (g:SheetX ps):bM [(Shd ps,.z)]=some (.ok (.non,.z),[(Shd ps,.z)]):=by
 have h1:=oK g
 apply AJ (ρ:=[some (Shd ps,.z)]) rfl rfl
 ·apply c8
  ·(repeat' (first | infer_instance | with_reducible apply au (h1) | eq_refl))
  ·rfl
  ·rfl
 ·rfl
set_option tactic.hygienic true in
theorem qd {S:List L3.D} {i j k:Int} {p q r:Pt} (a1:aB (.tup S) (.int i)=some (Pd p,.z)) (a2:aB (.tup S) (.int j)=some (Pd q,.z)) (a3:aB (.tup S) (.int k)=some (Pd r,.z)) (b:iw [(Pd p,.z),(Pd q,.z),(Pd r,.z)]=some (.ok (.int (aM p q r),.z),[(Pd p,.z),(Pd q,.z),(Pd r,.z)])):fD [(.tup S,.z),(.tup [.int i,.int j,.int k],.z)]=some (.ok (.int (fE p q r),.z),[(.tup S,.z),(.tup [.int i,.int j,.int k],.z)]):=by
 by_cases h:0 < aM p q r
 ·rw [show fE p q r=1 from if_pos h]
  apply aY (ρ:=[some (.tup S,.z),some (.tup [.int i,.int j,.int k],.z)]) rfl rfl
  ·apply cV
   ·apply CC
    ·(repeat' (first | infer_instance | with_reducible apply au (b) | exact a1 | exact a2 | exact a3 | eq_refl))
    ·exact Dr h
    ·exact i_c
   ·rfl
  ·rfl
 ·rw [show fE p q r = -1 from if_neg h]
  apply aY (ρ:=[some (.tup S,.z),some (.tup [.int i,.int j,.int k],.z)]) rfl rfl
  ·apply cV
   ·apply CD
    ·(repeat' (first | infer_instance | with_reducible apply au (b) | exact a1 | exact a2 | exact a3 | eq_refl))
    ·exact Ds h
    ·(repeat' (first | infer_instance | eq_refl))
   ·rfl
  ·rfl
theorem uO {ps:List Pt} (g:GoodSh ps):SheetX ps where
 pos:=g.pos
 most:=g.most
 rise:=fun i j hij hj=>by
  have a:=g.rising i j _ _ hij (aL (by omega)) (aL hj)
  obtain ⟨a1,a2,_,_⟩:=mi g.small (i:=i) (by omega)
  obtain ⟨b1,b2,_,_⟩:=mi g.small hj
  omega
 nol:=fun i j k hij hjk hk=>g.noline _ _ _ _ _ _ hij hjk (aL (by omega)) (aL (by omega)) (aL hk)
noncomputable def mx1 (l:List Int):Int:=(j7 l).getD 1
theorem z5:mx1 []=1:=rfl
theorem lF {l:List Int} (h:l ≠ []):mx1 l ∈ l:=by
 cases l with
 | nil=>exact absurd rfl h
 | cons x xs=>exact (ie xs x).1
theorem Cn {l:List Int} {n:Int} (h:n ∈ l):n<=mx1 l:=by
 cases l with
 | nil=>cases h
 | cons x xs=>exact (ie xs x).2 n h
theorem xD {l:List Int} (h:l ≠ []):j7 l=some (mx1 l):=by
 cases l with
 | nil=>exact absurd rfl h
 | cons x xs=>rfl
theorem xE {l:List Int} (h:∀ n ∈ l,1<=n):1<=mx1 l:=by
 cases l with
 | nil=>exact Int.le_refl 1
 | cons x xs=>exact h _ (lF (by simp))
section
variable (w:Nat->Nat->Nat->Bool)
noncomputable def CP:Nat->Nat->Nat->Int
 | 0,_,_=>2
 | f+1,i,j=>1+mx1 (((List.range i).filter fun h=>w h i j).map fun h=>CP f h i)
theorem yo:∀ (f i j:Nat),2<=CP w f i j
 | 0,_,_=>Int.le_refl 2
 | f+1,i,j=>by
  show 2<=1+mx1 _
  have:=xE (l:=((List.range i).filter fun h=>w h i j).map fun h=>CP w f h i) fun n hn=>by
   obtain ⟨k,_,rfl⟩:=Dk.mp hn
   have:=yo f k i
   omega
  omega
noncomputable def ks (n j:Nat):List Nat:=(List.range (n - (j+1))).map fun d=>j+1+d
theorem mem_ks {n j k:Nat}:k ∈ ks n j ↔ j < k/\k < n:=by
 unfold ks
 constructor
 ·intro h
  obtain ⟨d,hd,rfl⟩:=Dk.mp h
  have:=List.mem_range.mp hd
  omega
 ·intro h
  exact Dk.mpr ⟨k - (j+1),List.mem_range.mpr (by omega),by omega⟩
noncomputable def onF (n:Nat):Nat->Nat->Nat->Int
 | 0,_,_=>2
 | f+1,i,j=>1+mx1 (((ks n j).filter fun k=>w i j k).map fun k=>onF n f j k)
noncomputable def onE (n i j:Nat):Int:=onF w n (n - (j+1)) i j
theorem oV (n:Nat):∀ (f f' i j:Nat),n - (j+1)<=f->n - (j+1)<=f'->onF w n f i j=onF w n f' i j
 | 0,0,_,_,_,_=>rfl
 | 0,f'+1,i,j,h,_=>by
  have e:ks n j=[]:=by unfold ks;rw [show n - (j+1)=0 by omega];rfl
  unfold onF
  rw [e]
  rfl
 | f+1,0,i,j,_,h=>by
  have e:ks n j=[]:=by unfold ks;rw [show n - (j+1)=0 by omega];rfl
  unfold onF
  rw [e]
  rfl
 | f+1,f'+1,i,j,h,h'=>by
  unfold onF
  congr 2
  refine DN fun k hk=>?_
  have hk:=mem_ks.mp (DD.mp hk).1
  exact oV n f f' j k (by omega) (by omega)
theorem xv (n i j:Nat):onE w n i j=1+mx1 (((ks n j).filter fun k=>w i j k).map fun k=>onE w n j k):=by
 have h:onE w n i j=onF w n (n - (j+1)+1) i j:=oV w n _ _ i j (Dm _) (Nat.le_succ _)
 rw [h]
 show 1+mx1 (((ks n j).filter fun k=>w i j k).map fun k=>onF w n (n - (j+1)) j k)=_
 congr 2
 refine DN fun k hk=>?_
 have hk:=mem_ks.mp (DD.mp hk).1
 exact oV w n _ _ j k (by omega) (Dm _)
theorem tX (n:Nat):∀ (f i j:Nat),2<=onF w n f i j
 | 0,_,_=>Int.le_refl 2
 | f+1,i,j=>by
  show 2<=1+mx1 _
  have:=xE (l:=((ks n j).filter fun k=>w i j k).map fun k=>onF w n f j k) fun n' hn=>by
   obtain ⟨k,_,rfl⟩:=Dk.mp hn
   have:=tX n f j k
   omega
  omega
theorem zS (n i j:Nat):2<=onE w n i j:=tX w n _ i j
variable {w}
end
noncomputable abbrev k2 (i j:Nat):List Key:=[.inl (i:Int),.inl (j:Int)]
noncomputable abbrev k3 (i j k:Nat):List Key:=[.inl (i:Int),.inl (j:Int),.inl (k:Int)]
theorem Cy {i j a b:Nat} (h:k2 i j=k2 a b):i=a/\j=b:=by
 simp only [k2,List.cons.injEq,Sum.inl.injEq,and_true] at h
 omega
theorem x6 (kvs:List (List Key × L3.D)) (k k':List Key) (v:L3.D):fT (fR kvs k v) k'=if k'=k then some v else fT kvs k':=by
 unfold fR
 by_cases ha:(kvs.any fun kv=>decide (kv.1=k))=true
 ·rw [if_pos ha]
  induction kvs with
  | nil=>simp at ha
  | cons p r ih =>
   unfold fT at *
   rw [Dq,List.find?_cons,List.find?_cons]
   by_cases h1:p.1=k
   ·by_cases h2:k'=k
    ·simp [h1,h2]
    ·have h3:¬ (k=k'):=fun e=>h2 e.symm
     simp only [h1,if_pos,decide_eq_true_eq,h3,decide_false,if_neg h2]
     by_cases hr:(r.any fun kv=>decide (kv.1=k))=true
     ·have:=ih hr
      simpa [h2] using this
     ·have hid:r.map (fun kv=>if kv.1=k then (kv.1,v) else kv)=r:=by
       conv=>rhs;rw [<- List.map_id r]
       refine DN fun x hx=>?_
       have:¬ x.1=k:=fun e=>hr (List.any_eq_true.mpr ⟨x,hx,Dr e⟩)
       simp [this]
      rw [hid]
   ·have hr:(r.any fun kv=>decide (kv.1=k))=true:=by simpa [h1] using ha
    have:=ih hr
    simp only [h1,if_false]
    by_cases h4:p.1=k'
    ·have h5:¬ (k'=k):=fun e=>h1 (h4.trans e)
     simp [h4,h5]
    ·simp only [h4,decide_false]
     exact this
 ·rw [if_neg ha]
  have hn:∀ x ∈ kvs,¬ x.1=k:=fun x hx e=>ha (List.any_eq_true.mpr ⟨x,hx,Dr e⟩)
  unfold fT
  rw [List.find?_append]
  by_cases h2:k'=k
  ·subst h2
   have:kvs.find? (fun kv=>decide (kv.1=k'))=none:=List.find?_eq_none.mpr fun x hx=>by simpa using hn x hx
   simp [this]
  ·have h3:¬ (k=k'):=fun e=>h2 e.symm
   simp [h2,h3]
theorem zy (kvs:List (List Key × L3.D)) (k:List Key) (v:L3.D):(fR kvs k v).length<=kvs.length+1:=by
 unfold fR
 split <;> simp
theorem zx {kvs:List (List Key × L3.D)} {k:List Key} {v:L3.D} {x:List Key × L3.D} (h:x ∈ fR kvs k v):x ∈ kvs\/x=(k,v):=by
 unfold fR at h
 split at h
 ·obtain ⟨y,hy,rfl⟩:=Dk.mp h
  by_cases e:y.1=k
  ·rw [if_pos e,<- e];exact .inr rfl
  ·rw [if_neg e];exact .inl hy
 ·rcases De.mp h with h | h
  ·exact .inl h
  ·exact .inr (DB.mp h)
theorem uh {kvs:List (List Key × L3.D)} {k:List Key} {d:L3.D} (h:fT kvs k=some d):(k,d) ∈ kvs:=by
 unfold fT at h
 obtain ⟨p,h1,rfl⟩:=C8.mp h
 have h2:=List.find?_some h1
 have h3:p.1=k:=by simpa using h2
 rw [<- h3]
 exact List.mem_of_find?_eq_some h1
theorem BC {kvs:List (List Key × L3.D)} {i j:Nat} {d:L3.D} (h:fT kvs (k2 i j)=some d):aB (.dt kvs) (.tup [.int i,.int j])=some (d,.z):=by
 show qM (.dt kvs) (.tup [.int i,.int j])=_
 show (fT kvs (k2 i j)).map (fun d=>(d,Fl.z))=_
 rw [h];rfl
theorem oB {kvs:List (List Key × L3.D)} {i j k:Nat} {d:L3.D} (h:fT kvs (k3 i j k)=some d):aB (.dt kvs) (.tup [.int i,.int j,.int k])=some (d,.z):=by
 show (fT kvs (k3 i j k)).map (fun d=>(d,Fl.z))=_
 rw [h];rfl
theorem set2 {kvs:List (List Key × L3.D)} {i j:Nat} {d:L3.D} (h:kvs.length < 16777216):rH (.dt kvs) [.tup [.int i,.int j],d]=some (.dt (fR kvs (k2 i j) d),.non):=by
 show (if kvs.length < 16777216 then some (L3.D.dt (fR kvs (k2 i j) d),L3.D.non) else none)=_
 rw [if_pos h]
theorem set3 {kvs:List (List Key × L3.D)} {i j k:Nat} {d:L3.D} (h:kvs.length < 16777216):rH (.dt kvs) [.tup [.int i,.int j,.int k],d]=some (.dt (fR kvs (k3 i j k) d),.non):=by
 show (if kvs.length < 16777216 then some (L3.D.dt (fR kvs (k3 i j k) d),L3.D.non) else none)=_
 rw [if_pos h]
theorem dX (a b:Int):eqX (.int a) (.int b)=some (.bl (decide (a=b)),.z):=rfl
structure TbP (kvs:List (List Key × L3.D)) (n:Nat) (f:Nat->Nat->Int) (S:Nat->Nat->Prop) (c:Nat):Prop where
 all:∀ kv ∈ kvs,∃ i j,i < j/\j < n/\kv=(k2 i j,.int (f i j))
 get:∀ i j,S i j->fT kvs (k2 i j)=some (.int (f i j))
 len:kvs.length<=c
theorem TbP.put {kvs:List (List Key × L3.D)} {n:Nat} {f:Nat->Nat->Int} {S S':Nat->Nat->Prop} {c:Nat} (h:TbP kvs n f S c) {i j:Nat} (h1:i < j) (h2:j < n) (hS:∀ a b,S' a b->S a b\/(a=i/\b=j)):TbP (fR kvs (k2 i j) (.int (f i j))) n f S' (c+1) where
 all:=fun kv hk=>by
  rcases zx hk with hk | rfl
  ·exact h.all kv hk
  ·exact ⟨i,j,h1,h2,rfl⟩
 get:=fun a b hs=>by
  rw [x6]
  by_cases e:k2 a b=k2 i j
  ·obtain ⟨rfl,rfl⟩:=Cy e
   rw [if_pos rfl]
  ·rw [if_neg e]
   rcases hS a b hs with h' | ⟨rfl,rfl⟩
   ·exact h.get a b h'
   ·exact absurd rfl e
 len:=by have:=zy kvs (k2 i j) (.int (f i j));have:=h.len;omega
theorem TbP.mono {kvs:List (List Key × L3.D)} {n:Nat} {f:Nat->Nat->Int} {S S':Nat->Nat->Prop} {c c':Nat} (h:TbP kvs n f S c) (hS:∀ a b,S' a b->S a b) (hc:c<=c'):TbP kvs n f S' c':=⟨h.all,fun a b hs=>h.get a b (hS a b hs),DI h.len hc⟩
noncomputable def trn (ps:List Pt) (i j k:Nat):Int:=fE (bB ps i) (bB ps j) (bB ps k)
noncomputable def lb (ps:List Pt) (T:List (List Key × L3.D)):Prop:=∀ i j k,i < j->j < k->k < ps.length->fT T (k3 i j k)=some (.int (trn ps i j k))
theorem vh {n i j k:Nat} (h1:i < j) (h2:j < k) (h3:k < n):(i,j,k) ∈ aU n:=by
 refine DL.mpr ⟨i,List.mem_range.mpr (by omega),DL.mpr ⟨j - (i+1),List.mem_range.mpr (by omega),Dk.mpr ⟨k - (j+1),List.mem_range.mpr (by omega),?_⟩⟩⟩
 refine Prod.ext rfl (Prod.ext ?_ ?_) <;> simp <;> omega
theorem rF {ps:List Pt} {i:Nat} (h:i < ps.length):aB (Shd ps) (.int i)=some (Pd (bB ps i),.z):=by
 exact fG (sY (aL h))
theorem Cw {i j k a b c:Nat} (h:k3 i j k=k3 a b c):i=a/\j=b/\k=c:=by
 simp only [k3,List.cons.injEq,Sum.inl.injEq,and_true] at h
 omega
set_option tactic.hygienic true in
theorem wb {ps:List Pt} (g:SheetX ps) {i j k:Nat} (h1:i < j) (h2:j < k) (h3:k < ps.length) {kvs:List (List Key × L3.D)} (hl:kvs.length < 16777216):dU [some (Shd ps,.z),some (.dt kvs,.u),some (Td (i,j,k),.z)]=some (.ok .nx,[some (Shd ps,.z),some (.dt (fR kvs (k3 i j k) (.int (trn ps i j k))),.u),some (Td (i,j,k),.z)]):=by
 have f:fD [(Shd ps,.z),(Td (i,j,k),.z)]=some (.ok (.int (trn ps i j k),.z),[(Shd ps,.z),(Td (i,j,k),.z)]):=qd (rF (ps:=ps) (i:=i) (by omega)) (rF (ps:=ps) (i:=j) (by omega)) (rF (ps:=ps) (i:=k) (by omega)) (uB g h1 h2 h3)
 have e:rH (.dt kvs) [Td (i,j,k),.int (trn ps i j k)]=some (.dt (fR kvs (k3 i j k) (.int (trn ps i j k))),.non):=set3 hl
 unfold dU
 have hb:am fD (ab (ac 0) (ab (ac 2) ai)) [some (Shd ps,.z),some (.dt kvs,.u),some (Td (i,j,k),.z)]=some (.ok (.val (.int (trn ps i j k)) .z),[some (Shd ps,.z),some (.dt kvs,.u),some (Td (i,j,k),.z)]):=by (repeat' (first | infer_instance | with_reducible apply au (f) | eq_refl))
 exact x4 (i:=1) (ρ2:=[some (Shd ps,.z),some (.dt kvs,.u),some (Td (i,j,k),.z)]) (ρ3:=[some (Shd ps,.z),some (.dt kvs,.u),some (Td (i,j,k),.z)]) hb rfl (cU (i:=2) rfl) rfl rfl e
noncomputable def tn (ps:List Pt) (t:Tri):Int:=trn ps t.1 t.2.1 t.2.2
noncomputable abbrev kT (t:Tri):List Key:=k3 t.1 t.2.1 t.2.2
theorem sJ {t u:Tri} (h:kT t=kT u):t=u:=by
 obtain ⟨h1,h2,h3⟩:=Cw h
 exact Prod.ext h1 (Prod.ext h2 h3)
theorem zi (i j m:Nat):(li i j m).Nodup:=by
 unfold li List.Nodup
 rw [List.pairwise_map]
 exact List.pairwise_lt_range.imp fun {a b} h e=>by
  have:=congrArg (fun t:Tri=>t.2.2) e
  simp only at this
  omega
theorem zj (n i m:Nat):(jG n i m).Nodup:=by
 unfold jG List.Nodup
 refine List.pairwise_flatMap.mpr ⟨fun a _=>zi _ _ _,List.pairwise_lt_range.imp fun {a b} h x hx y hy e=>?_⟩
 obtain ⟨u,_,rfl⟩:=Dk.mp hx
 obtain ⟨v,_,rfl⟩:=Dk.mp hy
 have:=congrArg (fun t:Tri=>t.2.1) e
 simp only at this
 omega
theorem tp (n:Nat):(aU n).Nodup:=by
 unfold aU m8 List.Nodup
 refine List.pairwise_flatMap.mpr ⟨fun a _=>zj _ _ _,List.pairwise_lt_range.imp fun {a b} h x hx y hy e=>?_⟩
 obtain ⟨u,_,hx⟩:=DL.mp hx
 obtain ⟨u',_,rfl⟩:=Dk.mp hx
 obtain ⟨v,_,hy⟩:=DL.mp hy
 obtain ⟨v',_,rfl⟩:=Dk.mp hy
 have:=congrArg (fun t:Tri=>t.1) e
 simp only at this
 omega
theorem n6:∀ l:List Tri,ke (l.map Td)=some (l.map kT)
 | []=>rfl
 | t :: l=>by
  have:=n6 l
  rw [Dq,Dq]
  show (match eC [.int t.1,.int t.2.1,.int t.2.2],ke (l.map Td) with | some k,some ks=>some (k :: ks) | _,_=>none)=_
  rw [this]
  rfl
theorem ug {v:Tri->L3.D}:∀ {l:List Tri} {t:Tri},t ∈ l->fT ((l.map kT).zip (l.map v)) (kT t)=some (v t)
 | u :: l,t,h=>by
  unfold fT
  rw [Dq,Dq,List.zip_cons_cons,List.find?_cons]
  by_cases e:kT u=kT t
  ·have:=sJ e
   subst this
   simp
  ·have hm:t ∈ l:=by
    rcases Db.mp h with rfl | h
    ·exact absurd rfl e
    ·exact h
   have:=ug (v:=v) hm
   unfold fT at this
   simp only [e,decide_false]
   exact this
noncomputable def T0 (ps:List Pt):List (List Key × L3.D):=((aU ps.length).map kT).zip ((aU ps.length).map fun t=>L3.D.int (tn ps t))
theorem zw {kvs:List (List Key × L3.D)} {k:List Key} {v:L3.D} (h:∀ kv ∈ kvs,kv.1 ≠ k):fR kvs k v=kvs ++ [(k,v)]:=by
 unfold fR
 rw [if_neg]
 intro ha
 obtain ⟨kv,h1,h2⟩:=List.any_eq_true.mp ha
 exact h kv h1 (of_decide_eq_true h2)
noncomputable def TL (ps:List Pt) (l:List Tri):List (List Key × L3.D):=l.map fun t=>(kT t,L3.D.int (tn ps t))
theorem T0_is (ps:List Pt):T0 ps=TL ps (aU ps.length):=by
 unfold T0 TL
 generalize aU ps.length=l
 induction l with
 | nil=>rfl
 | cons t l ih=>rw [Dq,Dq,Dq,List.zip_cons_cons,ih]
theorem jd (ps:List Pt):lb ps (T0 ps):=fun i j k h1 h2 h3=>ug (v:=fun t=>L3.D.int (tn ps t)) (t:=(i,j,k)) (vh h1 h2 h3)
theorem fF {n:Nat} (hn:n<=25):(aU n).length<=15625:=l6 hn hn
set_option tactic.hygienic true in
theorem l5 {ps:List Pt} (g:SheetX ps):ci [(Shd ps,.z)]=some (.ok (.dt (T0 ps),.u),[(Shd ps,.z)]):=by
 have hn:ps.length<=25:=by have:=g.most;omega
 have hsm:=fF hn
 obtain ⟨ρ',e,v2,rfl⟩:=cu (bnd:=aw 2) (b:=dU) (fun m ρ=>∃ v2,ρ=[some (Shd ps,.z),some (.dt (TL ps ((aU ps.length).take m)),.u),v2]) (ds:=(aU ps.length).map Td) (ρ:=[some (Shd ps,.z),some (.dt [],.u),none]) (k:=0) ⟨none,rfl⟩ (by
  rintro m d ρ hd ⟨v2,rfl⟩
  rw [Dl] at hd
  obtain ⟨⟨i,j,k⟩,ht,rfl⟩:=C8.mp hd
  have hm:m < (aU ps.length).length:=(Dh.mp ht).1
  obtain ⟨m1,m2,m3⟩:=gx (Di ht)
  rw [Du]
  have b:=wb (i:=i) (j:=j) (k:=k) g m1 m2 m3 (kvs:=TL ps ((aU ps.length).take m)) (by simp [TL];omega)
  have pn:fR (TL ps ((aU ps.length).take m)) (k3 i j k) (.int (trn ps i j k))=TL ps ((aU ps.length).take (m+1)):=by
   rw [zw]
   ·rw [List.take_add_one,ht]
    simp [TL,tn]
   ·intro kv hk e
    obtain ⟨t,h1,rfl⟩:=Dk.mp hk
    have e2:t=(i,j,k):=sJ e
    subst e2
    obtain ⟨a,ha,e3⟩:=List.getElem_of_mem h1
    rw [List.getElem_take] at e3
    rw [Dy] at ha
    have e4:(aU ps.length)[a]?=some (i,j,k):=by rw [Dc (by omega),e3]
    have:=(List.getElem?_inj (show a < (aU ps.length).length by omega) (tp ps.length)).mp (e4.trans ht.symm)
    omega
  rw [pn] at b
  exact ⟨_,_,rfl,.inl b,_,rfl⟩)
 rw [Dg,Du,List.take_length,<- T0_is] at e
 have c:=jF g
 have th:=eg ps.length hn
 have hlen:eS [Shd ps]=some (.int (ps.length:Nat),.z):=by simp [xP,c1]
 generalize T0 ps=T at *
 apply aY (ρ:=[some (Shd ps,.z),none,none]) rfl rfl
 ·apply ao (ρ1:=[some (Shd ps,.z),none,none])
  ·(repeat' (first | infer_instance | with_reducible apply au (c) | eq_refl))
  ·apply ao (ρ1:=[some (Shd ps,.z),some (.dt [],.u),none])
   ·rfl
   ·apply ao
    ·apply gG
     ·(repeat' (first | infer_instance | with_reducible apply au (th) | exact hlen | eq_refl))
     ·rfl
     ·exact e
    ·(repeat' (first | infer_instance | eq_refl))
 ·rfl
theorem kh {α:Type} (f:α->Int):∀ xs:List α,cY (xs.map fun x=>L3.D.int (f x))=some (xs.map f)
 | []=>rfl
 | x :: xs=>by simp only [Dq,cY,kh f xs,Dz]
noncomputable def wv (ps:List Pt) (way:Int) (h i j:Nat):Bool:=decide (trn ps h i j=way)
theorem Ab {α:Type} (xs:List α) (f:α->Int):Ac (.lst (xs.map fun x=>L3.D.int (f x))) (.int 1)=some (.int (mx1 (xs.map f)),.z):=by
 show (cY (xs.map fun x=>L3.D.int (f x))).map _=_
 rw [kh]
 show some _=_
 unfold mx1
 cases h:j7 (xs.map f) <;> simp [h]
theorem Cr (ps:List Pt):eS [Shd ps]=some (.int (ps.length:Nat),.z):=by simp [xP,c1]
theorem zm {a:Int} (ha:-1000<=a/\a<=1000) {n:Nat} (hn:(a+1).toNat=n):rW [.int a,.int (-1),.int (-1)]=some (jY a n):=by
 have lm:du a=true:=Dr (by omega)
 have lm2:du (-1)=true:=Dr (by omega)
 show (if (du a && du (-1) && ((-1:Int) == -1))=true then some (jY a (a - (-1)).toNat) else none)=_
 rw [lm,lm2,show (a - (-1)).toNat=n by omega]
 rfl
theorem wX {hi:Int} {n i:Nat} {d:L3.D} (h:(jY hi n)[i]?=some d):i < n/\d=.int (hi - i):=by
 unfold jY at h
 rw [Dl] at h
 obtain ⟨k,a,b⟩:=C8.mp h
 obtain ⟨hk,e⟩:=Dh.mp a
 rw [List.getElem_range] at e
 subst e
 rw [List.length_range] at hk
 exact ⟨hk,b.symm⟩
theorem wW {hi:Int} {n:Nat}:(jY hi n).length=n:=by unfold jY;simp
theorem xU (n j:Nat):bc ((j:Int)+1) (n - (j+1))=(ks n j).map fun k:Nat=>L3.D.int (k:Int):=by
 unfold bc ks
 rw [DM]
 refine DN fun d _=>?_
 show L3.D.int _=L3.D.int _
 congr 1
section
variable {ps:List Pt} {way:Int} {T kvs:List (List Key × L3.D)} {i j n:Nat}
noncomputable abbrev owS (n:Nat) (way:Int) (T kvs:List (List Key × L3.D)) (a b:Option (L3.D × Fl)):Sto:=[some (.dt T,.u),some (.int (n:Int),.z),some (.int way,.z),some (.dt kvs,.u),a,b]
set_option tactic.hygienic true in
theorem zP (hn:n=ps.length) (hT:lb ps T) (hj:j < n) (hi:i < j) (hl:n<=24) (hk:∀ k,j < k->k < n->fT kvs (k2 j k)=some (.int (onE (wv ps way) n j k))) :
  dM (owS n way T kvs (some (.int i,.z)) (some (.int j,.z)))=some (.ok (.val (.lst (((ks n j).filter fun k=>wv ps way i j k).map fun k=>L3.D.int (onE (wv ps way) n j k))) .u),owS n way T kvs (some (.int i,.z)) (some (.int j,.z))):=by
 obtain ⟨τ',e,a,rfl⟩:=bE (bnd:=aw 0) (c:=cC) (elt:=cA) (fun τ=>∃ a,τ=[a,some (.dt kvs,.u),some (.int j,.z),some (.int way,.z),some (.dt T,.u),some (.int i,.z)]) (fun k:Nat=>L3.D.int (k:Int)) (fun k=>wv ps way i j k) (fun k=>L3.D.int (onE (wv ps way) n j k)) (xs:=ks n j) (τ:=[none,some (.dt kvs,.u),some (.int j,.z),some (.int way,.z),some (.dt T,.u),some (.int i,.z)]) ⟨none,rfl⟩ (by
  rintro k hkk τ ⟨a,rfl⟩
  have hkk:=mem_ks.mp hkk
  have s3:=oB (hT i j k hi hkk.1 (by omega))
  have s2:=BC (hk k hkk.1 hkk.2)
  have c:cC [some (.int k,.z),some (.dt kvs,.u),some (.int j,.z),some (.int way,.z),some (.dt T,.u),some (.int i,.z)]=some (.ok (wv ps way i j k),[some (.int k,.z),some (.dt kvs,.u),some (.int j,.z),some (.int way,.z),some (.dt T,.u),some (.int i,.z)]):=by
   unfold cC
   (repeat' (first | infer_instance | exact s3 | exact dX _ _ | eq_refl))
  have el:cA [some (.int k,.z),some (.dt kvs,.u),some (.int j,.z),some (.int way,.z),some (.dt T,.u),some (.int i,.z)]=some (.ok (.val (.int (onE (wv ps way) n j k)) .z),[some (.int k,.z),some (.dt kvs,.u),some (.int j,.z),some (.int way,.z),some (.dt T,.u),some (.int i,.z)]):=by
   unfold cA
   (repeat' (first | infer_instance | exact s2 | eq_refl))
  exact ⟨_,_,rfl,c,fun _=>⟨_,rfl⟩,fun _=>⟨_,_,_,_,el,rfl,rfl,_,rfl⟩⟩)
 rw [<- xU] at e
 have hr:gj [.int ((j:Int)+1),.int (n:Nat)]=some (bc ((j:Int)+1) (n - (j+1))):=jl (by omega) (by omega) (by omega)
 have im:bm gj (ab (ah cv (ac 5) (mC (.int 1))) (ab (ac 1) ai)) (owS n way T kvs (some (.int i,.z)) (some (.int j,.z)))=some (.ok ([],bc ((j:Int)+1) (n - (j+1))),owS n way T kvs (some (.int i,.z)) (some (.int j,.z))):=by (repeat' (first | with_reducible apply dw (h3:=hr) | infer_instance | eq_refl))
 exact aT (rs:=[]) im e (by rw [bN];omega) rfl
set_option tactic.hygienic true in
theorem zQ (hn:n=ps.length) (hT:lb ps T) (hj:j < n) (hi:i < j) (hl:n<=24) (hk:∀ k,j < k->k < n->fT kvs (k2 j k)=some (.int (onE (wv ps way) n j k))) (hc:kvs.length < 16777216) :
  cE (owS n way T kvs (some (.int i,.z)) (some (.int j,.z)))=some (.ok .nx,owS n way T (fR kvs (k2 i j) (.int (onE (wv ps way) n i j))) (some (.int i,.z)) (some (.int j,.z))):=by
 have c:=zP hn hT hj hi hl hk
 have v:ah cv (mC (.int 1)) (ah Ac dM (mC (.int 1))) (owS n way T kvs (some (.int i,.z)) (some (.int j,.z)))=some (.ok (.val (.int (onE (wv ps way) n i j)) .z),owS n way T kvs (some (.int i,.z)) (some (.int j,.z))):=by
  rw [xv]
  exact gH i_c (gH c i_c rfl rfl (Ab _ _)) rfl rfl rfl
 unfold cE
 exact x4 (i:=3) (ρ1:=owS n way T kvs (some (.int i,.z)) (some (.int j,.z))) (ρ2:=owS n way T kvs (some (.int i,.z)) (some (.int j,.z))) (ρ3:=owS n way T kvs (some (.int i,.z)) (some (.int j,.z))) v rfl (by (repeat' (first | infer_instance | eq_refl))) rfl rfl (set2 hc)
set_option tactic.hygienic true in
theorem BH (hn:n=ps.length) (hT:lb ps T) (hl:n<=24) (h2:2<=n):∃ kvs,d5 [(.dt T,.u),(.int (n:Int),.z),(.int way,.z)]=some (.ok (.dt kvs,.u),[(.dt T,.u),(.int (n:Int),.z),(.int way,.z)])/\TbP kvs n (onE (wv ps way) n) (fun a b=>a < b/\b < n) 1000:=by
 have inner:∀ (i:Nat) (kvs:List (List Key × L3.D)) (v5:Option (L3.D × Fl)),i+1 < n->TbP kvs n (onE (wv ps way) n) (fun a b=>a < b/\b < n/\i < a) (25 * (n - i)) ->
   ∃ kvs' v5',cD (owS n way T kvs (some (.int i,.z)) v5)=some (.ok .nx,owS n way T kvs' (some (.int i,.z)) v5')/\TbP kvs' n (onE (wv ps way) n) (fun a b=>a < b/\b < n/\i<=a) (25 * (n - i+1)):=by
  intro i kvs v5 hi tb
  obtain ⟨ρ',e,kvs',v5',rfl,tb'⟩:=cu (bnd:=aw 5) (b:=cE) (fun m ρ=>∃ kvs v5,ρ=owS n way T kvs (some (.int i,.z)) v5/\TbP kvs n (onE (wv ps way) n) (fun a b=>a < b/\b < n/\(i < a\/(a=i/\b < i+1+m))) (25 * (n - i)+m)) (ds:=bc ((i:Int)+1) (n - (i+1))) (ρ:=owS n way T kvs (some (.int i,.z)) v5) (k:=0) ⟨kvs,v5,rfl,tb.mono (fun a b h=>by omega) (by omega)⟩ (by
   rintro m d ρ hd ⟨kvs,v5,rfl,tb⟩
   obtain ⟨hm,rfl⟩:=dJ hd
   rw [Du] at tb ⊢
   have b:=zQ (way:=way) (kvs:=kvs) (i:=i) (j:=i+1+m) hn hT (by omega) (by omega) hl (fun k h1 h2=>tb.get (i+1+m) k ⟨by omega,by omega,.inl (by omega)⟩) (by have:=tb.len;omega)
   rw [show ((i+1+m:Nat):Int)=(i:Int)+1+m by omega] at b
   refine ⟨_,_,rfl,.inl b,_,_,rfl,?_⟩
   exact (tb.put (i:=i) (j:=i+1+m) (by omega) (by omega) (fun a b h=>by omega)).mono (fun a b h=>h) (by omega))
  rw [bN,Du] at tb'
  have hr:gj [.int ((i:Int)+1),.int (n:Nat)]=some (bc ((i:Int)+1) (n - (i+1))):=jl (by omega) (by omega) (by omega)
  refine ⟨kvs',v5',?_,tb'.mono (fun a b h=>by omega) (by omega)⟩
  unfold cD
  apply gG
  ·(repeat' (first | with_reducible apply dw (h3:=hr) | infer_instance | eq_refl))
  ·rfl
  ·exact e
 obtain ⟨ρ',e,kvs',v4,v5,rfl,tb'⟩:=cu (bnd:=aw 4) (b:=cD) (fun m ρ=>∃ kvs v4 v5,ρ=owS n way T kvs v4 v5/\TbP kvs n (onE (wv ps way) n) (fun a b=>a < b/\b < n/\n - 1<=a+m) (25 * (m+2))) (ds:=jY ((n:Int) - 2) (n - 1)) (ρ:=owS n way T [] none none) (k:=0) ⟨[],none,none,rfl,⟨fun _ h=>(by cases h),fun a b h=>by omega,by simp⟩⟩ (by
  rintro m d ρ hd ⟨kvs,v4,v5,rfl,tb⟩
  obtain ⟨hm,rfl⟩:=wX hd
  rw [Du] at tb ⊢
  obtain ⟨kvs',v5',e,tb'⟩:=inner (n - 2 - m) kvs v5 (by omega) (tb.mono (fun a b h=>by omega) (by omega))
  rw [show ((n - 2 - m:Nat):Int)=(n:Int) - 2 - m by omega] at e
  exact ⟨_,_,rfl,.inl e,_,_,_,rfl,tb'.mono (fun a b h=>by omega) (by omega)⟩)
 rw [wW,Du] at tb'
 have hr:rW [.int ((n:Int) - 2),.int (-1),.int (-1)]=some (jY ((n:Int) - 2) (n - 1)):=zm (by omega) (by omega)
 refine ⟨kvs',?_,tb'.mono (fun a b h=>by omega) (by omega)⟩
 apply aY (ρ:=[some (.dt T,.u),some (.int (n:Int),.z),some (.int way,.z),none,none,none]) rfl rfl
 ·apply ao (ρ1:=owS n way T [] none none)
  ·rfl
  ·apply ao
   ·apply gG
    ·(repeat' (first | with_reducible apply dw (h3:=hr) | infer_instance | eq_refl))
    ·rfl
    ·exact e
   ·(repeat' (first | infer_instance | eq_refl))
 ·rfl
end
theorem yC {xs:List L3.D} {a b:L3.D}:aB (.tup (xs ++ [a,b])) (.int (-2))=some (a,.z)/\aB (.tup (xs ++ [a,b])) (.int (-1))=some (b,.z):=by
 constructor
 ·refine fG ?_
  unfold L2.atI ixN
  rw [if_neg (by decide),if_pos (by simp;omega)]
  rw [show (-2+((xs ++ [a,b]).length:Int)).toNat=xs.length by simp;omega]
  simp
 ·refine fG ?_
  unfold L2.atI ixN
  rw [if_neg (by decide),if_pos (by simp;omega)]
  rw [show (-1+((xs ++ [a,b]).length:Int)).toNat=xs.length+1 by simp;omega]
  simp
theorem Cm {l:List Int} {b:Int} (h:∀ n ∈ l,n<=b) (hb:1<=b):mx1 l<=b:=by
 cases l with
 | nil=>exact hb
 | cons x xs=>exact h _ (lF (by simp))
theorem xu (w:Nat->Nat->Nat->Bool) (n:Nat):∀ (f i j:Nat),onF w n f i j<=2+f
 | 0,_,_=>by simp [onF]
 | f+1,i,j=>by
  show 1+mx1 _<=_
  have:=Cm (l:=((ks n j).filter fun k=>w i j k).map fun k=>onF w n f j k) (b:=2+f) (fun n' hn=>by
   obtain ⟨k,_,rfl⟩:=Dk.mp hn
   exact xu w n f j k) (by omega)
  omega
theorem Ch (w:Nat->Nat->Nat->Bool) (n i j:Nat):onE w n i j<=2+n:=by
 have:=xu w n (n - (j+1)) i j
 unfold onE
 omega
theorem z7 {α:Type} (xs:List α) (f:α->Int) (h:xs ≠ []):∃ x ∈ xs,t6 [.lst (xs.map fun x=>L3.D.int (f x))]=some (.int (f x),.z):=by
 have e:t6 [.lst (xs.map fun x=>L3.D.int (f x))]=((cY (xs.map fun x=>L3.D.int (f x))).bind fun ns=>(sH ns).map fun m=>((.int m,.z):L3.D × Fl)):=rfl
 rw [e,kh]
 cases xs with
 | nil=>exact absurd rfl h
 | cons y ys =>
  have hm:=(i7 (ys.map f) (f y)).1
  obtain ⟨x,hx,e2⟩:=Dk.mp (show ((ys.map f).foldl (fun a b=>if b < a then b else a) (f y)) ∈ (y :: ys).map f from hm)
  exact ⟨x,hx,by rw [e2];rfl⟩
section
variable {ps:List Pt} {way:Int} {T kvs:List (List Key × L3.D)} {n:Nat} {L:Int}
noncomputable def vl (kv:List Key × L3.D):Int:=match kv.2 with | .int v=>v | _=>0
noncomputable def pk (kv:List Key × L3.D):Int × Int:=match kv.1 with | [.inl i,.inl j]=>(i,j) | _=>(0,0)
theorem yR {f:Nat->Nat->Int} {c:Nat} (h2:2<=n) (tb:TbP kvs n f (fun a b=>a < b/\b < n) c):∃ L,qB [.dt kvs]=some (.int L,.z)/\(∀ i j,i < j->j < n->f i j<=L)/\∃ i j,i < j/\j < n/\f i j=L:=by
 have e1:kvs.map (·.2)=kvs.map fun kv=>L3.D.int (vl kv):=by
  refine DN fun kv hk=>?_
  obtain ⟨i,j,_,_,rfl⟩:=tb.all kv hk
  rfl
 have mem:∀ i j,i < j->j < n->f i j ∈ kvs.map vl:=fun i j h1 h2=>by
  have:=uh (tb.get i j ⟨h1,h2⟩)
  exact Dk.mpr ⟨_,this,rfl⟩
 have hne:kvs.map vl ≠ []:=fun e=>by
  have:=mem 0 1 (by omega) (by omega)
  rw [e] at this
  cases this
 refine ⟨mx1 (kvs.map vl),?_,fun i j h1 h2=>Cn (mem i j h1 h2),?_⟩
 ·show ((cY (kvs.map (·.2))).bind fun ns=>(j7 ns).map fun m=>((.int m,.z):L3.D × Fl))=_
  rw [e1,kh]
  show (j7 (kvs.map vl)).map _=_
  rw [xD hne]
  rfl
 ·obtain ⟨kv,hk,e⟩:=Dk.mp (lF hne)
  obtain ⟨i,j,h3,h4,rfl⟩:=tb.all kv hk
  exact ⟨i,j,h3,h4,e⟩
noncomputable abbrev lrS (T:List (List Key × L3.D)) (n:Nat) (way:Int) (kvs:List (List Key × L3.D)) (L:Int) (a b c d:Option (L3.D × Fl)):Sto:=[some (.dt T,.u),some (.int (n:Int),.z),some (.int way,.z),some (.dt kvs,.u),some (.int L,.z),a,b,c,d]
set_option tactic.hygienic true in
theorem Ai {f:Nat->Nat->Int} {c:Nat} (hc:c < 16777216) (tb:TbP kvs n f (fun a b=>a < b/\b < n) c) (hL:∃ i j,i < j/\j < n/\f i j=L):∃ i j:Nat,i < j/\j < n/\f i j=L/\aD t5 (ab eB ai) (lrS T n way kvs L none none none none)=some (.ok (.val (.tup [.int i,.int j]) .z),lrS T n way kvs L none none none none):=by
 obtain ⟨τ',e,a,rfl⟩:=bE (bnd:=aw 0) (c:=cQ) (elt:=gE) (fun τ=>∃ a,τ=[a,some (.int L,.z),some (.dt kvs,.l)]) (fun kv:List Key × L3.D=>qH kv.1) (fun kv=>decide (vl kv=L)) (fun kv=>qH kv.1) (xs:=kvs) (τ:=[none,some (.int L,.z),some (.dt kvs,.l)]) ⟨none,rfl⟩ (by
  rintro kv hk τ ⟨a,rfl⟩
  obtain ⟨i,j,h1,h2,rfl⟩:=tb.all kv hk
  have s2:=BC (tb.get i j ⟨h1,h2⟩)
  have c:cQ [some (.tup [.int i,.int j],.z),some (.int L,.z),some (.dt kvs,.l)]=some (.ok (decide (f i j=L)),[some (.tup [.int i,.int j],.z),some (.int L,.z),some (.dt kvs,.l)]):=by
   unfold cQ
   (repeat' (first | infer_instance | exact s2 | exact dX _ _ | eq_refl))
  exact ⟨_,_,rfl,c,fun _=>⟨_,rfl⟩,fun _=>⟨_,_,_,_,cU rfl,rfl,rfl,_,rfl⟩⟩)
 have im:ph (ac 3) (lrS T n way kvs L none none none none)=some (.ok ([.pl 3],kvs.map fun kv=>qH kv.1),lrS T n way kvs L none none none none):=rfl
 have cm:eB (lrS T n way kvs L none none none none)=some (.ok (.val (.lst ((kvs.filter fun kv=>decide (vl kv=L)).map fun kv=>qH kv.1)) .u),lrS T n way kvs L none none none none):=aT (rs:=[.pl 3]) (ρ2:=[some (.dt T,.u),some (.int (n:Int),.z),some (.int way,.z),some (.dt kvs,.l),some (.int L,.z),none,none,none,none]) im e (by rw [Dg];have:=tb.len;omega) rfl
 have e2:(kvs.filter fun kv=>decide (vl kv=L)).map (fun kv=>qH kv.1)=((kvs.filter fun kv=>decide (vl kv=L)).map pk).map j4:=by
  rw [DM]
  refine DN fun kv hk=>?_
  obtain ⟨i,j,h1,h2,rfl⟩:=tb.all kv (DD.mp hk).1
  rfl
 obtain ⟨i0,j0,h1,h2,h3⟩:=hL
 have hmem:(k2 i0 j0,L3.D.int (f i0 j0)) ∈ kvs.filter fun kv=>decide (vl kv=L):=DD.mpr ⟨uh (tb.get i0 j0 ⟨h1,h2⟩),Dr h3⟩
 obtain ⟨m,hm⟩:∃ m,kE ((kvs.filter fun kv=>decide (vl kv=L)).map pk)=some m:=by
  cases h:(kvs.filter fun kv=>decide (vl kv=L)).map pk with
  | nil =>
   have:=List.mem_map_of_mem (f:=pk) hmem
   rw [h] at this
   cases this
  | cons x xs=>exact ⟨_,rfl⟩
 obtain ⟨kv,hk,rfl⟩:=Dk.mp (n5 hm).1
 obtain ⟨hk,hv⟩:=DD.mp hk
 obtain ⟨i,j,g1,g2,rfl⟩:=tb.all kv hk
 refine ⟨i,j,g1,g2,of_decide_eq_true hv,?_⟩
 have ev:t5 [.lst ((kvs.filter fun kv=>decide (vl kv=L)).map fun kv=>qH kv.1)]=some (.tup [.int i,.int j],.z):=by
  rw [e2]
  show ((fZ _).bind fun ns=>(kE ns).map fun n=>((j4 n,.z):L3.D × Fl))=_
  rw [kU]
  show (kE _).map _=_
  rw [hm]
  rfl
 exact hV (eD cm gF) rfl ev
set_option tactic.hygienic true in
theorem Ak {i j:Nat} {left:Int} {row:L3.D} (hn:n=ps.length) (hT:lb ps T) (hj:j < n) (hi:i < j) (hl:n<=24) {c:Nat} (tb:TbP kvs n (onE (wv ps way) n) (fun a b=>a < b/\b < n) c) :
  gB (lrS T n way kvs L (some (row,.z)) (some (.int i,.z)) (some (.int j,.z)) (some (.int left,.z)))=some (.ok (.val (.lst (((ks n j).filter fun k=>wv ps way i j k && decide (onE (wv ps way) n j k=left)).map fun k:Nat=>L3.D.int (k:Int))) .u),lrS T n way kvs L (some (row,.z)) (some (.int i,.z)) (some (.int j,.z)) (some (.int left,.z))):=by
 obtain ⟨τ',e,a,rfl⟩:=bE (bnd:=aw 0) (c:=cP) (elt:=gD) (fun τ=>∃ a,τ=[a,some (.int way,.z),some (.int left,.z),some (.dt T,.u),some (.dt kvs,.u),some (.int i,.z),some (.int j,.z)]) (fun k:Nat=>L3.D.int (k:Int)) (fun k=>wv ps way i j k && decide (onE (wv ps way) n j k=left)) (fun k:Nat=>L3.D.int (k:Int)) (xs:=ks n j) (τ:=[none,some (.int way,.z),some (.int left,.z),some (.dt T,.u),some (.dt kvs,.u),some (.int i,.z),some (.int j,.z)]) ⟨none,rfl⟩ (by
  rintro k hkk τ ⟨a,rfl⟩
  have hkk:=mem_ks.mp hkk
  have s3:=oB (hT i j k hi hkk.1 (by omega))
  have s2:=BC (tb.get j k ⟨hkk.1,hkk.2⟩)
  have c1:cB (ah eqX (ah aB (ac 3) (cL (ab (ac 5) (ab (ac 6) (ab (ac 0) ai))))) (ac 1)) [some (.int k,.z),some (.int way,.z),some (.int left,.z),some (.dt T,.u),some (.dt kvs,.u),some (.int i,.z),some (.int j,.z)]=some (.ok (wv ps way i j k),[some (.int k,.z),some (.int way,.z),some (.int left,.z),some (.dt T,.u),some (.dt kvs,.u),some (.int i,.z),some (.int j,.z)]):=by
   (repeat' (first | infer_instance | exact s3 | exact dX _ _ | eq_refl))
  have c2:cB (ah eqX (ah aB (ac 4) (cL (ab (ac 6) (ab (ac 0) ai)))) (ac 2)) [some (.int k,.z),some (.int way,.z),some (.int left,.z),some (.dt T,.u),some (.dt kvs,.u),some (.int i,.z),some (.int j,.z)]=some (.ok (decide (onE (wv ps way) n j k=left)),[some (.int k,.z),some (.int way,.z),some (.int left,.z),some (.dt T,.u),some (.dt kvs,.u),some (.int i,.z),some (.int j,.z)]):=by
   (repeat' (first | infer_instance | exact s2 | exact dX _ _ | eq_refl))
  have cc:cP [some (.int k,.z),some (.int way,.z),some (.int left,.z),some (.dt T,.u),some (.dt kvs,.u),some (.int i,.z),some (.int j,.z)]=some (.ok (wv ps way i j k && decide (onE (wv ps way) n j k=left)),[some (.int k,.z),some (.int way,.z),some (.int left,.z),some (.dt T,.u),some (.dt kvs,.u),some (.int i,.z),some (.int j,.z)]):=by
   unfold cP
   cases hw:wv ps way i j k with
   | true =>
    rw [hw] at c1
    exact CG c1 rfl c2
   | false =>
    rw [hw] at c1
    exact CH c1 rfl
  exact ⟨_,_,rfl,cc,fun _=>⟨_,rfl⟩,fun _=>⟨_,_,_,_,cU rfl,rfl,rfl,_,rfl⟩⟩)
 rw [<- xU] at e
 have hr:gj [.int ((j:Int)+1),.int (n:Nat)]=some (bc ((j:Int)+1) (n - (j+1))):=jl (by omega) (by omega) (by omega)
 have im:bm gj (ab (ah cv (ac 7) (mC (.int 1))) (ab (ac 1) ai)) (lrS T n way kvs L (some (row,.z)) (some (.int i,.z)) (some (.int j,.z)) (some (.int left,.z)))=some (.ok ([],bc ((j:Int)+1) (n - (j+1))),lrS T n way kvs L (some (row,.z)) (some (.int i,.z)) (some (.int j,.z)) (some (.int left,.z))):=by (repeat' (first | with_reducible apply dw (h3:=hr) | infer_instance | eq_refl))
 exact aT (rs:=[]) im e (by rw [bN];omega) rfl
theorem Aj {i j:Nat} {A:Int} (w:Nat->Nat->Nat->Bool) (h:onE w n i j=A+1) (hA:2<=A):∃ k,k ∈ (ks n j).filter fun k=>w i j k && decide (onE w n j k=A):=by
 rw [xv] at h
 have hne:((ks n j).filter fun k=>w i j k).map (fun k=>onE w n j k) ≠ []:=fun e=>by rw [e,z5] at h;omega
 obtain ⟨k,hk,e⟩:=Dk.mp (lF hne)
 obtain ⟨hk,hw⟩:=DD.mp hk
 refine ⟨k,DD.mpr ⟨hk,?_⟩⟩
 rw [hw,Bool.true_and]
 exact Dr (by omega)
set_option tactic.hygienic true in
theorem xO (hn:n=ps.length) (hT:lb ps T) (hl:n<=24) {c:Nat} (tb:TbP kvs n (onE (wv ps way) n) (fun a b=>a < b/\b < n) c) {i j:Nat} (hi:i < j) (hj:j < n) (h0:onE (wv ps way) n i j=L) :
  ∃ (R:List L3.D) (a b c:Option (L3.D × Fl)),gi b9 cR (lrS T n way kvs L (some (.tup [.int i,.int j],.z)) none none none)=some (.ok .nx,lrS T n way kvs L (some (.tup R,.z)) a b c)/\(R.length:Int)=L/\∀ d ∈ R,∃ i:Int,d=.int i:=by
 have hL:L<=26:=by have:=Ch (wv ps way) n i j;omega
 have hL2:2<=L:=by have:=zS (wv ps way) n i j;omega
 obtain ⟨ρ',e,R,a,b,c',rfl,hR,hI⟩:=nz (c:=b9) (b:=cR) (fun m ρ=>∃ (pre:List L3.D) (i j:Nat) (a b c:Option (L3.D × Fl)),ρ=lrS T n way kvs L (some (.tup (pre ++ [.int i,.int j]),.z)) a b c/\i < j/\j < n/\onE (wv ps way) n i j=L - pre.length/\m=(L - pre.length).toNat/\(pre.length:Int)+2<=L/\∀ d ∈ pre,∃ i:Int,d=.int i)
  (fun ρ=>∃ (R:List L3.D) (a b c:Option (L3.D × Fl)),ρ=lrS T n way kvs L (some (.tup R,.z)) a b c/\(R.length:Int)=L/\∀ d ∈ R,∃ i:Int,d=.int i) (n:=L.toNat) (ρ:=lrS T n way kvs L (some (.tup [.int i,.int j],.z)) none none none) ⟨[],i,j,none,none,none,rfl,hi,hj,by simpa using h0,by simp,by simpa using hL2,fun d hd=>by cases hd⟩ (by
   rintro m ρ ⟨pre,i,j,a,b,c,rfl,hi,hj,ho,rfl,hp,hI⟩
   have hlen:eS [.tup (pre ++ [.int i,.int j])]=some (.int ((pre.length:Int)+2),.z):=by simp [xP,c1]
   have t:b9 (lrS T n way kvs L (some (.tup (pre ++ [.int i,.int j]),.z)) a b c)=some (.ok (decide ((pre.length:Int)+2 < L)),lrS T n way kvs L (some (.tup (pre ++ [.int i,.int j]),.z)) a b c):=by
    unfold b9
    (repeat' (first | infer_instance | exact hlen | eq_refl))
   by_cases h:(pre.length:Int)+2 < L
   ·rw [Dr h] at t
    refine .inr ⟨lrS T n way kvs L (some (.tup (pre ++ [.int i,.int j]),.z)) a b c,?_⟩
    obtain ⟨a2,a1⟩:=yC (xs:=pre) (a:=L3.D.int (i:Int)) (b:=L3.D.int (j:Int))
    have cm:=Ak (L:=L) (left:=L - ((pre.length:Int)+2)+1) (row:=.tup (pre ++ [.int i,.int j])) hn hT hj hi hl tb
    obtain ⟨k0,hk0⟩:=Aj (n:=n) (i:=i) (j:=j) (A:=L - ((pre.length:Int)+2)+1) (wv ps way) (by omega) (by omega)
    obtain ⟨k,hk,em⟩:=z7 ((ks n j).filter fun k=>wv ps way i j k && decide (onE (wv ps way) n j k=L - ((pre.length:Int)+2)+1)) (fun k:Nat=>(k:Int)) (List.ne_nil_of_mem hk0)
    obtain ⟨hk,hw⟩:=DD.mp hk
    have hk:=mem_ks.mp hk
    have hw:onE (wv ps way) n j k=L - ((pre.length:Int)+2)+1:=by
     simp only [Bool.and_eq_true,decide_eq_true_eq] at hw
     exact hw.2
    have ct:cv (.tup (pre ++ [.int i,.int j])) (.tup [.int (k:Int)])=some (.tup (pre ++ [.int i,.int j] ++ [.int (k:Int)]),.z):=lI (by simp;omega)
    refine ⟨lrS T n way kvs L (some (.tup ((pre ++ [.int i]) ++ [.int j,.int k]),.z)) (some (.int i,.z)) (some (.int j,.z)) (some (.int (L - ((pre.length:Int)+2)+1),.z)),(L - (pre.length+1:Nat)).toNat,t,.inl ?_,by omega,pre ++ [.int i],j,k,_,_,_,rfl,hk.1,hk.2,by simp;omega,by simp,by simp;omega,fun d hd=>by
     rcases De.mp hd with h | h
     ·exact hI d h
     ·exact ⟨_,DB.mp h⟩⟩
    have er:pre ++ [L3.D.int (i:Int),.int j] ++ [.int (k:Int)]=(pre ++ [L3.D.int (i:Int)]) ++ [.int j,.int k]:=by simp
    rw [er] at ct
    unfold cR
    apply ao (ρ1:=lrS T n way kvs L (some (.tup (pre ++ [.int i,.int j]),.z)) (some (.int i,.z)) b c)
    ·(repeat' (first | infer_instance | exact a2 | eq_refl))
    ·apply ao (ρ1:=lrS T n way kvs L (some (.tup (pre ++ [.int i,.int j]),.z)) (some (.int i,.z)) (some (.int j,.z)) c)
     ·(repeat' (first | infer_instance | exact a1 | eq_refl))
     ·apply ao (ρ1:=lrS T n way kvs L (some (.tup (pre ++ [.int i,.int j]),.z)) (some (.int i,.z)) (some (.int j,.z)) (some (.int (L - ((pre.length:Int)+2)+1),.z)))
      ·(repeat' (first | infer_instance | exact hlen | eq_refl))
      ·exact ub (gH (cU rfl) (pi (eD (hV (eD cm gF) rfl em) gF) rfl (show 1<=16777216 by decide)) rfl rfl ct) rfl (show 5 < 9 by decide) rfl
   ·rw [Ds h] at t
    exact .inl ⟨_,t,pre ++ [.int i,.int j],a,b,c,rfl,by simp;omega,fun d hd=>by
     rcases De.mp hd with h | h
     ·exact hI d h
     ·rcases Db.mp h with h | h
      ·exact ⟨_,h⟩
      ·exact ⟨_,DB.mp h⟩⟩)
 exact ⟨R,a,b,c',e,hR,hI⟩
set_option tactic.hygienic true in
theorem BI (hn:n=ps.length) (hT:lb ps T) (hl:n<=24) (h0:0 < n):∃ R,cx [(.dt T,.u),(.int (n:Int),.z),(.int way,.z)]=some (.ok (R,.z),[(.dt T,.u),(.int (n:Int),.z),(.int way,.z)])/\(R=.non\/∃ xs:List L3.D,R=.tup xs/\∀ d ∈ xs,∃ i:Int,d=.int i):=by
 by_cases h1:n=1
 ·refine ⟨.non,?_,.inl rfl⟩
  subst h1
  apply aY (ρ:=[some (.dt T,.u),some (.int (1:Nat),.z),some (.int way,.z),none,none,none,none,none,none]) rfl rfl
  ·apply oF
   apply mL (b:=true)
   ·(repeat' (first | infer_instance | exact dX _ _ | eq_refl))
   ·rfl
   ·(repeat' (first | infer_instance | eq_refl))
  ·rfl
 ·have h2:2<=n:=by omega
  obtain ⟨kvs,eo,tb⟩:=BH (way:=way) hn hT hl h2
  obtain ⟨L,ev,u1,u2⟩:=yR h2 tb
  obtain ⟨i,j,g1,g2,g3,ep⟩:=Ai (T:=T) (way:=way) (by decide) tb u2
  obtain ⟨R,a,b,c,ew,hR,hI⟩:=xO hn hT hl tb g1 g2 g3
  refine ⟨.tup R,?_,.inr ⟨R,rfl,hI⟩⟩
  have ne:decide ((n:Int)=1)=false:=Ds (by omega)
  apply aY (ρ:=[some (.dt T,.u),some (.int (n:Int),.z),some (.int way,.z),none,none,none,none,none,none]) rfl rfl
  ·apply ao (ρ1:=[some (.dt T,.u),some (.int (n:Int),.z),some (.int way,.z),none,none,none,none,none,none])
   ·apply c8
    ·(repeat' (first | infer_instance | exact dX _ _ | eq_refl))
    ·exact ne
    ·rfl
   ·apply ao (ρ1:=[some (.dt T,.u),some (.int (n:Int),.z),some (.int way,.z),some (.dt kvs,.u),none,none,none,none,none])
    ·(repeat' (first | infer_instance | with_reducible apply au (eo) | eq_refl))
    ·apply ao (ρ1:=lrS T n way kvs L none none none none)
     ·(repeat' (first | infer_instance | exact ev | eq_refl))
     ·apply ao (ρ1:=lrS T n way kvs L (some (.tup [.int i,.int j],.z)) none none none)
      ·exact ub ep rfl (show 5 < 9 by decide) rfl
      ·apply ao
       ·exact ew
       ·(repeat' (first | infer_instance | eq_refl))
  ·rfl
end
noncomputable abbrev Fo:=Tri × Nat
noncomputable def Qd (f:Fo):L3.D:=.tup [.int f.1.1,.int f.1.2.1,.int f.1.2.2,.int f.2]
noncomputable def oM (n:Nat) (t:Tri):List Fo:=(List.range (n - (t.2.2+1))).map fun m=>(t,t.2.2+1+m)
noncomputable def frs (n:Nat) (l:List Tri):List Fo:=l.flatMap (oM n)
theorem qh (n:Nat) (t:Tri):(oM n t).length=n - (t.2.2+1):=by simp [oM]
theorem pp {n:Nat}:∀ l:List Tri,(frs n l).length<=n * l.length
 | []=>by simp [frs]
 | t :: l=>by
  have:=pp (n:=n) l
  have h:(frs n (t :: l)).length=(oM n t).length+(frs n l).length:=by simp [frs]
  rw [h,qh,Dx,Nat.mul_succ]
  omega
theorem z8 {n:Nat} {f:Fo} (h:f ∈ frs n (aU n)):f.1.1 < f.1.2.1/\f.1.2.1 < f.1.2.2/\f.1.2.2 < f.2/\f.2 < n:=by
 obtain ⟨t,ht,hf⟩:=DL.mp h
 obtain ⟨m,hm,rfl⟩:=Dk.mp hf
 obtain ⟨h1,h2,h3⟩:=gx ht
 have:=List.mem_range.mp hm
 refine ⟨h1,h2,?_,?_⟩
 ·show t.2.2 < t.2.2+1+m
  omega
 ·show t.2.2+1+m < n
  omega
set_option tactic.hygienic true in
theorem vE {n:Nat} (hn:n<=25) {t:Tri} (ht:t ∈ aU n) {xs:List L3.D} (hx:xs.length<=1000000):hJ [some (.int n,.z),some (.lst xs,.u),some (Td t,.z)]=some (.ok .nx,[some (.int n,.z),some (.lst (xs ++ (oM n t).map Qd),.u),some (Td t,.z)]):=by
 obtain ⟨h1,h2,h3⟩:=gx ht
 obtain ⟨i,j,k⟩:=t
 dsimp only at h1 h2 h3
 obtain ⟨τ',e,a,rfl⟩:=dY (bnd:=aw 0) (c:=ce) (elt:=jJ) (fun τ=>∃ a,τ=[a,some (Td (i,j,k),.z)]) (fun _=>true) (fun d=>.tup [.int i,.int j,.int k,d]) (ds:=bc ((k:Int)+1) (n - (k+1))) (τ:=[none,some (Td (i,j,k),.z)]) ⟨none,rfl⟩ (by
  rintro d hd τ ⟨a,rfl⟩
  have hc:cv (Td (i,j,k)) (.tup [d])=some (.tup [.int i,.int j,.int k,d],.z):=lI (A:=[.int i,.int j,.int k]) (B:=[d]) (by simp)
  exact ⟨[some (d,.z),some (Td (i,j,k),.z)],_,rfl,rfl,(fun h=>by cases h),fun _=>⟨.val (.tup [.int i,.int j,.int k,d]) .z,[some (d,.z),some (Td (i,j,k),.z)],(.tup [.int i,.int j,.int k,d],.z),_,by unfold jJ;(repeat' (first | infer_instance | exact hc | eq_refl)),rfl,rfl,_,rfl⟩⟩)
 have e4:((bc ((k:Int)+1) (n - (k+1))).filter fun _=>true).map (fun d=>L3.D.tup [.int i,.int j,.int k,d])=(oM n (i,j,k)).map Qd:=by
  rw [DK.mpr (fun _ _=>rfl)]
  simp [bc,oM,Function.comp_def,Qd]
 rw [e4] at e
 have hr:gj [.int ((k:Int)+1),.int n]=some (bc ((k:Int)+1) (n - (k+1))):=jl (by omega) (by omega) (by omega)
 have hk:aB (Td (i,j,k)) (.int 2)=some (.int k,.z):=rfl
 have c:mH [some (.int n,.z),some (.lst xs,.u),some (Td (i,j,k),.z)]=some (.ok (.val (.lst ((oM n (i,j,k)).map Qd)) .u),[some (.int n,.z),some (.lst xs,.u),some (Td (i,j,k),.z)]):=aT (rs:=[]) (by (repeat' (first | with_reducible apply dw (h3:=hr) | infer_instance | exact hk | eq_refl))) e (by rw [bN];omega) rfl
 have hl:xs.length+((oM n (i,j,k)).map Qd).length<=16777216:=by
  rw [Dg,qh];dsimp only;omega
 unfold hJ
 (repeat' (first | with_reducible exact c | infer_instance | exact yg hl | eq_refl))
set_option tactic.hygienic true in
theorem uW (n:Nat) (hn:n<=25):lL [(.int n,.z)]=some (.ok (.lst ((frs n (aU n)).map Qd),.u),[(.int n,.z)]):=by
 have th:=eg n hn
 have sm:=fF hn
 obtain ⟨ρ',e,v2,rfl⟩:=cu (bnd:=aw 2) (b:=hJ) (fun m ρ=>∃ v2,ρ=[some (.int n,.z),some (.lst ((frs n ((aU n).take m)).map Qd),.u),v2]) (ds:=(aU n).map Td) (ρ:=[some (.int n,.z),some (.lst [],.u),none]) (k:=0) ⟨none,rfl⟩ (by
  rintro m d ρ hd ⟨v2,rfl⟩
  rw [Dl] at hd
  obtain ⟨t,ht,rfl⟩:=C8.mp hd
  have hm:=Di ht
  have hx:((frs n ((aU n).take m)).map Qd).length<=1000000:=by
   rw [Dg]
   have h1:=pp (n:=n) ((aU n).take m)
   have h2:((aU n).take m).length<=15625:=by rw [Dy];omega
   have h3:n * ((aU n).take m).length<=25 * 15625:=Nat.mul_le_mul hn h2
   omega
  rw [Du]
  refine ⟨_,_,rfl,.inl (vE hn hm hx),some (Td t,.z),?_⟩
  rw [List.take_add_one,ht]
  simp [frs])
 rw [Dg,Du,List.take_length] at *
 apply aY (ρ:=[some (.int n,.z),none,none]) rfl rfl
 ·apply ao
  ·(repeat' (first | infer_instance | eq_refl))
  ·apply ao
   ·apply gG
    ·(repeat' (first | infer_instance | with_reducible apply au (th) | eq_refl))
    ·rfl
    ·exact e
   ·(repeat' (first | infer_instance | eq_refl))
 ·rfl
theorem sd {b B s:Int} (hb:0 < b) (e:b * B=s) (hs:0 < s):0 < B:=by
 rcases Int.lt_or_le 0 B with h | h
 ·exact h
 ·have:=Int.mul_le_mul_of_nonneg_left h (Int.le_of_lt hb)
  rw [Int.mul_zero] at this
  omega
theorem oW {b B s:Int} (hb:0 < b) (e:b * B=s) (hs:s<=0):¬ 0 < B:=fun h=>by
 have:=Int.mul_pos hb h
 omega
theorem oY {u v A C:Int} (hu:0 < u) (hv:0 < v) (hA:0 < A) (hC:0 < C):0 < u * A+v * C:=by
 have h1:=Int.mul_pos hu hA
 have h2:=Int.mul_pos hv hC
 omega
theorem mq {u v A C:Int} (hu:0 < u) (hv:0 < v) (hA:¬ 0 < A) (hC:¬ 0 < C):u * A+v * C<=0:=by
 have h1:=Int.mul_le_mul_of_nonneg_left (show A<=0 by omega) (Int.le_of_lt hu)
 have h2:=Int.mul_le_mul_of_nonneg_left (show C<=0 by omega) (Int.le_of_lt hv)
 rw [Int.mul_zero] at h1 h2
 omega
theorem quad1 (h i j k:Pt):(j.1 - h.1) * aM h i k=(k.1 - h.1) * aM h i j+(i.1 - h.1) * aM h j k:=by
 simp only [aM];grind
theorem quad2 (h i j k:Pt):(k.1 - i.1) * aM h j k=(k.1 - h.1) * aM i j k+(k.1 - j.1) * aM h i k:=by
 simp only [aM];grind
theorem quad3 (h i j k:Pt):(j.1 - i.1) * aM h i k=(k.1 - i.1) * aM h i j+(i.1 - h.1) * aM i j k:=by
 simp only [aM];grind
noncomputable def chg (a b c d:Int):Nat:=(if a=b then 0 else 1)+(if b=c then 0 else 1)+(if c=d then 0 else 1)
theorem yt {h i j k:Pt} (h1:h.1 < i.1) (h2:i.1 < j.1) (h3:j.1 < k.1):chg (fE h i j) (fE h i k) (fE h j k) (fE i j k)<=1:=by
 have q1:=quad1 h i j k
 have q2:=quad2 h i j k
 have q3:=quad3 h i j k
 have p1:0 < j.1 - h.1:=by omega
 have p2:0 < k.1 - h.1:=by omega
 have p3:0 < i.1 - h.1:=by omega
 have p4:0 < k.1 - i.1:=by omega
 have p5:0 < k.1 - j.1:=by omega
 have p6:0 < j.1 - i.1:=by omega
 unfold fE
 generalize aM h i j=A at *
 generalize aM h i k=B at *
 generalize aM h j k=C at *
 generalize aM i j k=D at *
 by_cases a:0 < A <;> by_cases b:0 < B <;> by_cases c:0 < C <;> by_cases d:0 < D <;> simp only [a,b,c,d,if_true,if_false] <;> first
  | decide
  | exact absurd (sd p1 q1 (oY p2 p3 a c)) b
  | exact absurd b (oW p1 q1 (mq p2 p3 a c))
  | exact absurd (sd p4 q2 (oY p2 p5 d b)) c
  | exact absurd c (oW p4 q2 (mq p2 p5 d b))
  | exact absurd (sd p6 q3 (oY p4 p3 a d)) b
  | exact absurd b (oW p6 q3 (mq p4 p3 a d))
noncomputable abbrev R4 (a b c d:Int):L3.D:=.lst [.int a,.int b,.int c,.int d]
noncomputable def g4 (a b c d:Int):L3.D->Bool
 | .int i=>if i=0 then !decide (a=b) else if i=1 then !decide (b=c) else !decide (c=d)
 | _=>true
set_option tactic.hygienic true in
theorem c4 {a b c d i x y:Int} (h1:aB (R4 a b c d) (.int i)=some (.int x,.z)) (h2:aB (R4 a b c d) (.int (i+1))=some (.int y,.z)):aQ [some (.int i,.z),some (R4 a b c d,.u)]=some (.ok (!decide (x=y)),[some (.int i,.z),some (R4 a b c d,.u)]):=by
 have hn:=t0 (i:=x) (j:=y)
 unfold aQ
 (repeat' (first | infer_instance | exact h1 | exact h2 | exact hn | eq_refl))
theorem wV (a b c d:Int):∃ out τ',bV (aw 0) aQ bp [.int 0,.int 1,.int 2] [none,some (R4 a b c d,.u)]=some (.ok out,τ')/\(∃ v,τ'=[v,some (R4 a b c d,.u)])/\out.length=chg a b c d:=by
 obtain ⟨τ',e,v,rfl⟩:=dY (bnd:=aw 0) (c:=aQ) (elt:=bp) (fun τ=>∃ v,τ=[v,some (R4 a b c d,.u)]) (g4 a b c d) (fun d=>d) (ds:=[.int 0,.int 1,.int 2]) (τ:=[none,some (R4 a b c d,.u)]) ⟨none,rfl⟩ (by
  have step:∀ {i x y:Int} (v:Option (L3.D × Fl)),aB (R4 a b c d) (.int i)=some (.int x,.z)->aB (R4 a b c d) (.int (i+1))=some (.int y,.z)->g4 a b c d (.int i) = !decide (x=y)->∃ τ1 τ2,aw 0 (.int i) [v,some (R4 a b c d,.u)]=some τ1/\aQ τ1=some (.ok (g4 a b c d (.int i)),τ2)/\(g4 a b c d (.int i)=false->∃ v,τ2=[v,some (R4 a b c d,.u)])/\(g4 a b c d (.int i)=true->∃ r τ3 p τ4,bp τ2=some (.ok r,τ3)/\fU r τ3=some (.ok p,τ4)/\p.1=.int i/\∃ v,τ4=[v,some (R4 a b c d,.u)]):=fun {i x y} v h1 h2 h3 =>
   ⟨[some (.int i,.z),some (R4 a b c d,.u)],[some (.int i,.z),some (R4 a b c d,.u)],rfl,by rw [h3];exact c4 h1 h2,fun _=>⟨_,rfl⟩,fun _=>⟨.pl 0,[some (.int i,.z),some (R4 a b c d,.u)],(.int i,.z),[some (.int i,.z),some (R4 a b c d,.u)],rfl,rfl,rfl,_,rfl⟩⟩
  rintro d' hd τ ⟨v,rfl⟩
  rcases Db.mp hd with rfl | hd
  ·exact step (x:=a) (y:=b) v rfl rfl rfl
  rcases Db.mp hd with rfl | hd
  ·exact step (x:=b) (y:=c) v rfl rfl rfl
  rcases Db.mp hd with rfl | hd
  ·exact step (x:=c) (y:=d) v rfl rfl rfl
  ·cases hd)
 refine ⟨_,_,e,⟨v,rfl⟩,?_⟩
 have k:∀ (x y:Int),(if x=y then 0 else 1:Nat)=bif decide (x=y) then 0 else 1:=fun x y=>by by_cases h:x=y <;> simp [h]
 have g0:g4 a b c d (.int 0) = !decide (a=b):=rfl
 have g1:g4 a b c d (.int 1) = !decide (b=c):=rfl
 have g2:g4 a b c d (.int 2) = !decide (c=d):=rfl
 unfold chg
 rw [k a b,k b c,k c d]
 simp only [Dg,List.filter_cons,List.filter_nil,g0,g1,g2]
 generalize decide (a=b)=p
 generalize decide (b=c)=q
 generalize decide (c=d)=r
 cases p <;> cases q <;> cases r <;> rfl
set_option tactic.hygienic true in
theorem rQ {ps:List Pt} {T:List (List Key × L3.D)} (hT:lb ps T) (R:Rising ps) {f:Fo} (hf:f ∈ frs ps.length (aU ps.length)):bU [(.dt T,.u),(Qd f,.z)]=some (.ok (.bl true,.z),[(.dt T,.u),(Qd f,.z)]):=by
 obtain ⟨h1,h2,h3,h4⟩:=z8 hf
 obtain ⟨⟨h,i,j⟩,k⟩:=f
 dsimp only at h1 h2 h3 h4
 have t1:aB (.dt T) (.tup [.int h,.int i,.int j])=some (.int (trn ps h i j),.z):=oB (hT h i j h1 h2 (by omega))
 have t2:aB (.dt T) (.tup [.int h,.int i,.int k])=some (.int (trn ps h i k),.z):=oB (hT h i k h1 (by omega) h4)
 have t3:aB (.dt T) (.tup [.int h,.int j,.int k])=some (.int (trn ps h j k),.z):=oB (hT h j k (by omega) h3 h4)
 have t4:aB (.dt T) (.tup [.int i,.int j,.int k])=some (.int (trn ps i j k),.z):=oB (hT i j k h2 h3 h4)
 have x1:(bB ps h).1 < (bB ps i).1:=R h i _ _ h1 (aL (by omega)) (aL (by omega))
 have x2:(bB ps i).1 < (bB ps j).1:=R i j _ _ h2 (aL (by omega)) (aL (by omega))
 have x3:(bB ps j).1 < (bB ps k).1:=R j k _ _ h3 (aL (by omega)) (aL (by omega))
 have hc:=yt x1 x2 x3
 have hc:chg (trn ps h i j) (trn ps h i k) (trn ps h j k) (trn ps i j k)<=1:=hc
 generalize trn ps h i j=a at *
 generalize trn ps h i k=b at *
 generalize trn ps h j k=c at *
 generalize trn ps i j k=d at *
 obtain ⟨out,τ',e,⟨v,rfl⟩,hl⟩:=wV a b c d
 have q0:aB (Qd ((h,i,j),k)) (.int 0)=some (.int h,.z):=rfl
 have q1:aB (Qd ((h,i,j),k)) (.int 1)=some (.int i,.z):=rfl
 have q2:aB (Qd ((h,i,j),k)) (.int 2)=some (.int j,.z):=rfl
 have q3:aB (Qd ((h,i,j),k)) (.int 3)=some (.int k,.z):=rfl
 have hr:dC [.int 3]=some [.int 0,.int 1,.int 2]:=rfl
 generalize Qd ((h,i,j),k)=Q at *
 generalize L3.D.int (h:Int)=dh at *
 generalize L3.D.int (i:Int)=di at *
 generalize L3.D.int (j:Int)=dj at *
 generalize L3.D.int (k:Int)=dk at *
 have e2:c7 [some (.dt T,.u),some (Q,.z),some (dh,.z),some (di,.z),some (dj,.z),some (dk,.z),some (R4 a b c d,.u)]=some (.ok (.val (.lst out) .u),[some (.dt T,.u),some (Q,.z),some (dh,.z),some (di,.z),some (dj,.z),some (dk,.z),some (R4 a b c d,.u)]):=aT (rs:=[]) (by (repeat' (first | with_reducible apply dw (h3:=hr) | infer_instance | eq_refl))) e (by decide) rfl
 have hle:leI (.int (out.length:Int)) (.int 1)=some (.bl true,.z):=by
  simp [fN];omega
 have l1:ah aB (ac 0) (cL (ab (ac 2) (ab (ac 3) (ab (ac 4) ai)))) [some (.dt T,.u),some (Q,.z),some (dh,.z),some (di,.z),some (dj,.z),some (dk,.z),none]=some (.ok (.val (.int a) .z),[some (.dt T,.u),some (Q,.z),some (dh,.z),some (di,.z),some (dj,.z),some (dk,.z),none]):=by (repeat' (first | infer_instance | exact t1 | eq_refl))
 have l2:ah aB (ac 0) (cL (ab (ac 2) (ab (ac 3) (ab (ac 5) ai)))) [some (.dt T,.u),some (Q,.z),some (dh,.z),some (di,.z),some (dj,.z),some (dk,.z),none]=some (.ok (.val (.int b) .z),[some (.dt T,.u),some (Q,.z),some (dh,.z),some (di,.z),some (dj,.z),some (dk,.z),none]):=by (repeat' (first | infer_instance | exact t2 | eq_refl))
 have l3:ah aB (ac 0) (cL (ab (ac 2) (ab (ac 4) (ab (ac 5) ai)))) [some (.dt T,.u),some (Q,.z),some (dh,.z),some (di,.z),some (dj,.z),some (dk,.z),none]=some (.ok (.val (.int c) .z),[some (.dt T,.u),some (Q,.z),some (dh,.z),some (di,.z),some (dj,.z),some (dk,.z),none]):=by (repeat' (first | infer_instance | exact t3 | eq_refl))
 have l4:ah aB (ac 0) (cL (ab (ac 3) (ab (ac 4) (ab (ac 5) ai)))) [some (.dt T,.u),some (Q,.z),some (dh,.z),some (di,.z),some (dj,.z),some (dk,.z),none]=some (.ok (.val (.int d) .z),[some (.dt T,.u),some (Q,.z),some (dh,.z),some (di,.z),some (dj,.z),some (dk,.z),none]):=by (repeat' (first | infer_instance | exact t4 | eq_refl))
 apply aY (ρ:=[some (.dt T,.u),some (Q,.z),none,none,none,none,none]) rfl rfl
 ·unfold d8
  apply ao (ρ1:=[some (.dt T,.u),some (Q,.z),some (dh,.z),none,none,none,none])
  ·(repeat' (first | infer_instance | exact q0 | eq_refl))
  apply ao (ρ1:=[some (.dt T,.u),some (Q,.z),some (dh,.z),some (di,.z),none,none,none])
  ·(repeat' (first | infer_instance | exact q1 | eq_refl))
  apply ao (ρ1:=[some (.dt T,.u),some (Q,.z),some (dh,.z),some (di,.z),some (dj,.z),none,none])
  ·(repeat' (first | infer_instance | exact q2 | eq_refl))
  apply ao (ρ1:=[some (.dt T,.u),some (Q,.z),some (dh,.z),some (di,.z),some (dj,.z),some (dk,.z),none])
  ·(repeat' (first | infer_instance | exact q3 | eq_refl))
  apply ao (ρ1:=[some (.dt T,.u),some (Q,.z),some (dh,.z),some (di,.z),some (dj,.z),some (dk,.z),some (R4 a b c d,.u)])
  ·(repeat' (first | with_reducible exact l1 | with_reducible exact l2 | with_reducible exact l3 | with_reducible exact l4 | infer_instance | eq_refl))
  ·apply cV
   ·(repeat' (first | with_reducible exact e2 | infer_instance | exact hle | eq_refl))
   ·rfl
 ·rfl
set_option tactic.hygienic true in
theorem oJ {ps:List Pt} (hn:ps.length<=25):a9 [(.int ps.length,.z),(.tup ((aU ps.length).map fun t=>.int (tn ps t)),.z)]=some (.ok (.dt (T0 ps),.u),[(.int ps.length,.z),(.tup ((aU ps.length).map fun t=>.int (tn ps t)),.z)]):=by
 have th:=eg ps.length hn
 have hz:dzD [.lst ((aU ps.length).map Td),.tup ((aU ps.length).map fun t=>.int (tn ps t))]=some (.dt (T0 ps),.u):=by
  show ((ke ((aU ps.length).map Td)).bind fun ks=>if ks.length=((aU ps.length).map fun t=>L3.D.int (tn ps t)).length/\ks.Nodup then some ((.dt (ks.zip ((aU ps.length).map fun t=>L3.D.int (tn ps t))),.u):L3.D × Fl) else none)=_
  rw [n6]
  show (if ((aU ps.length).map kT).length=((aU ps.length).map fun t=>L3.D.int (tn ps t)).length/\((aU ps.length).map kT).Nodup then _ else _)=_
  rw [if_pos]
  ·rfl
  refine ⟨by simp,?_⟩
  unfold List.Nodup
  rw [List.pairwise_map]
  exact (tp _).imp fun h e=>h (sJ e)
 generalize (aU ps.length).map (fun t=>L3.D.int (tn ps t))=S at *
 generalize T0 ps=T at *
 apply aY (ρ:=[some (.int ps.length,.z),some (.tup S,.z)]) rfl rfl
 ·apply cV
  ·(repeat' (first | infer_instance | with_reducible apply au (th) | exact hz | eq_refl))
  ·rfl
 ·rfl
set_option tactic.hygienic true in
theorem tD {k lo hi:Int} (h1:lo<=k) (h2:k<=hi):cf [(.int k,.z),(.int lo,.z),(.int hi,.z)]=some (.ok (.non,.z),[(.int k,.z),(.int lo,.z),(.int hi,.z)]):=by
 have l1:leI (.int lo) (.int k)=some (.bl true,.z):=by simp [fN,h1]
 have l2:leI (.int k) (.int hi)=some (.bl true,.z):=by simp [fN,h2]
 have f:=gv k
 apply AJ (ρ:=[some (.int k,.z),some (.int lo,.z),some (.int hi,.z)]) rfl rfl
 ·apply c8
  ·apply k7 (b:=false)
   ·apply ib (b:=true)
    (repeat' (first | infer_instance | with_reducible apply au (f) | eq_refl))
   ·rfl
   ·exact ib (vB (pj (cU rfl) (cU rfl) rfl rfl l1 (cU rfl) rfl rfl l2) rfl)
  ·rfl
  ·rfl
 ·rfl
set_option tactic.hygienic true in
theorem rP {s:Int} (h:s=1\/s = -1):jt [(.int s,.z)]=some (.ok (.bl true,.z),[(.int s,.z)]):=by
 have f:=gv s
 rcases h with rfl | rfl
 ·apply aY (ρ:=[some (.int 1,.z)]) rfl rfl
  ·apply cV
   ·apply jr (b:=true)
    ·(repeat' (first | infer_instance | with_reducible apply au (f) | eq_refl))
    ·rfl
    ·rfl
    ·apply CA (b:=true)
     ·exact gH (cU rfl) i_c rfl rfl rfl
     ·rfl
     ·rfl
   ·rfl
  ·rfl
 ·apply aY (ρ:=[some (.int (-1),.z)]) rfl rfl
  ·apply cV
   ·apply jr (b:=true)
    ·(repeat' (first | infer_instance | with_reducible apply au (f) | eq_refl))
    ·rfl
    ·rfl
    ·apply CB (b:=false)
     ·exact gH (cU rfl) i_c rfl rfl rfl
     ·rfl
     ·rfl
     ·exact gH (cU rfl) i_c rfl rfl rfl
   ·rfl
  ·rfl
theorem tu (ps:List Pt) (t:Tri):tn ps t=1\/tn ps t = -1:=by
 unfold tn trn fE
 split
 ·exact .inl rfl
 ·exact .inr rfl
set_option tactic.hygienic true in
theorem tH {ps:List Pt} (g:SheetX ps):cg [(.int ps.length,.z),(.tup ((aU ps.length).map fun t=>.int (tn ps t)),.z)]=some (.ok (.bl true,.z),[(.int ps.length,.z),(.tup ((aU ps.length).map fun t=>.int (tn ps t)),.z)]):=by
 have hn:ps.length<=25:=by have:=g.most;omega
 have sm:=fF (n:=ps.length) hn
 have fm:(frs ps.length (aU ps.length)).length < 16777216:=by
  have h1:=pp (n:=ps.length) (aU ps.length)
  have h3:ps.length * (aU ps.length).length<=25 * 15625:=Nat.mul_le_mul hn sm
  omega
 generalize hS:(aU ps.length).map (fun t=>L3.D.int (tn ps t))=S
 have th:=eg ps.length hn
 have fo:=uW ps.length hn
 have hb:=oJ hn
 rw [hS] at hb
 have hT:=jd ps
 generalize T0 ps=T at *
 have hlen:neX (.int (S.length:Int)) (.int (((aU ps.length).map Td).length:Int))=some (.bl false,.z):=by
  rw [t0,<- hS];simp
 obtain ⟨τ1,e1,a1,rfl⟩:=dY (bnd:=aw 0) (c:=ce) (elt:=dQ) (fun τ=>∃ a,τ=[a]) (fun _=>true) (fun _=>.bl true) (ds:=S) (τ:=[none]) ⟨none,rfl⟩ (by
  rintro d hd τ ⟨a,rfl⟩
  rw [<- hS] at hd
  obtain ⟨t,_,rfl⟩:=Dk.mp hd
  have f:=rP (tu ps t)
  exact ⟨[some (.int (tn ps t),.z)],_,rfl,rfl,(fun h=>by cases h),fun _=>⟨.val (.bl true) .z,[some (.int (tn ps t),.z)],(.bl true,.z),[some (.int (tn ps t),.z)],by unfold dQ;(repeat' (first | infer_instance | with_reducible apply au (f) | eq_refl)),rfl,rfl,_,rfl⟩⟩)
 have a3:=fB (ds:=(S.filter fun _=>true).map fun _=>.bl true) (fun d hd=>by obtain ⟨_,_,rfl⟩:=Dk.mp hd;rfl)
 generalize (S.filter fun _=>true).map (fun _=>L3.D.bl true)=o1 at *
 obtain ⟨τ2,e2,a2,rfl⟩:=dY (bnd:=aw 0) (c:=ce) (elt:=dP) (fun τ=>∃ a,τ=[a,some (.dt T,.u)]) (fun _=>true) (fun _=>.bl true) (ds:=(frs ps.length (aU ps.length)).map Qd) (τ:=[none,some (.dt T,.u)]) ⟨none,rfl⟩ (by
  rintro d hd τ ⟨a,rfl⟩
  obtain ⟨q,hq,rfl⟩:=Dk.mp hd
  have f:=rQ hT (ku g) hq
  exact ⟨[some (Qd q,.z),some (.dt T,.u)],_,rfl,rfl,(fun h=>by cases h),fun _=>⟨.val (.bl true) .z,[some (Qd q,.z),some (.dt T,.u)],(.bl true,.z),[some (Qd q,.z),some (.dt T,.u)],by unfold dP;(repeat' (first | infer_instance | with_reducible apply au (f) | eq_refl)),rfl,rfl,_,rfl⟩⟩)
 have a4:=fB (ds:=(((frs ps.length (aU ps.length)).map Qd).filter fun _=>true).map fun _=>.bl true) (fun d hd=>by obtain ⟨_,_,rfl⟩:=Dk.mp hd;rfl)
 generalize (((frs ps.length (aU ps.length)).map Qd).filter fun _=>true).map (fun _=>L3.D.bl true)=o2 at *
 have hSl:S.length < 16777216:=by rw [<- hS,Dg];omega
 have c1:gf [some (.int ps.length,.z),some (.tup S,.z),none]=some (.ok (.val (.lst o1) .u),[some (.int ps.length,.z),some (.tup S,.z),none]):=aT (im:=cT (ac 1)) (ix:=[none]) (ρ1:=[some (.int ps.length,.z),some (.tup S,.z),none]) (ρ2:=[some (.int ps.length,.z),some (.tup S,.z),none]) (rs:=[.pl 1]) (by (repeat' (first | infer_instance | eq_refl))) e1 hSl rfl
 have c2:ge [some (.int ps.length,.z),some (.tup S,.z),some (.dt T,.u)]=some (.ok (.val (.lst o2) .u),[some (.int ps.length,.z),some (.tup S,.z),some (.dt T,.u)]):=aT (ρ1:=[some (.int ps.length,.z),some (.tup S,.z),some (.dt T,.u)]) (rs:=[.val (.lst ((frs ps.length (aU ps.length)).map Qd)) .u]) (by (repeat' (first | infer_instance | with_reducible apply au (fo) | eq_refl))) e2 (by rw [Dg];exact fm) rfl
 generalize hN:L3.D.int (ps.length:Int)=N at *
 apply aY (ρ:=[some (N,.z),some (.tup S,.z),none]) rfl rfl
 ·unfold iY
  apply ao (ρ1:=[some (N,.z),some (.tup S,.z),none])
  ·apply c8
   ·apply k7 (b:=false)
    ·apply ib (b:=true)
     (repeat' (first | infer_instance | eq_refl))
    ·rfl
    ·apply ib (b:=true)
     (repeat' (first | with_reducible exact c1 | infer_instance | exact a3 | eq_refl))
   ·rfl
   ·rfl
  apply ao (ρ1:=[some (N,.z),some (.tup S,.z),none])
  ·apply c8
   ·(repeat' (first | infer_instance | with_reducible apply au (th) | exact hlen | eq_refl))
   ·rfl
   ·rfl
  apply ao (ρ1:=[some (N,.z),some (.tup S,.z),some (.dt T,.u)])
  ·(repeat' (first | infer_instance | with_reducible apply au (hb) | eq_refl))
  ·apply cV
   ·(repeat' (first | with_reducible exact c2 | infer_instance | exact a4 | eq_refl))
   ·rfl
 ·rfl
set_option tactic.hygienic true in
theorem BK {ps:List Pt} (g:SheetX ps):eW [(.int ps.length,.z),(.tup ((aU ps.length).map fun t=>.int (tn ps t)),.z)]=some (.ok (.bl true,.z),[(.int ps.length,.z),(.tup ((aU ps.length).map fun t=>.int (tn ps t)),.z)]):=by
 have f1:=tD (k:=(ps.length:Int)) (lo:=1) (hi:=24) (by have:=g.pos;omega) (by have:=g.most;omega)
 have f2:=tH g
 generalize (aU ps.length).map (fun t=>L3.D.int (tn ps t))=S at *
 generalize L3.D.int (ps.length:Int)=N at *
 apply aY (ρ:=[some (N,.z),some (.tup S,.z)]) rfl rfl
 ·unfold k4
  apply ao (ρ1:=[some (N,.z),some (.tup S,.z)])
  ·(repeat' (first | infer_instance | with_reducible apply au (f1) | eq_refl))
  ·apply cV
   ·(repeat' (first | infer_instance | with_reducible apply au (f2) | eq_refl))
   ·rfl
 ·rfl
noncomputable abbrev SgD (ps:List Pt):List L3.D:=(aU ps.length).map fun t=>.int (tn ps t)
theorem sub_T {ps:List Pt} {t:Tri} (ht:t ∈ aU ps.length):aB (.dt (T0 ps)) (Td t)=some (.int (tn ps t),.z):=by
 obtain ⟨i,j,k⟩:=t
 obtain ⟨h1,h2,h3⟩:=gx ht
 exact oB (jd ps i j k h1 h2 h3)
set_option tactic.hygienic true in
theorem jV {ps:List Pt} (g:SheetX ps):bR [(Shd ps,.z)]=some (.ok (.tup (SgD ps),.z),[(Shd ps,.z)]):=by
 have hA:=l5 g
 have hn:ps.length<=25:=by have:=g.most;omega
 have th:=eg ps.length hn
 rw [show (ps.length:Int)=((ps.map Pd).length:Int) by rw [Dg]] at th
 have sm:=fF (n:=ps.length) hn
 obtain ⟨τ',e,a,rfl⟩:=bE (bnd:=aw 0) (c:=ce) (elt:=gp) (fun τ=>∃ a,τ=[a,some (.dt (T0 ps),.u)]) Td (fun _=>true) (fun t=>.int (tn ps t)) (xs:=aU ps.length) (τ:=[none,some (.dt (T0 ps),.u)]) ⟨none,rfl⟩ (by
  rintro t ht τ ⟨a,rfl⟩
  have hs:=sub_T ht
  generalize T0 ps=T at *
  exact ⟨[some (Td t,.z),some (.dt T,.u)],_,rfl,rfl,(fun h=>by cases h),fun _=>⟨.val (.int (tn ps t)) .z,[some (Td t,.z),some (.dt T,.u)],(.int (tn ps t),.z),[some (Td t,.z),some (.dt T,.u)],by unfold gp;(repeat' (first | infer_instance | exact hs | eq_refl)),rfl,rfl,_,rfl⟩⟩)
 rw [DK.mpr (fun _ _=>rfl)] at e
 unfold SgD
 generalize (aU ps.length).map (fun t=>L3.D.int (tn ps t))=out at *
 generalize T0 ps=T at *
 have e2:jA [some (Shd ps,.z),some (.dt T,.u)]=some (.ok (.val (.lst out) .u),[some (Shd ps,.z),some (.dt T,.u)]):=aT (ρ1:=[some (Shd ps,.z),some (.dt T,.u)]) (rs:=[.val (.lst ((aU ps.length).map Td)) .u]) (by (repeat' (first | infer_instance | with_reducible apply au (th) | eq_refl))) e (by rw [Dg];omega) rfl
 apply aY (ρ:=[some (Shd ps,.z),none]) rfl rfl
 ·unfold mx
  apply ao (ρ1:=[some (Shd ps,.z),some (.dt T,.u)])
  ·(repeat' (first | infer_instance | with_reducible apply au (hA) | eq_refl))
  ·apply cV
   ·(repeat' (first | with_reducible exact e2 | infer_instance | eq_refl))
   ·rfl
 ·rfl
set_option tactic.hygienic true in
theorem tG {ps:List Pt} (g:SheetX ps):cy [(.int ps.length,.z),(.int 24,.z),(.tup (SgD ps),.z)]=some (.ok (.non,.z),[(.int ps.length,.z),(.int 24,.z),(.tup (SgD ps),.z)]):=by
 have f1:=tD (k:=(ps.length:Int)) (lo:=1) (hi:=24) (by have:=g.pos;omega) (by have:=g.most;omega)
 have f2:=tH g
 unfold SgD
 generalize (aU ps.length).map (fun t=>L3.D.int (tn ps t))=S at *
 generalize L3.D.int (ps.length:Int)=N at *
 apply AJ (ρ:=[some (N,.z),some (.int 24,.z),some (.tup S,.z)]) rfl rfl
 ·unfold jB
  apply ao (ρ1:=[some (N,.z),some (.int 24,.z),some (.tup S,.z)])
  ·(repeat' (first | infer_instance | with_reducible apply au (f1) | eq_refl))
  ·apply c8
   ·(repeat' (first | infer_instance | with_reducible apply au (f2) | eq_refl))
   ·rfl
   ·rfl
 ·rfl
set_option tactic.hygienic true in
theorem wR {ps:List Pt} (g:SheetX ps):∃ R,d7 [(.int ps.length,.z),(.tup (SgD ps),.z)]=some (.ok (R,.z),[(.int ps.length,.z),(.tup (SgD ps),.z)])/\eO [(Shd ps,.z)]=some (.ok (R,.z),[(Shd ps,.z)])/\(R=.non\/∃ xs:List L3.D,R=.tup xs/\∀ d ∈ xs,∃ i:Int,d=.int i):=by
 obtain ⟨R,e,h⟩:=BI (way:=1) (T:=T0 ps) rfl (jd ps) g.most g.pos
 have hA:=l5 g
 have hn:ps.length<=25:=by have:=g.most;omega
 have hb:=oJ (ps:=ps) hn
 have hc:=tG g
 have hlen:=Cr ps
 refine ⟨R,?_,?_,h⟩
 ·unfold SgD at *
  generalize (aU ps.length).map (fun t=>L3.D.int (tn ps t))=S at *
  generalize T0 ps=T at *
  generalize L3.D.int (ps.length:Int)=N at *
  apply aY (ρ:=[some (N,.z),some (.tup S,.z)]) rfl rfl
  ·unfold iX
   apply ao (ρ1:=[some (N,.z),some (.tup S,.z)])
   ·(repeat' (first | infer_instance | with_reducible apply au (hc) | eq_refl))
   ·apply cV
    ·(repeat' (first | infer_instance | with_reducible apply au (hb) | with_reducible apply au (e) | eq_refl))
    ·rfl
  ·rfl
 ·generalize T0 ps=T at *
  apply aY (ρ:=[some (Shd ps,.z)]) rfl rfl
  ·apply cV
   ·(repeat' (first | infer_instance | with_reducible apply au (hA) | with_reducible apply au (e) | exact hlen | eq_refl))
   ·rfl
  ·rfl
noncomputable abbrev Nd (l:List Nat):List L3.D:=l.map fun (i:Nat)=>L3.D.int (i:Int)
theorem ux:∀ bs:List Bool,km (bs.map L3.D.bl)=some bs
 | []=>rfl
 | b :: bs=>by
  have ih:=ux bs
  simp [km,ih]
theorem uE (bs:List Bool):s9 (.lst (bs.map L3.D.bl))=some (.bl (bs.all id),.z):=by
 simp [s9,ux]
set_option tactic.hygienic true in
theorem uV {x n:Nat} (h:x < n):iu [(.int x,.z),(.int n,.z)]=some (.ok (.bl true,.z),[(.int x,.z),(.int n,.z)]):=by
 have f:=gv (x:Int)
 have l1:leI (.int 0) (.int (x:Int))=some (.bl true,.z):=by simp [fN]
 have l2:ltI (.int (x:Int)) (.int (n:Int))=some (.bl true,.z):=by simp [fN,h]
 apply aY (ρ:=[some (.int x,.z),some (.int n,.z)]) rfl rfl
 ·apply cV
  ·apply jr (b:=true)
   ·(repeat' (first | infer_instance | with_reducible apply au (f) | eq_refl))
   ·rfl
   ·rfl
   ·exact pj i_c (cU rfl) rfl rfl l1 (cU rfl) rfl rfl l2
  ·rfl
 ·rfl
noncomputable def el (L:List Nat) (i:Nat):Nat:=L.getD i 0
theorem mP {L:List Nat} {i:Nat} (h:i < L.length):L[i]?=some (el L i):=by simp [el,List.getD,h]
theorem CL {L:List Nat} {i:Nat} (h:i < L.length):el L i ∈ L:=Di (mP h)
theorem yj {L:List Nat} (s:L.Pairwise (· < ·)) {i j:Nat} (h:i < j) (hj:j < L.length):el L i < el L j:=by
 have:=List.pairwise_iff_getElem.mp s i j (by omega) hj h
 have h1:=mP (L:=L) (i:=i) (by omega)
 have h2:=mP hj
 rw [Dc (by omega)] at h1 h2
 rw [DO h1,DO h2] at this
 exact this
theorem tz {L:List Nat} {i:Nat} (h:i < L.length):aB (.tup (Nd L)) (.int i)=some (.int (el L i),.z):=by
 refine fG (lJ ?_)
 rw [Dl,mP h];rfl
set_option tactic.hygienic true in
theorem l0 {L:List Nat} {n:Nat} (s:L.Pairwise (· < ·)) (lt:∀ x ∈ L,x < n) (hl:L.length<=24):b7 [(.tup (Nd L),.z),(.int n,.z)]=some (.ok (.bl true,.z),[(.tup (Nd L),.z),(.int n,.z)]):=by
 obtain ⟨τ1,e1,a1,rfl⟩:=bE (bnd:=aw 0) (c:=ce) (elt:=bJ) (fun τ=>∃ a,τ=[a,some (.int n,.z)]) (fun x:Nat=>L3.D.int x) (fun _=>true) (fun _=>.bl true) (xs:=L) (τ:=[none,some (.int n,.z)]) ⟨none,rfl⟩ (by
  rintro x hx τ ⟨a,rfl⟩
  have f:=uV (lt x hx)
  exact ⟨[some (.int x,.z),some (.int n,.z)],_,rfl,rfl,(fun h=>by cases h),fun _=>⟨.val (.bl true) .z,[some (.int x,.z),some (.int n,.z)],(.bl true,.z),_,by unfold bJ;(repeat' (first | infer_instance | with_reducible apply au (f) | eq_refl)),rfl,rfl,_,rfl⟩⟩)
 have b1:=fB (ds:=(L.filter fun _=>true).map fun _=>.bl true) (fun d hd=>by obtain ⟨_,_,rfl⟩:=Dk.mp hd;rfl)
 obtain ⟨τ2,e2,a2,rfl⟩:=bE (bnd:=aw 0) (c:=ce) (elt:=bI) (fun τ=>∃ a,τ=[a,some (.tup (Nd L),.z)]) (fun x:Nat=>L3.D.int (0+(x:Int))) (fun _=>true) (fun _=>.bl true) (xs:=List.range (L.length - 1)) (τ:=[none,some (.tup (Nd L),.z)]) ⟨none,rfl⟩ (by
  rintro x hx τ ⟨a,rfl⟩
  have hx:=List.mem_range.mp hx
  have h1:=tz (L:=L) (i:=x) (by omega)
  have h2:=tz (L:=L) (i:=x+1) (by omega)
  have h3:=yj s (show x < x+1 by omega) (by omega)
  have h4:ltI (.int (el L x:Int)) (.int (el L (x+1):Int))=some (.bl true,.z):=by simp [fN,h3]
  rw [Int.zero_add]
  rw [show ((x+1:Nat):Int)=(x:Int)+1 by omega] at h2
  generalize (x:Int)=xx at *
  exact ⟨[some (.int xx,.z),some (.tup (Nd L),.z)],_,rfl,rfl,(fun h=>by cases h),fun _=>⟨.val (.bl true) .z,[some (.int xx,.z),some (.tup (Nd L),.z)],(.bl true,.z),_,by unfold bI;(repeat' (first | infer_instance | exact h1 | exact h2 | exact h4 | eq_refl)),rfl,rfl,_,rfl⟩⟩)
 have b2:=fB (ds:=((List.range (L.length - 1)).filter fun _=>true).map fun _=>.bl true) (fun d hd=>by obtain ⟨_,_,rfl⟩:=Dk.mp hd;rfl)
 have hr:dC [.int (((Nd L).length:Int) - 1)]=some (bc 0 (L.length - 1)):=dL (by simp;omega) (by simp)
 have hlen:(Nd L).length < 16777216:=by rw [Dg];omega
 generalize (L.filter fun _=>true).map (fun _=>L3.D.bl true)=o1 at *
 generalize ((List.range (L.length - 1)).filter fun _=>true).map (fun _=>L3.D.bl true)=o2 at *
 change bV (aw 0) ce bJ (Nd L) _=_ at e1
 change bV (aw 0) ce bI (bc 0 (L.length - 1)) _=_ at e2
 generalize Nd L=X at *
 generalize L3.D.int (n:Int)=N at *
 have c1:dS [some (.tup X,.z),some (N,.z)]=some (.ok (.val (.lst o1) .u),[some (.tup X,.z),some (N,.z)]):=aT (ρ1:=[some (.tup X,.z),some (N,.z)]) (rs:=[.pl 0]) (by (repeat' (first | infer_instance | eq_refl))) e1 hlen rfl
 have c2:dR [some (.tup X,.z),some (N,.z)]=some (.ok (.val (.lst o2) .u),[some (.tup X,.z),some (N,.z)]):=aT (ρ1:=[some (.tup X,.z),some (N,.z)]) (rs:=[]) (by (repeat' (first | with_reducible apply dw (h3:=hr) | infer_instance | eq_refl))) e2 (by rw [bN];omega) rfl
 apply aY (ρ:=[some (.tup X,.z),some (N,.z)]) rfl rfl
 ·unfold fe
  apply ao (ρ1:=[some (.tup X,.z),some (N,.z)])
  ·apply c8 (b:=false)
   ·apply k7 (b:=false)
    ·apply ib (b:=true)
     (repeat' (first | infer_instance | eq_refl))
    ·rfl
    ·apply ib (b:=true)
     (repeat' (first | with_reducible exact c1 | infer_instance | exact b1 | eq_refl))
   ·rfl
   ·rfl
  ·apply cV
   ·(repeat' (first | with_reducible exact c2 | infer_instance | exact b2 | eq_refl))
   ·rfl
 ·rfl
theorem Ay {z b:Nat} {M:List Nat}:slD (.tup (Nd (z :: (M ++ [b])))) (some 1) (some (-1))=some (.tup (Nd M),.z):=by
 have h:iB (Nd (z :: (M ++ [b]))) (some 1) (some (-1))=Nd M:=by
  have hl:(Nd (z :: (M ++ [b]))).length=M.length+2:=by simp
  have e1:HT.sIx (M.length+2) 0 (some 1)=1:=by
   show min (1:Int).toNat (M.length+2)=1
   rw [show (1:Int).toNat=1 from rfl];omega
  have e2:HT.sIx (M.length+2) (M.length+2) (some (-1))=M.length+1:=by
   show ((-1:Int)+((M.length+2:Nat):Int)).toNat=M.length+1
   omega
  unfold iB
  rw [hl,e1,e2]
  simp [Nd,List.take_append]
 show some ((.tup (iB (Nd (z :: (M ++ [b]))) (some 1) (some (-1))),.z):L3.D × Fl)=_
 rw [h]
theorem cut3 {L:List Nat} {a:Nat} (h:a+2 < L.length):slD (.tup (Nd L)) (some (a:Int)) (some ((a:Int)+3))=some (.tup [.int (el L a),.int (el L (a+1)),.int (el L (a+2))],.z):=by
 have hc:iB (Nd L) (some (a:Int)) (some ((a:Int)+3))=[.int (el L a),.int (el L (a+1)),.int (el L (a+2))]:=by
  have hl:(Nd L).length=L.length:=by simp
  have e1:HT.sIx L.length 0 (some (a:Int))=a:=by
   simp only [HT.sIx];split <;> omega
  have e2:HT.sIx L.length L.length (some ((a:Int)+3))=a+3:=by
   simp only [HT.sIx];split <;> omega
  unfold iB
  rw [hl,e1,e2]
  apply List.ext_getElem?
  intro i
  have g:∀ j,j < L.length->(Nd L)[j]?=some (.int (el L j)):=fun j hj=>by rw [Dl,mP hj];rfl
  rw [List.getElem?_take,List.getElem?_drop]
  match i with
  | 0=>rw [if_pos (by omega),g _ (by omega)];rfl
  | 1=>rw [if_pos (by omega),g _ (by omega)];rfl
  | 2=>rw [if_pos (by omega),g _ (by omega)];rfl
  | i+3=>rw [if_neg (by omega)];rfl
 show some ((.tup (iB (Nd L) (some (a:Int)) (some ((a:Int)+3))),.z):L3.D × Fl)=_
 rw [hc]
noncomputable def dn (ps:List Pt) (way:Int) (z:Nat) (M:List Nat) (b:Nat):List Nat:=z :: (M.filter (fun p=>wv ps way z p b) ++ [b])
structure Places (n:Nat) (L:List Nat):Prop where
 inc:L.Pairwise (· < ·)
 lt:∀ x ∈ L,x < n
 len:L.length<=24
set_option tactic.hygienic true in
theorem wJ {ps:List Pt} {way:Int} {z b:Nat} {M:List Nat} (p:Places ps.length (z :: (M ++ [b]))):fP [(.dt (T0 ps),.u),(.tup (Nd (z :: (M ++ [b]))),.z),(.int way,.z)]=some (.ok (.tup (Nd (dn ps way z M b)),.z),[(.dt (T0 ps),.u),(.tup (Nd (z :: (M ++ [b]))),.z),(.int way,.z)]):=by
 have hT:=jd ps
 have pc:=List.pairwise_cons.mp p.inc
 have pa:=List.pairwise_append.mp pc.2
 have hm:=Ay (z:=z) (b:=b) (M:=M)
 have hlen:=p.len
 have hM:M.length<=24:=by simp at hlen;omega
 have s0:aB (.tup (Nd (z :: (M ++ [b])))) (.int 0)=some (.int z,.z):=fG (lJ (i:=0) rfl)
 have s1:aB (.tup (Nd (z :: (M ++ [b])))) (.int (-1))=some (.int b,.z):=by
  refine fG ?_
  have h:(Nd (z :: (M ++ [b]))).length=M.length+2:=by simp
  unfold L2.atI ixN
  rw [h,if_neg (by omega),if_pos (by omega)]
  rw [show ((-1:Int)+((M.length+2:Nat):Int)).toNat=M.length+1 by omega]
  simp [Nd]
 obtain ⟨τ',e,a,rfl⟩:=bE (bnd:=aw 0) (c:=c6) (elt:=gr) (fun τ=>∃ a,τ=[a,some (.int way,.z),some (.dt (T0 ps),.u),some (.int z,.z),some (.int b,.z)]) (fun x:Nat=>L3.D.int x) (fun x=>wv ps way z x b) (fun x=>.int x) (xs:=M) (τ:=[none,some (.int way,.z),some (.dt (T0 ps),.u),some (.int z,.z),some (.int b,.z)]) ⟨none,rfl⟩ (by
  rintro x hx τ ⟨a,rfl⟩
  have h1:z < x:=pc.1 x (C9 _ hx)
  have h2:x < b:=pa.2.2 x hx b C5
  have s3:=oB (hT z x b h1 h2 (p.lt b (by simp)))
  generalize T0 ps=T at *
  have c:c6 [some (.int x,.z),some (.int way,.z),some (.dt T,.u),some (.int z,.z),some (.int b,.z)]=some (.ok (wv ps way z x b),[some (.int x,.z),some (.int way,.z),some (.dt T,.u),some (.int z,.z),some (.int b,.z)]):=by
   unfold c6
   (repeat' (first | infer_instance | exact s3 | exact dX _ _ | eq_refl))
  exact ⟨_,_,rfl,c,fun _=>⟨_,rfl⟩,fun _=>⟨_,_,_,_,cU rfl,rfl,rfl,_,rfl⟩⟩)
 have hf:=List.length_filter_le (fun x=>wv ps way z x b) M
 have ct1:cv (.tup [.int z]) (.tup (Nd (M.filter fun x=>wv ps way z x b)))=some (.tup ([.int z] ++ Nd (M.filter fun x=>wv ps way z x b)),.z):=lI (by simp;omega)
 have ct2:cv (.tup ([.int z] ++ Nd (M.filter fun x=>wv ps way z x b))) (.tup [.int b])=some (.tup (Nd (dn ps way z M b)),.z):=by
  rw [lI (by simp;omega)]
  simp [dn,Nd]
 have hMl:(Nd M).length < 16777216:=by rw [Dg];omega
 change bV (aw 0) c6 gr (Nd M) _=some (.ok (Nd (M.filter fun x=>wv ps way z x b)),_) at e
 generalize Nd (dn ps way z M b)=Y at *
 generalize Nd (M.filter fun x=>wv ps way z x b)=F at *
 generalize Nd M=X at *
 generalize Nd (z :: (M ++ [b]))=L at *
 generalize T0 ps=T at *
 generalize L3.D.int (z:Int)=dz at *
 generalize L3.D.int (b:Int)=db at *
 have c1:gq [some (.dt T,.u),some (.tup L,.z),some (.int way,.z),some (dz,.z),some (db,.z)]=some (.ok (.val (.lst F) .u),[some (.dt T,.u),some (.tup L,.z),some (.int way,.z),some (dz,.z),some (db,.z)]):=aT (ρ1:=[some (.dt T,.u),some (.tup L,.z),some (.int way,.z),some (dz,.z),some (db,.z)]) (rs:=[.val (.tup X) .z]) (by (repeat' (first | infer_instance | exact hm | eq_refl))) e hMl rfl
 apply aY (ρ:=[some (.dt T,.u),some (.tup L,.z),some (.int way,.z),none,none]) rfl rfl
 ·unfold my
  apply ao (ρ1:=[some (.dt T,.u),some (.tup L,.z),some (.int way,.z),some (dz,.z),none])
  ·(repeat' (first | infer_instance | exact s0 | eq_refl))
  apply ao (ρ1:=[some (.dt T,.u),some (.tup L,.z),some (.int way,.z),some (dz,.z),some (db,.z)])
  ·(repeat' (first | infer_instance | exact s1 | eq_refl))
  ·have d1:cL (ab (ac 3) ai) [some (.dt T,.u),some (.tup L,.z),some (.int way,.z),some (dz,.z),some (db,.z)]=some (.ok (.val (.tup [dz]) .z),[some (.dt T,.u),some (.tup L,.z),some (.int way,.z),some (dz,.z),some (db,.z)]):=pi (eD (cU rfl) gF) rfl (Nat.le_of_ble_eq_true rfl)
   have d2:cL (ab (ac 4) ai) [some (.dt T,.u),some (.tup L,.z),some (.int way,.z),some (dz,.z),some (db,.z)]=some (.ok (.val (.tup [db]) .z),[some (.dt T,.u),some (.tup L,.z),some (.int way,.z),some (dz,.z),some (db,.z)]):=pi (eD (cU rfl) gF) rfl (Nat.le_of_ble_eq_true rfl)
   have d3:aD ld (ab gq ai) [some (.dt T,.u),some (.tup L,.z),some (.int way,.z),some (dz,.z),some (db,.z)]=some (.ok (.val (.tup F) .z),[some (.dt T,.u),some (.tup L,.z),some (.int way,.z),some (dz,.z),some (db,.z)]):=hV (eD c1 gF) rfl rfl
   exact cV (gH (gH d1 d3 rfl rfl ct1) d2 rfl rfl ct2) rfl
 ·rfl
noncomputable def eF (ps:List Pt) (way:Int) (R:List Nat):Bool:=((List.range (R.length - 2)).map fun a=>wv ps way (el R a) (el R (a+1)) (el R (a+2))).all id
set_option tactic.hygienic true in
theorem uX {ps:List Pt} {way:Int} {R:List Nat} (p:Places ps.length R) (h2:2<=R.length):eV [(.dt (T0 ps),.u),(.tup (Nd R),.z),(.int way,.z)]=some (.ok (.bl (eF ps way R),.z),[(.dt (T0 ps),.u),(.tup (Nd R),.z),(.int way,.z)]):=by
 have hT:=jd ps
 have hlen:=p.len
 obtain ⟨τ',e,a,rfl⟩:=bE (bnd:=aw 0) (c:=ce) (elt:=cJ) (fun τ=>∃ a,τ=[a,some (.int way,.z),some (.dt (T0 ps),.u),some (.tup (Nd R),.z)]) (fun x:Nat=>L3.D.int (0+(x:Int))) (fun _=>true) (fun a=>.bl (wv ps way (el R a) (el R (a+1)) (el R (a+2)))) (xs:=List.range (R.length - 2)) (τ:=[none,some (.int way,.z),some (.dt (T0 ps),.u),some (.tup (Nd R),.z)]) ⟨none,rfl⟩ (by
  rintro x hx τ ⟨a,rfl⟩
  have hx:=List.mem_range.mp hx
  have c3:=cut3 (L:=R) (a:=x) (by omega)
  have s3:=oB (hT (el R x) (el R (x+1)) (el R (x+2)) (yj p.inc (by omega) (by omega)) (yj p.inc (by omega) (by omega)) (p.lt _ (CL (by omega))))
  rw [Int.zero_add]
  generalize T0 ps=T at *
  generalize Nd R=X at *
  generalize (x:Int)=xx at *
  have ee:cJ [some (.int xx,.z),some (.int way,.z),some (.dt T,.u),some (.tup X,.z)]=some (.ok (.val (.bl (wv ps way (el R x) (el R (x+1)) (el R (x+2)))) .z),[some (.int xx,.z),some (.int way,.z),some (.dt T,.u),some (.tup X,.z)]):=by
   unfold cJ
   (repeat' (first | infer_instance | exact c3 | exact s3 | exact dX _ _ | eq_refl))
  exact ⟨_,_,rfl,rfl,(fun h=>by cases h),fun _=>⟨_,_,_,_,ee,rfl,rfl,_,rfl⟩⟩)
 rw [DK.mpr (fun _ _=>rfl)] at e
 have aq:=uE ((List.range (R.length - 2)).map fun a=>wv ps way (el R a) (el R (a+1)) (el R (a+2)))
 rw [DM] at aq
 change s9 (.lst ((List.range (R.length - 2)).map fun a=>L3.D.bl (wv ps way (el R a) (el R (a+1)) (el R (a+2)))))=some (.bl (eF ps way R),.z) at aq
 have hr:dC [.int (((Nd R).length:Int) - 2)]=some (bc 0 (R.length - 2)):=dL (by simp;omega) (by simp;omega)
 change bV (aw 0) ce cJ (bc 0 (R.length - 2)) _=_ at e
 generalize (List.range (R.length - 2)).map (fun a=>L3.D.bl (wv ps way (el R a) (el R (a+1)) (el R (a+2))))=out at *
 generalize T0 ps=T at *
 generalize Nd R=X at *
 have c1:iU [some (.dt T,.u),some (.tup X,.z),some (.int way,.z)]=some (.ok (.val (.lst out) .u),[some (.dt T,.u),some (.tup X,.z),some (.int way,.z)]):=aT (ρ1:=[some (.dt T,.u),some (.tup X,.z),some (.int way,.z)]) (rs:=[]) (by (repeat' (first | with_reducible apply dw (h3:=hr) | infer_instance | eq_refl))) e (by rw [bN];omega) rfl
 apply aY (ρ:=[some (.dt T,.u),some (.tup X,.z),some (.int way,.z)]) rfl rfl
 ·unfold kZ
  apply cV
  ·(repeat' (first | with_reducible exact c1 | infer_instance | exact aq | eq_refl))
  ·rfl
 ·rfl
theorem p7 {ps:List Pt} {way:Int} {z b:Nat} {M:List Nat} (p:Places ps.length (z :: (M ++ [b]))):Places ps.length (dn ps way z M b)/\2<=(dn ps way z M b).length:=by
 have sub:(dn ps way z M b).Sublist (z :: (M ++ [b])):=List.Sublist.cons_cons z (List.Sublist.append (List.filter_sublist) (List.Sublist.refl _))
 refine ⟨⟨p.inc.sublist sub,fun x hx=>p.lt x (sub.subset hx),DI sub.length_le p.len⟩,by simp [dn]⟩
noncomputable def tK (ps:List Pt) (z:Nat) (M:List Nat) (b:Nat):Bool:=[eF ps 1 (dn ps 1 z M b),eF ps (-1) (dn ps (-1) z M b)].all id
set_option tactic.hygienic true in
theorem tF {ps:List Pt} {z b:Nat} {M:List Nat} (p:Places ps.length (z :: (M ++ [b]))) (hM:M ≠ []):bK [(.dt (T0 ps),.u),(.tup (Nd (z :: (M ++ [b]))),.z),(.int ps.length,.z)]=some (.ok (.bl (tK ps z M b),.z),[(.dt (T0 ps),.u),(.tup (Nd (z :: (M ++ [b]))),.z),(.int ps.length,.z)]):=by
 have rp:=l0 p.inc p.lt p.len
 have hl:¬ ((Nd (z :: (M ++ [b]))).length:Int) < 3:=by
  have:=List.length_pos_iff.mpr hM
  simp;omega
 have one:∀ way:Int,am eV (ab (ac 1) (ab (am fP (ab (ac 1) (ab (ac 2) (ab (ac 0) ai)))) (ab (ac 0) ai))) [some (.int way,.z),some (.dt (T0 ps),.u),some (.tup (Nd (z :: (M ++ [b]))),.z)]=some (.ok (.val (.bl (eF ps way (dn ps way z M b))) .z),[some (.int way,.z),some (.dt (T0 ps),.u),some (.tup (Nd (z :: (M ++ [b]))),.z)]):=fun way=>by
  have s:=wJ (way:=way) p
  obtain ⟨q1,q2⟩:=p7 (way:=way) p
  have r:=uX (way:=way) q1 q2
  generalize Nd (dn ps way z M b)=Y at *
  generalize Nd (z :: (M ++ [b]))=L at *
  generalize T0 ps=T at *
  (repeat' (first | infer_instance | with_reducible apply au (s) | with_reducible apply au (r) | eq_refl))
 obtain ⟨τ',e,a,rfl⟩:=bE (bnd:=aw 0) (c:=ce) (elt:=eY) (fun τ=>∃ a,τ=[a,some (.dt (T0 ps),.u),some (.tup (Nd (z :: (M ++ [b]))),.z)]) (fun w:Int=>L3.D.int w) (fun _=>true) (fun w=>.bl (eF ps w (dn ps w z M b))) (xs:=[1,-1]) (τ:=[none,some (.dt (T0 ps),.u),some (.tup (Nd (z :: (M ++ [b]))),.z)]) ⟨none,rfl⟩ (by
  rintro x hx τ ⟨a,rfl⟩
  exact ⟨_,_,rfl,rfl,(fun h=>by cases h),fun _=>⟨_,_,_,_,one x,rfl,rfl,_,rfl⟩⟩)
 have aq:=uE [eF ps 1 (dn ps 1 z M b),eF ps (-1) (dn ps (-1) z M b)]
 change bV (aw 0) ce eY [.int 1,.int (-1)] _=some (.ok ([eF ps 1 (dn ps 1 z M b),eF ps (-1) (dn ps (-1) z M b)].map L3.D.bl),_) at e
 change s9 _=some (.bl (tK ps z M b),.z) at aq
 generalize [eF ps 1 (dn ps 1 z M b),eF ps (-1) (dn ps (-1) z M b)].map L3.D.bl=out at *
 generalize Nd (z :: (M ++ [b]))=L at *
 generalize T0 ps=T at *
 generalize L3.D.int (ps.length:Int)=N at *
 have c1:iy [some (.dt T,.u),some (.tup L,.z),some (N,.z)]=some (.ok (.val (.lst out) .u),[some (.dt T,.u),some (.tup L,.z),some (N,.z)]):=aT (ρ1:=[some (.dt T,.u),some (.tup L,.z),some (N,.z)]) (rs:=[.val (.tup [.int 1,.int (-1)]) .z]) (by (repeat' (first | infer_instance | eq_refl))) e (by decide) rfl
 apply aY (ρ:=[some (.dt T,.u),some (.tup L,.z),some (N,.z)]) rfl rfl
 ·unfold gZ
  apply ao (ρ1:=[some (.dt T,.u),some (.tup L,.z),some (N,.z)])
  ·apply c8 (b:=false)
   ·apply k7 (b:=false)
    ·apply ib (b:=true)
     (repeat' (first | infer_instance | with_reducible apply au (rp) | eq_refl))
    ·rfl
    ·rw [<- Ds hl]
     (repeat' (first | infer_instance | eq_refl))
   ·rfl
   ·rfl
  ·apply cV
   ·(repeat' (first | with_reducible exact c1 | infer_instance | exact aq | eq_refl))
   ·rfl
 ·rfl
set_option tactic.hygienic true in
theorem wO {ps:List Pt} {L:List Nat} (p:Places ps.length L) (h:L.length < 3):bK [(.dt (T0 ps),.u),(.tup (Nd L),.z),(.int ps.length,.z)]=some (.ok (.bl false,.z),[(.dt (T0 ps),.u),(.tup (Nd L),.z),(.int ps.length,.z)]):=by
 have rp:=l0 p.inc p.lt p.len
 have hl:((Nd L).length:Int) < 3:=by simp;omega
 generalize Nd L=X at *
 generalize T0 ps=T at *
 generalize L3.D.int (ps.length:Int)=N at *
 apply aY (ρ:=[some (.dt T,.u),some (.tup X,.z),some (N,.z)]) rfl rfl
 ·unfold gZ
  apply oF
  apply mL (b:=true)
  ·apply k7 (b:=false)
   ·apply ib (b:=true)
    (repeat' (first | infer_instance | with_reducible apply au (rp) | eq_refl))
   ·rfl
   ·rw [<- Dr hl]
    (repeat' (first | infer_instance | eq_refl))
  ·rfl
  ·(repeat' (first | infer_instance | eq_refl))
 ·rfl
set_option tactic.hygienic true in
theorem nM {ps:List Pt} (g:SheetX ps) {L:List Nat} (p:Places ps.length L) {B:Bool} (hb:bK [(.dt (T0 ps),.u),(.tup (Nd L),.z),(.int ps.length,.z)]=some (.ok (.bl B,.z),[(.dt (T0 ps),.u),(.tup (Nd L),.z),(.int ps.length,.z)])):dB [(.tup (Nd L),.z),(Shd ps,.z)]=some (.ok (.bl B,.z),[(.tup (Nd L),.z),(Shd ps,.z)])/\cr [(.tup (Nd L),.z),(.int ps.length,.z),(.tup (SgD ps),.z)]=some (.ok (.bl B,.z),[(.tup (Nd L),.z),(.int ps.length,.z),(.tup (SgD ps),.z)]):=by
 have hA:=l5 g
 have hlen:=Cr ps
 have hn:ps.length<=25:=by have:=g.most;omega
 have ht:=oJ (ps:=ps) hn
 have hc:=tG g
 constructor
 ·generalize T0 ps=T at *
  generalize Nd L=X at *
  apply aY (ρ:=[some (.tup X,.z),some (Shd ps,.z)]) rfl rfl
  ·apply cV
   ·(repeat' (first | infer_instance | with_reducible apply au (hA) | with_reducible apply au (hb) | exact hlen | eq_refl))
   ·rfl
  ·rfl
 ·unfold SgD at *
  generalize (aU ps.length).map (fun t=>L3.D.int (tn ps t))=S at *
  generalize T0 ps=T at *
  generalize Nd L=X at *
  generalize L3.D.int (ps.length:Int)=N at *
  apply aY (ρ:=[some (.tup X,.z),some (N,.z),some (.tup S,.z)]) rfl rfl
  ·unfold fI
   apply ao (ρ1:=[some (.tup X,.z),some (N,.z),some (.tup S,.z)])
   ·(repeat' (first | infer_instance | with_reducible apply au (hc) | eq_refl))
   ·apply cV
    ·(repeat' (first | infer_instance | with_reducible apply au (ht) | with_reducible apply au (hb) | eq_refl))
    ·rfl
  ·rfl
theorem yF {ps:List Pt} {L:List Nat} (p:Places ps.length L):∃ B,bK [(.dt (T0 ps),.u),(.tup (Nd L),.z),(.int ps.length,.z)]=some (.ok (.bl B,.z),[(.dt (T0 ps),.u),(.tup (Nd L),.z),(.int ps.length,.z)]):=by
 by_cases h:L.length < 3
 ·exact ⟨false,wO p h⟩
 ·match L,h,p with
  | z :: R,h,p =>
   have hR:R ≠ []:=fun e=>by subst e;simp at h
   have e:R=R.dropLast ++ [R.getLast hR]:=(List.dropLast_concat_getLast hR).symm
   generalize R.dropLast=M at *
   generalize R.getLast hR=b at *
   subst e
   exact ⟨_,tF p (fun e=>by subst e;simp at h)⟩
theorem iM {ps:List Pt} (f:Pt->Pt) {i:Nat} (h:i < ps.length):bB (ps.map f) i=f (bB ps i):=by
 have h1:=aL (ps:=ps.map f) (i:=i) (by simpa using h)
 rw [Dl,aL h] at h1
 exact (DO h1).symm
noncomputable def ngP (p:Pt):Pt:=(p.1,-p.2)
noncomputable def shP (by_:Int) (p:Pt):Pt:=(p.1,p.2+by_ * p.1)
noncomputable def scP (p:Pt):Pt:=(p.1 * 3,p.2 * 7)
theorem uC (p q r:Pt):aM (ngP p) (ngP q) (ngP r) = - aM p q r:=by
 simp only [aM,ngP];grind
theorem uz (b:Int) (p q r:Pt):aM (shP b p) (shP b q) (shP b r)=aM p q r:=by
 simp only [aM,shP];grind
theorem uA (p q r:Pt):aM (scP p) (scP q) (scP r)=21 * aM p q r:=by
 simp only [aM,scP];grind
theorem kr {ps:List Pt} (g:SheetX ps) {f:Pt->Pt} (hr:∀ i j:Nat,i < j->j < ps.length->0 < (f (bB ps j)).1 - (f (bB ps i)).1/\(f (bB ps j)).1 - (f (bB ps i)).1 < 18446744073709551616) (hb:∀ p q r:Pt,aM p q r ≠ 0->aM (f p) (f q) (f r) ≠ 0):SheetX (ps.map f) where
 pos:=by simpa using g.pos
 most:=by simpa using g.most
 rise:=fun i j hij hj=>by
  rw [Dg] at hj
  rw [iM f hj,iM f (show i < ps.length by omega)]
  exact hr i j hij hj
 nol:=fun i j k hij hjk hk=>by
  rw [Dg] at hk
  rw [iM f hk,iM f (show i < ps.length by omega),iM f (show j < ps.length by omega)]
  exact hb _ _ _ (g.nol i j k hij hjk hk)
theorem oD {ps:List Pt} {f:Pt->Pt} {h:Int->Int} (hb:∀ i j k,i < j->j < k->k < ps.length->fE (f (bB ps i)) (f (bB ps j)) (f (bB ps k))=h (trn ps i j k)):SgD (ps.map f)=(aU ps.length).map fun t=>L3.D.int (h (tn ps t)):=by
 unfold SgD
 rw [Dg]
 refine DN fun t ht=>?_
 obtain ⟨h1,h2,h3⟩:=gx ht
 show L3.D.int (fE _ _ _)=_
 rw [iM f (by omega),iM f (by omega),iM f h3,hb _ _ _ h1 h2 h3]
 rfl
theorem xz {ps:List Pt} (g:SheetX ps):SheetX (ps.map ngP):=kr g (fun i j h1 h2=>g.rise i j h1 h2) fun p q r h=>by rw [uC];omega
theorem wC {ps:List Pt} (g:SheetX ps) (b:Int):SheetX (ps.map (shP b)):=kr g (fun i j h1 h2=>g.rise i j h1 h2) fun p q r h=>by rw [uz];exact h
theorem wG {ps:List Pt} (g:SheetX ps) (hx:∀ q ∈ ps,-(2 ^ 50) < q.1/\q.1 < 2 ^ 50):SheetX (ps.map scP):=kr g (fun i j h1 h2=>by
  have a:=g.rise i j h1 h2
  have b:=hx _ (Di (aL (ps:=ps) (i:=i) (by omega)))
  have c:=hx _ (Di (aL h2))
  show 0 < (bB ps j).1 * 3 - (bB ps i).1 * 3/\(bB ps j).1 * 3 - (bB ps i).1 * 3 < 18446744073709551616
  omega) fun p q r h=>by rw [uA];omega
theorem xy {ps:List Pt} (g:SheetX ps):SgD (ps.map ngP)=(aU ps.length).map fun t=>L3.D.int (0 - tn ps t):=oD (h:=fun x=>0 - x) fun i j k h1 h2 h3=>by
 have:=g.nol i j k h1 h2 h3
 unfold trn fE
 rw [uC]
 split <;> split <;> omega
theorem wB {ps:List Pt} (b:Int):SgD (ps.map (shP b))=SgD ps:=oD (h:=fun x=>x) fun i j k h1 h2 h3=>by
 unfold trn fE
 rw [uz]
theorem wF {ps:List Pt}:SgD (ps.map scP)=SgD ps:=oD (h:=fun x=>x) fun i j k h1 h2 h3=>by
 unfold trn fE
 rw [uA]
 split <;> split <;> omega
set_option tactic.hygienic true in
theorem wL {ps:List Pt} (g:SheetX ps):c9 [(Shd ps,.z)]=some (.ok (Shd (ps.map ngP),.z),[(Shd ps,.z)]):=by
 have ck:=jF g
 have gm:=g.most
 obtain ⟨τ',e,a,rfl⟩:=bE (bnd:=aw 0) (c:=ce) (elt:=eA) (fun τ=>∃ a,τ=[a]) Pd (fun _=>true) (fun p=>Pd (ngP p)) (xs:=ps) (τ:=[none]) ⟨none,rfl⟩ (by
  rintro p hp τ ⟨a,rfl⟩
  exact ⟨[some (Pd p,.z)],_,rfl,rfl,(fun h=>by cases h),fun _=>⟨.val (Pd (ngP p)) .z,[some (Pd p,.z)],(Pd (ngP p),.z),_,by unfold eA;(repeat' (first | infer_instance | eq_refl)),rfl,rfl,_,rfl⟩⟩)
 rw [DK.mpr (fun _ _=>rfl)] at e
 rw [show (ps.map fun p=>Pd (ngP p))=(ps.map ngP).map Pd by simp] at e
 have c1:gA [some (Shd ps,.z)]=some (.ok (.val (.lst ((ps.map ngP).map Pd)) .u),[some (Shd ps,.z)]):=aT (ρ1:=[some (Shd ps,.z)]) (rs:=[.pl 0]) (by (repeat' (first | infer_instance | eq_refl))) e (by rw [Dg];omega) rfl
 apply aY (ρ:=[some (Shd ps,.z)]) rfl rfl
 ·unfold jz
  apply ao (ρ1:=[some (Shd ps,.z)])
  ·(repeat' (first | infer_instance | with_reducible apply au (ck) | eq_refl))
  ·apply cV
   ·(repeat' (first | with_reducible exact c1 | infer_instance | eq_refl))
   ·rfl
 ·rfl
set_option tactic.hygienic true in
theorem uS {ps:List Pt} (g:SheetX ps) {b:Int} (hb:-18446744073709551616 < b/\b < 18446744073709551616):gK [(Shd ps,.z),(.int b,.z)]=some (.ok (Shd (ps.map (shP b)),.z),[(Shd ps,.z),(.int b,.z)]):=by
 have ck:=jF g
 have gm:=g.most
 have w:=gv b
 have cw:eP [(.int b,.z)]=some (.ok (.non,.z),[(.int b,.z)]):=by
  apply AJ (ρ:=[some (.int b,.z)]) rfl rfl
  ·apply c8
   ·(repeat' (first | infer_instance | with_reducible apply au (w) | eq_refl))
   ·rfl
   ·rfl
  ·rfl
 obtain ⟨τ',e,a,rfl⟩:=bE (bnd:=aw 0) (c:=ce) (elt:=gW) (fun τ=>∃ a,τ=[a,some (.int b,.z)]) Pd (fun _=>true) (fun p=>Pd (shP b p)) (xs:=ps) (τ:=[none,some (.int b,.z)]) ⟨none,rfl⟩ (by
  rintro p hp τ ⟨a,rfl⟩
  exact ⟨[some (Pd p,.z),some (.int b,.z)],_,rfl,rfl,(fun h=>by cases h),fun _=>⟨.val (Pd (shP b p)) .z,[some (Pd p,.z),some (.int b,.z)],(Pd (shP b p),.z),_,by unfold gW;(repeat' (first | infer_instance | exact iQ hb | eq_refl)),rfl,rfl,_,rfl⟩⟩)
 rw [DK.mpr (fun _ _=>rfl)] at e
 rw [show (ps.map fun p=>Pd (shP b p))=(ps.map (shP b)).map Pd by simp] at e
 have c1:j8 [some (Shd ps,.z),some (.int b,.z)]=some (.ok (.val (.lst ((ps.map (shP b)).map Pd)) .u),[some (Shd ps,.z),some (.int b,.z)]):=aT (ρ1:=[some (Shd ps,.z),some (.int b,.z)]) (rs:=[.pl 0]) (by (repeat' (first | infer_instance | eq_refl))) e (by rw [Dg];omega) rfl
 apply aY (ρ:=[some (Shd ps,.z),some (.int b,.z)]) rfl rfl
 ·unfold nY
  apply ao (ρ1:=[some (Shd ps,.z),some (.int b,.z)])
  ·(repeat' (first | infer_instance | with_reducible apply au (ck) | eq_refl))
  apply ao (ρ1:=[some (Shd ps,.z),some (.int b,.z)])
  ·(repeat' (first | infer_instance | with_reducible apply au (cw) | eq_refl))
  ·apply cV
   ·(repeat' (first | with_reducible exact c1 | infer_instance | eq_refl))
   ·rfl
 ·rfl
theorem j3 {ps:List Pt} {i:Nat} (h:i < 4):bB (ps.take 4) i=bB ps i:=by
 simp [bB,List.getD,List.getElem?_take,h]
theorem sM {ps:List Pt} (g:SheetX ps) (h4:4<=ps.length):SheetX (ps.take 4)/\(ps.take 4).length=4:=by
 have hl:(ps.take 4).length=4:=by simp;omega
 refine ⟨⟨by omega,by omega,fun i j hij hj=>?_,fun i j k hij hjk hk=>?_⟩,hl⟩
 ·rw [j3 (by omega),j3 (by omega)]
  exact g.rise i j hij (by omega)
 ·rw [j3 (by omega),j3 (by omega),j3 (by omega)]
  exact g.nol i j k hij hjk (by omega)
theorem cut4 (ps:List Pt):slD (Shd ps) none (some 4)=some (Shd (ps.take 4),.z):=by
 by_cases h:4<=ps.length
 ·have hc:=Az (xs:=ps.map Pd) (m:=4) (by simpa using h)
  show some ((.tup (iB (ps.map Pd) none (some 4)),.z):L3.D × Fl)=_
  rw [show (4:Int)=((4:Nat):Int) from rfl,hc,<- List.map_take]
 ·have e1:HT.sIx (ps.map Pd).length 0 none=0:=rfl
  have e2:HT.sIx (ps.map Pd).length (ps.map Pd).length (some 4)=ps.length:=by
   simp only [HT.sIx,Dg];split <;> omega
  show some ((.tup (iB (ps.map Pd) none (some 4)),.z):L3.D × Fl)=_
  unfold iB
  rw [e1,e2,DJ (by omega:ps.length<=4),DJ (by simp)]
  rfl
theorem sg4 {ps:List Pt} (h:ps.length=4):SgD ps=[.int (trn ps 0 1 2),.int (trn ps 0 1 3),.int (trn ps 0 2 3),.int (trn ps 1 2 3)]:=by
 unfold SgD
 rw [h];rfl
theorem ring4 {ps:List Pt} (g:SheetX ps) (h:ps.length=4):tK ps 0 [1,2] 3=(decide (trn ps 0 1 2=trn ps 0 1 3) && decide (trn ps 0 2 3=trn ps 1 2 3)):=by
 have R:=ku g
 have x1:(bB ps 0).1 < (bB ps 1).1:=R 0 1 _ _ (by omega) (aL (by omega)) (aL (by omega))
 have x2:(bB ps 1).1 < (bB ps 2).1:=R 1 2 _ _ (by omega) (aL (by omega)) (aL (by omega))
 have x3:(bB ps 2).1 < (bB ps 3).1:=R 2 3 _ _ (by omega) (aL (by omega)) (aL (by omega))
 have hc:chg (trn ps 0 1 2) (trn ps 0 1 3) (trn ps 0 2 3) (trn ps 1 2 3)<=1:=yt x1 x2 x3
 have sg:∀ i j k,trn ps i j k=1\/trn ps i j k = -1:=fun i j k=>tu ps (i,j,k)
 unfold tK eF dn
 simp only [wv]
 rcases sg 0 1 2 with a | a <;> rcases sg 0 1 3 with b | b <;> rcases sg 0 2 3 with c | c <;> rcases sg 1 2 3 with d | d <;> rw [a,b,c,d] at hc <;> simp only [a,b,c,d] <;> first
  | exact absurd hc (by decide)
  | (simp [el,List.filter,a,b,c,d,List.range,List.range.loop])
theorem xC {d:L3.D} {p:PyData} (hS:eqS d d=none) (h:pyD d=some p) (hc:p.canLay0=true) (hd:p.depth<=30):neX d d=some (.bl false,.z):=by
 have h1:eqA d d=some true:=by
  unfold eqA
  rw [hS]
  exact yi h hc hd
 show (eqA d d).map _=_
 rw [h1];rfl
theorem tZ {l:List L3.D} (hl:∀ d ∈ l,∃ i:Int,d=.int i):neX (.tup l) (.tup l)=some (.bl false,.z):=by
 have h:∀ ts:List L3.D,(∀ d ∈ ts,∃ i:Int,d=.int i)->∃ qs,m9 ts=some qs/\PyData.canLayAll0 qs=true/\PyData.depthAll qs<=20:=by
  intro ts
  induction ts with
  | nil=>exact fun _=>⟨[],rfl,rfl,by decide⟩
  | cons t ts ih =>
   intro ht
   obtain ⟨qs,e1,e2,e3⟩:=ih fun d hd=>ht d (C6 _ hd)
   obtain ⟨i,rfl⟩:=ht t C5
   refine ⟨.int i :: qs,?_,?_,?_⟩
   ·unfold m9;rw [e1];rfl
   ·simp [PyData.canLayAll0,PyData.canLay0,e2]
   ·simp [PyData.depthAll,PyData.depth];omega
 obtain ⟨qs,e1,e2,e3⟩:=h l hl
 refine xC (p:=.tuple qs) rfl ?_ ?_ ?_
 ·unfold pyD;rw [e1];rfl
 ·simp [PyData.canLay0,e2]
 ·simp [PyData.depth];omega
theorem A1 {α:Type} (f:α->Int) (l:List α):neX (.tup (l.map fun x=>L3.D.int (f x))) (.tup (l.map fun x=>L3.D.int (f x)))=some (.bl false,.z):=tZ fun d hd=>by
 obtain ⟨x,_,rfl⟩:=Dk.mp hd
 exact ⟨_,rfl⟩
theorem ne_R {R:L3.D} (h:R=.non\/∃ xs:List L3.D,R=.tup xs/\∀ d ∈ xs,∃ i:Int,d=.int i):neX R R=some (.bl false,.z):=by
 rcases h with rfl | ⟨xs,rfl,h⟩
 ·rfl
 ·exact tZ h
theorem xB (b:Bool):neX (.bl b) (.bl b)=some (.bl false,.z):=by cases b <;> rfl
noncomputable abbrev stW (S kk:L3.D) (n:Int) (ps:List Pt) (v6 v7 v8 v9 v10:Option (L3.D × Fl)):Sto:=[some (S,.z),some (kk,.z),some (.lst [.int n],.u),some (Shd ps,.z),some (.int ps.length,.z),some (.tup (SgD ps),.z),v6,v7,v8,v9,v10]
set_option tactic.hygienic true in
theorem xQ {S kk:L3.D} {n:Int} {ps:List Pt} (g:SheetX ps) {v6 v7 v8 v9 v10:Option (L3.D × Fl)}:∃ (n':Int) (L:List Nat),mE (stW S kk n ps v6 v7 v8 v9 v10)=some (.ok (.val (.lst (Nd L)) .u),stW S kk n' ps v6 v7 v8 v9 v10)/\Places ps.length L:=by
 have gm:=g.most
 have t:=jU
 have main:∀ (xs:List Nat) (n:Int) (a:Option (L3.D × Fl)),∃ (n':Int) (L:List Nat) (a':Option (L3.D × Fl)),bV (aw 0) iV j9 (xs.map fun x:Nat=>L3.D.int (0+(x:Int))) [a,some (.lst [.int n],.u)]=some (.ok (Nd L),[a',some (.lst [.int n'],.u)])/\L.Sublist xs:=by
  intro xs
  induction xs with
  | nil=>exact fun n a=>⟨n,[],a,rfl,List.Sublist.refl _⟩
  | cons x xs ih =>
   intro n a
   rw [Dq,Int.zero_add]
   obtain ⟨n',L,a',e,hs⟩:=ih (n / 2) (some (.int x,.z))
   have c:iV [some (.int x,.z),some (.lst [.int n],.u)]=some (.ok (decide (n % 2=1)),[some (.int x,.z),some (.lst [.int (n / 2)],.u)]):=by
    unfold iV
    generalize (x:Int)=xx
    (repeat' (first | infer_instance | with_reducible apply au (t _ _ (by decide)) | eq_refl))
   have n0:aw 0 (L3.D.int (x:Int)) [a,some (.lst [.int n],.u)]=some [some (.int x,.z),some (.lst [.int n],.u)]:=rfl
   have el:j9 [some (.int x,.z),some (.lst [.int (n / 2)],.u)]=some (.ok (.pl 0),[some (.int x,.z),some (.lst [.int (n / 2)],.u)]):=rfl
   have tk:fU (.pl 0) [some (.int x,.z),some (L3.D.lst [.int (n / 2)],.u)]=some (.ok (.int x,.z),[some (.int x,.z),some (.lst [.int (n / 2)],.u)]):=rfl
   by_cases h:n % 2=1
   ·rw [Dr h] at c
    refine ⟨n',x :: L,a',?_,hs.cons_cons x⟩
    unfold bV
    simp only [n0,af,c,el,tk,e,if_true,bF]
    rfl
   ·rw [Ds h] at c
    refine ⟨n',L,a',?_,hs.cons x⟩
    unfold bV
    simp only [n0,af,c,e,DC,if_false]
 obtain ⟨n',L,a',e,hs⟩:=main (List.range ps.length) n none
 have hr:dC [.int (ps.length:Int)]=some (bc 0 ps.length):=dL (by omega) (by omega)
 refine ⟨n',L,?_,⟨List.Pairwise.sublist hs List.pairwise_lt_range,fun x hx=>List.mem_range.mp (hs.subset hx),by have:=hs.length_le;rw [List.length_range] at this;omega⟩⟩
 change bV (aw 0) iV j9 (bc 0 ps.length) _=_ at e
 unfold mE
 exact aT (rs:=[]) (ρ1:=stW S kk n ps v6 v7 v8 v9 v10) (ρ2:=stW S kk n' ps v6 v7 v8 v9 v10) (by unfold stW;(repeat' (first | with_reducible apply dw (h3:=hr) | infer_instance | eq_refl))) e (by rw [bN];omega) rfl
set_option tactic.hygienic true in
theorem An {S kk:L3.D} {n:Int} {ps:List Pt} (g:SheetX ps) {v6 v7 v8 v9 v10:Option (L3.D × Fl)}:∃ (n':Int) (w8:Option (L3.D × Fl)),kc (stW S kk n ps v6 v7 v8 v9 v10)=some (.ok .nx,stW S kk n' ps v6 v7 w8 v9 v10):=by
 obtain ⟨n',L,c,p⟩:=xQ (S:=S) (kk:=kk) (n:=n) g (v6:=v6) (v7:=v7) (v8:=v8) (v9:=v9) (v10:=v10)
 obtain ⟨B,hb⟩:=yF p
 obtain ⟨f1,f2⟩:=nM g p hb
 have ne:=xB B
 refine ⟨n',some (.tup (Nd L),.z),?_⟩
 unfold kc
 unfold stW at *
 generalize SgD ps=W at *
 generalize Nd L=X at *
 generalize L3.D.int (ps.length:Int)=N at *
 apply ao (ρ1:=[some (S,.z),some (kk,.z),some (.lst [.int n'],.u),some (Shd ps,.z),some (N,.z),some (.tup W,.z),v6,v7,some (.tup X,.z),v9,v10])
 ·(repeat' (first | with_reducible exact c | infer_instance | eq_refl))
 ·apply c8
  ·(repeat' (first | infer_instance | with_reducible apply au (f1) | with_reducible apply au (f2) | exact ne | eq_refl))
  ·rfl
  ·rfl
set_option tactic.hygienic true in
theorem Am {S kk:L3.D} {n:Int} {ps:List Pt} (g:SheetX ps) {v6 v7 v8 v9 v10:Option (L3.D × Fl)}:mD (stW S kk n ps v6 v7 v8 v9 v10)=some (.ok (.val (.lst ((aU ps.length).map fun t=>L3.D.int (0 - tn ps t))) .u),stW S kk n ps v6 v7 v8 v9 v10):=by
 have sm:=fF (n:=ps.length) (by have:=g.most;omega)
 obtain ⟨τ',e,a,rfl⟩:=bE (bnd:=aw 0) (c:=ce) (elt:=mG) (fun τ=>∃ a,τ=[a]) (fun t=>L3.D.int (tn ps t)) (fun _=>true) (fun t=>.int (0 - tn ps t)) (xs:=aU ps.length) (τ:=[none]) ⟨none,rfl⟩ (by
  rintro t ht τ ⟨a,rfl⟩
  exact ⟨[some (.int (tn ps t),.z)],_,rfl,rfl,(fun h=>by cases h),fun _=>⟨.val (.int (0 - tn ps t)) .z,[some (.int (tn ps t),.z)],(.int (0 - tn ps t),.z),_,by unfold mG;(repeat' (first | infer_instance | eq_refl)),rfl,rfl,_,rfl⟩⟩)
 rw [DK.mpr (fun _ _=>rfl)] at e
 have hl:(SgD ps).length < 16777216:=by unfold SgD;rw [Dg];omega
 unfold mD stW
 exact aT (rs:=[.pl 5]) (ρ1:=stW S kk n ps v6 v7 v8 v9 v10) (ρ2:=stW S kk n ps v6 v7 v8 v9 v10) (uc (cU rfl) rfl rfl) e hl rfl
set_option tactic.hygienic true in
theorem Ap {S kk:L3.D} {n:Int} {ps:List Pt} (g:SheetX ps) {v6 v7 v8 v9 v10:Option (L3.D × Fl)}:mB (stW S kk n ps v6 v7 v8 v9 v10)=some (.ok (.val (.lst ((ps.map scP).map Pd)) .u),stW S kk n ps v6 v7 v8 v9 v10):=by
 have gm:=g.most
 obtain ⟨τ',e,a,b,rfl⟩:=bE (bnd:=sW 2 (iA (aw 0) (iA (aw 1) sX))) (c:=ce) (elt:=mF) (fun τ=>∃ a b,τ=[a,b]) Pd (fun _=>true) (fun p=>Pd (scP p)) (xs:=ps) (τ:=[none,none]) ⟨none,none,rfl⟩ (by
  rintro p hp τ ⟨a,b,rfl⟩
  exact ⟨[some (.int p.1,.z),some (.int p.2,.z)],_,rfl,rfl,(fun h=>by cases h),fun _=>⟨.val (Pd (scP p)) .z,[some (.int p.1,.z),some (.int p.2,.z)],(Pd (scP p),.z),_,by unfold mF;(repeat' (first | infer_instance | exact qw (by decide) | eq_refl)),rfl,rfl,_,_,rfl⟩⟩)
 rw [DK.mpr (fun _ _=>rfl)] at e
 rw [show (ps.map fun p=>Pd (scP p))=(ps.map scP).map Pd by simp] at e
 unfold mB stW
 exact aT (rs:=[.pl 3]) (ρ1:=stW S kk n ps v6 v7 v8 v9 v10) (ρ2:=stW S kk n ps v6 v7 v8 v9 v10) (by unfold stW;generalize SgD ps=W;(repeat' (first | infer_instance | eq_refl))) e (by rw [Dg];omega) rfl
set_option tactic.hygienic true in
theorem xR {S kk:L3.D} {n:Int} {ps:List Pt} (g:SheetX ps) {v6 v7 v8 v9 v10:Option (L3.D × Fl)}:∃ w9 w10,(sIf (cB (ah gtI (ac 4) (mC (.int 3)))) (aK (bd 9 (mSl slD (ac 3) tW (j5 (mC (.int 4))))) (aK (bd 10 (am bR (ab (ac 9) ai))) (sIf (cB (ah neX (am dB (ab (cL (ab (mC (.int 0)) (ab (mC (.int 1)) (ab (mC (.int 2)) (ab (mC (.int 3)) ai))))) (ab (ac 9) ai))) (i5 (ah eqX (ah aB (ac 10) (mC (.int 0))) (ah aB (ac 10) (mC (.int 1)))) (ah eqX (ah aB (ac 10) (mC (.int 2))) (ah aB (ac 10) (mC (.int 3))))))) (ba 1 (mC (.bl false))) d9))) d9) (stW S kk n ps v6 v7 v8 v9 v10)=some (.ok .nx,stW S kk n ps v6 v7 v8 w9 w10):=by
 by_cases h:(ps.length:Int) > 3
 ·obtain ⟨g4,l4⟩:=sM g (by omega)
  have s4:=jV g4
  have p4:Places (ps.take 4).length (0 :: ([1,2] ++ [3])):=⟨by decide,by rw [l4];decide,by decide⟩
  have rb:=tF p4 (by decide)
  obtain ⟨f1,_⟩:=nM g4 p4 rb
  rw [ring4 g4 l4] at f1
  have hc:=cut4 ps
  rw [sg4 l4] at s4
  generalize trn (ps.take 4) 0 1 2=a at *
  generalize trn (ps.take 4) 0 1 3=b at *
  generalize trn (ps.take 4) 0 2 3=c at *
  generalize trn (ps.take 4) 1 2 3=d at *
  change dB [(.tup [.int 0,.int 1,.int 2,.int 3],.z),(Shd (ps.take 4),.z)]=some (.ok (.bl (decide (a=b) && decide (c=d)),.z),[(.tup [.int 0,.int 1,.int 2,.int 3],.z),(Shd (ps.take 4),.z)]) at f1
  refine ⟨some (Shd (ps.take 4),.z),some (.tup [.int a,.int b,.int c,.int d],.z),?_⟩
  unfold stW
  generalize SgD ps=W
  generalize Shd (ps.take 4)=F at *
  generalize Shd ps=D0 at *
  generalize (ps.length:Int)=N at *
  apply mL
  ·(repeat' (first | infer_instance | eq_refl))
  ·exact Dr h
  apply ao (ρ1:=[some (S,.z),some (kk,.z),some (.lst [.int n],.u),some (D0,.z),some (.int N,.z),some (.tup W,.z),v6,v7,v8,some (F,.z),v10])
  ·(repeat' (first | infer_instance | exact hc | eq_refl))
  apply ao (ρ1:=[some (S,.z),some (kk,.z),some (.lst [.int n],.u),some (D0,.z),some (.int N,.z),some (.tup W,.z),v6,v7,v8,some (F,.z),some (.tup [.int a,.int b,.int c,.int d],.z)])
  ·(repeat' (first | infer_instance | with_reducible apply au (s4) | eq_refl))
  have l1:am dB (ab (cL (ab (mC (.int 0)) (ab (mC (.int 1)) (ab (mC (.int 2)) (ab (mC (.int 3)) ai))))) (ab (ac 9) ai)) [some (S,.z),some (kk,.z),some (.lst [.int n],.u),some (D0,.z),some (.int N,.z),some (.tup W,.z),v6,v7,v8,some (F,.z),some (.tup [.int a,.int b,.int c,.int d],.z)]=some (.ok (.val (.bl (decide (a=b) && decide (c=d))) .z),[some (S,.z),some (kk,.z),some (.lst [.int n],.u),some (D0,.z),some (.int N,.z),some (.tup W,.z),v6,v7,v8,some (F,.z),some (.tup [.int a,.int b,.int c,.int d],.z)]):=by (repeat' (first | infer_instance | with_reducible apply au (f1) | eq_refl))
  have l2:i5 (ah eqX (ah aB (ac 10) (mC (.int 0))) (ah aB (ac 10) (mC (.int 1)))) (ah eqX (ah aB (ac 10) (mC (.int 2))) (ah aB (ac 10) (mC (.int 3)))) [some (S,.z),some (kk,.z),some (.lst [.int n],.u),some (D0,.z),some (.int N,.z),some (.tup W,.z),v6,v7,v8,some (F,.z),some (.tup [.int a,.int b,.int c,.int d],.z)]=some (.ok (.val (.bl (decide (a=b) && decide (c=d))) .z),[some (S,.z),some (kk,.z),some (.lst [.int n],.u),some (D0,.z),some (.int N,.z),some (.tup W,.z),v6,v7,v8,some (F,.z),some (.tup [.int a,.int b,.int c,.int d],.z)]):=by
   by_cases e:a=b
   ·rw [Dr e,Bool.true_and]
    apply jr (b:=decide (a=b))
    ·(repeat' (first | infer_instance | exact dX _ _ | eq_refl))
    ·rfl
    ·exact Dr e
    ·(repeat' (first | infer_instance | exact dX _ _ | eq_refl))
   ·rw [Ds e,Bool.false_and]
    apply Au (b:=decide (a=b))
    ·(repeat' (first | infer_instance | exact dX _ _ | eq_refl))
    ·rfl
    ·exact Ds e
  apply c8
  ·exact vB (gH l1 l2 rfl rfl (xB _)) rfl
  ·rfl
  ·rfl
 ·refine ⟨v9,v10,?_⟩
  unfold stW
  generalize SgD ps=W
  generalize (ps.length:Int)=N at *
  apply c8
  ·(repeat' (first | infer_instance | eq_refl))
  ·exact Ds h
  ·rfl
set_option tactic.hygienic true in
theorem xT {ns:List Int} (k:Nat) {v2 v3 v4 v5 v6 v7 v8 v9 v10:Option (L3.D × Fl)} :
  ∃ w2 w3 w4 w5 w6 w7 w8 w9 w10,kb [some (.fls (ns.map .int),.z),some (.int k,.z),v2,v3,v4,v5,v6,v7,v8,v9,v10]=some (.ok .nx,[some (.fls (ns.map .int),.z),some (.int k,.z),w2,w3,w4,w5,w6,w7,w8,w9,w10]):=by
 obtain ⟨n,eb⟩:=zg ns k
 obtain ⟨n2,ps,es,g0,hm,hx⟩:=uR n 9 (by decide) (by decide)
 have g:=uO g0
 have s1:=jV g
 have s2:=BK g
 obtain ⟨R,c1,c2,hR⟩:=wR g
 have neR:=ne_R hR
 have hlen:=Cr ps
 have t:=jU
 generalize hS:L3.D.fls (ns.map .int)=S at *
 generalize hK:L3.D.int (k:Int)=kk at *
 obtain ⟨ρ1,e1,n3,v6a,v8a,rfl⟩:=cu (bnd:=aw 6) (b:=kc) (fun _ ρ=>∃ n v6 v8,ρ=stW S kk n ps v6 v7 v8 v9 v10) (ds:=bc 0 12) (ρ:=stW S kk n2 ps v6 v7 v8 v9 v10) (k:=0) ⟨n2,v6,v8,rfl⟩ (by
  rintro i d ρ hd ⟨n,v6,v8,rfl⟩
  obtain ⟨n',w8,e⟩:=An (S:=S) (kk:=kk) (n:=n) g (v6:=some (d,.z)) (v7:=v7) (v8:=v8) (v9:=v9) (v10:=v10)
  exact ⟨_,_,rfl,.inl e,_,_,_,rfl⟩)
 have r12:dC [.int 12]=some (bc 0 12):=dL (by decide) (by decide)
 have bb:=fv n3 19 (by decide)
 generalize hby:n3 % 19 - 9=b at *
 have hb:-18446744073709551616 < b/\b < 18446744073709551616:=by omega
 have o1:=wL g
 have o2:=jV (xz g)
 rw [xy g] at o2
 have o3:=uS g hb
 have o4:=jV (wC g b)
 rw [wB] at o4
 have o5:=jV (wG g fun q hq=>(hx q hq).2)
 rw [wF] at o5
 have l2:=Am (S:=S) (kk:=kk) (n:=n3 / 19) g (v6:=v6a) (v7:=some (.int b,.z)) (v8:=v8a) (v9:=v9) (v10:=v10)
 have l3:=Ap (S:=S) (kk:=kk) (n:=n3 / 19) g (v6:=v6a) (v7:=some (.int b,.z)) (v8:=v8a) (v9:=v9) (v10:=v10)
 have ne1:=A1 (fun t=>0 - tn ps t) (aU ps.length)
 have ne2:neX (.tup (SgD ps)) (.tup (SgD ps))=some (.bl false,.z):=A1 (tn ps) (aU ps.length)
 obtain ⟨w9,w10,e4⟩:=xR (S:=S) (kk:=kk) (n:=n3 / 19) g (v6:=v6a) (v7:=some (.int b,.z)) (v8:=v8a) (v9:=v9) (v10:=v10)
 refine ⟨some (.lst [.int (n3 / 19)],.u),some (Shd ps,.z),some (.int ps.length,.z),some (.tup (SgD ps),.z),v6a,some (.int b,.z),v8a,w9,w10,?_⟩
 unfold kb
 apply ao (ρ1:=[some (S,.z),some (kk,.z),some (.lst [.int n],.u),v3,v4,v5,v6,v7,v8,v9,v10])
 ·(repeat' (first | infer_instance | with_reducible apply au (eb) | eq_refl))
 apply ao (ρ1:=[some (S,.z),some (kk,.z),some (.lst [.int n2],.u),some (Shd ps,.z),v4,v5,v6,v7,v8,v9,v10])
 ·(repeat' (first | infer_instance | with_reducible apply au (es) | eq_refl))
 apply ao (ρ1:=[some (S,.z),some (kk,.z),some (.lst [.int n2],.u),some (Shd ps,.z),some (.int ps.length,.z),v5,v6,v7,v8,v9,v10])
 ·(repeat' (first | infer_instance | exact hlen | eq_refl))
 unfold stW at *
 generalize (aU ps.length).map (fun t=>L3.D.int (0 - tn ps t))=Y at *
 generalize hW:SgD ps=W at *
 change eW [(.int ps.length,.z),(.tup (SgD ps),.z)]=some (.ok (.bl true,.z),[(.int ps.length,.z),(.tup (SgD ps),.z)]) at s2
 rw [hW] at s2
 generalize hN:L3.D.int (ps.length:Int)=N at *
 apply ao (ρ1:=[some (S,.z),some (kk,.z),some (.lst [.int n2],.u),some (Shd ps,.z),some (N,.z),some (.tup W,.z),v6,v7,v8,v9,v10])
 ·(repeat' (first | infer_instance | with_reducible apply au (s1) | eq_refl))
 apply ao (ρ1:=[some (S,.z),some (kk,.z),some (.lst [.int n2],.u),some (Shd ps,.z),some (N,.z),some (.tup W,.z),v6,v7,v8,v9,v10])
 ·apply c8 (b:=false)
  ·apply k7 (b:=false)
   ·(repeat' (first | infer_instance | with_reducible apply au (s2) | eq_refl))
   ·rfl
   ·(repeat' (first | infer_instance | with_reducible apply au (c1) | with_reducible apply au (c2) | exact neR | eq_refl))
  ·rfl
  ·rfl
 apply ao (ρ1:=[some (S,.z),some (kk,.z),some (.lst [.int n3],.u),some (Shd ps,.z),some (N,.z),some (.tup W,.z),v6a,v7,v8a,v9,v10])
 ·exact gG (dw (eD i_c gF) rfl r12) rfl e1
 apply ao (ρ1:=[some (S,.z),some (kk,.z),some (.lst [.int (n3 / 19)],.u),some (Shd ps,.z),some (N,.z),some (.tup W,.z),v6a,some (.int b,.z),v8a,v9,v10])
 ·rw [<- hby]
  (repeat' (first | infer_instance | with_reducible apply au (t _ _ (by decide)) | eq_refl))
 apply ao (ρ1:=[some (S,.z),some (kk,.z),some (.lst [.int (n3 / 19)],.u),some (Shd ps,.z),some (N,.z),some (.tup W,.z),v6a,some (.int b,.z),v8a,v9,v10])
 ·apply c8 (b:=false)
  ·apply k7 (b:=false)
   ·have q1:am bR (ab (am c9 (ab (ac 3) ai)) ai) [some (S,.z),some (kk,.z),some (.lst [.int (n3 / 19)],.u),some (Shd ps,.z),some (N,.z),some (.tup W,.z),v6a,some (.int b,.z),v8a,v9,v10]=some (.ok (.val (.tup Y) .z),[some (S,.z),some (kk,.z),some (.lst [.int (n3 / 19)],.u),some (Shd ps,.z),some (N,.z),some (.tup W,.z),v6a,some (.int b,.z),v8a,v9,v10]):=by (repeat' (first | infer_instance | with_reducible apply au (o1) | with_reducible apply au (o2) | eq_refl))
    exact vB (gH q1 (hV (eD l2 gF) rfl rfl) rfl rfl ne1) rfl
   ·rfl
   ·have q1:am bR (ab (am gK (ab (ac 3) (ab (ac 7) ai))) ai) [some (S,.z),some (kk,.z),some (.lst [.int (n3 / 19)],.u),some (Shd ps,.z),some (N,.z),some (.tup W,.z),v6a,some (.int b,.z),v8a,v9,v10]=some (.ok (.val (.tup W) .z),[some (S,.z),some (kk,.z),some (.lst [.int (n3 / 19)],.u),some (Shd ps,.z),some (N,.z),some (.tup W,.z),v6a,some (.int b,.z),v8a,v9,v10]):=by (repeat' (first | infer_instance | with_reducible apply au (o3) | with_reducible apply au (o4) | eq_refl))
    exact vB (gH q1 (cU rfl) rfl rfl ne2) rfl
  ·rfl
  ·rfl
 apply ao (ρ1:=[some (S,.z),some (kk,.z),some (.lst [.int (n3 / 19)],.u),some (Shd ps,.z),some (N,.z),some (.tup W,.z),v6a,some (.int b,.z),v8a,v9,v10])
 ·apply c8 (b:=false)
  ·exact vB (gH (au o5 (eD (hV (eD l3 gF) rfl rfl) gF) rfl rfl rfl) (cU rfl) rfl rfl ne2) rfl
  ·rfl
  ·rfl
 ·exact e4
set_option tactic.hygienic true in
theorem zf (ns:List Int) (hn:ns.length<=63):Be [(.fls (ns.map .int),.z)]=some (.ok (.bl true,.z),[(.fls (ns.map .int),.z)]):=by
 have hb:∃ m:Nat,(if (if ((3:Int) < ((ns.map L3.D.int).length:Int)) then (3:Int) else ((ns.map L3.D.int).length:Int)) > 1 then (if ((3:Int) < ((ns.map L3.D.int).length:Int)) then (3:Int) else ((ns.map L3.D.int).length:Int)) else (1:Int))=(m:Int)/\m<=3:=by
  refine ⟨max 1 (min ns.length 3),?_,by omega⟩
  simp only [Dg]
  split <;> split <;> omega
 obtain ⟨m,hm,hm4⟩:=hb
 obtain ⟨ρ',e,v1,v2,v3,v4,v5,v6,v7,v8,v9,v10,rfl⟩:=cu (bnd:=aw 1) (b:=kb) (fun _ ρ=>∃ v1 v2 v3 v4 v5 v6 v7 v8 v9 v10,ρ=[some (.fls (ns.map .int),.z),v1,v2,v3,v4,v5,v6,v7,v8,v9,v10]) (ds:=bc 0 m) (ρ:=[some (.fls (ns.map .int),.z),none,none,none,none,none,none,none,none,none,none]) (k:=0) ⟨_,_,_,_,_,_,_,_,_,_,rfl⟩ (by
  rintro i d ρ hd ⟨v1,v2,v3,v4,v5,v6,v7,v8,v9,v10,rfl⟩
  obtain ⟨hi,rfl⟩:=dJ hd
  rw [Int.zero_add]
  obtain ⟨w2,w3,w4,w5,w6,w7,w8,w9,w10,e⟩:=xT (ns:=ns) i (v2:=v2) (v3:=v3) (v4:=v4) (v5:=v5) (v6:=v6) (v7:=v7) (v8:=v8) (v9:=v9) (v10:=v10)
  exact ⟨_,_,rfl,.inl e,_,_,_,_,_,_,_,_,_,_,rfl⟩)
 have hr:dC [.int (if (if ((3:Int) < ((ns.map L3.D.int).length:Int)) then (3:Int) else ((ns.map L3.D.int).length:Int)) > 1 then (if ((3:Int) < ((ns.map L3.D.int).length:Int)) then (3:Int) else ((ns.map L3.D.int).length:Int)) else (1:Int))]=some (bc 0 m):=by
  rw [hm]
  exact dL (by omega) (by omega)
 apply aY (ρ:=[some (.fls (ns.map .int),.z),none,none,none,none,none,none,none,none,none,none]) rfl rfl
 ·apply ao
  ·apply gG
   ·(repeat' (first | with_reducible apply dw (h3:=hr) | infer_instance | eq_refl))
   ·rfl
   ·exact e
  ·(repeat' (first | infer_instance | eq_refl))
 ·rfl
end Bn
end
namespace Bn
open PySem L2 L3
theorem C1 {l : PySem.W.OpenLaw} {w : World} {K : FG} {h : Heap} {mg : Str -> Option Value} {fa : Addr} (X : K.In h) (G : h.Ns mainGlobals mg) (hfa : mg "law" = some (.ref fa)) (e : zd K = ue) :
  ∃ fd : FuncData, (∀ (s : Shared) (v : Value), BindsTo s fd ⟨[v], []⟩ [("_law_script", v)]) /\ ∀ base : Heap, K.In base -> base.Ns mainGlobals mg -> FnOk l.prog w K mg base CX0 8 fa fd ["_law_script"] (wA K) := by
 have e0 : dsL.map (fun p => qO K p.1) = dsL.map (fun p => mO p.1 p.2) := congrArg (fun x => x.1) e
 have e1 : blL.map (PySem.W.nsIn K mainGlobals) = blL.map (fun _ => some none) := congrArg (fun x => x.2.1) e
 have e2 : ciL.map (fun p => pg K p.1) = ciL.map (fun p => some p.2) := congrArg (fun x => x.2.2.1) e
 have e3 : csL.map (fun p => wz K p.1) = csL.map (fun p => some p.2) := congrArg (fun x => x.2.2.2) e
 have B : Bl mg := ⟨dq X G e1 0 rfl, dq X G e1 1 rfl, dq X G e1 2 rfl, dq X G e1 3 rfl, dq X G e1 4 rfl, dq X G e1 5 rfl, dq X G e1 6 rfl, dq X G e1 7 rfl, dq X G e1 8 rfl, dq X G e1 9 rfl, dq X G e1 10 rfl, dq X G e1 11 rfl, dq X G e1 12 rfl, dq X G e1 13 rfl, dq X G e1 14 rfl, dq X G e1 15 rfl, dq X G e1 16 rfl, dq X G e1 17 rfl, dq X G e1 18 rfl, dq X G e1 19 rfl⟩
 have D0 : Def K mg "is_whole" gO := aN X G e0 0 rfl
 have D1 : Def K mg "is_point" gQ := aN X G e0 1 rfl
 have D2 : Def K mg "is_place" gR := aN X G e0 2 rfl
 have D3 : Def K mg "are_rising_places" b6 := aN X G e0 3 rfl
 have D4 : Def K mg "check_whole" eK := aN X G e0 4 rfl
 have D5 : Def K mg "check_number" dG := aN X G e0 5 rfl
 have D6 : Def K mg "are_points" fi := aN X G e0 6 rfl
 have D7 : Def K mg "has_rising_x" dE := aN X G e0 7 rfl
 have D8 : Def K mg "bend" oI := aN X G e0 8 rfl
 have D9 : Def K mg "threes" jQ := aN X G e0 9 rfl
 have D10 : Def K mg "fours" lC := aN X G e0 10 rfl
 have D11 : Def K mg "first_on_line" de := aN X G e0 11 rfl
 have D12 : Def K mg "is_sheet" gP := aN X G e0 12 rfl
 have D13 : Def K mg "check_sheet" eM := aN X G e0 13 rfl
 have D14 : Def K mg "turn_at" jf := aN X G e0 14 rfl
 have D15 : Def K mg "all_turns" fX := aN X G e0 15 rfl
 have D16 : Def K mg "turned_over" eG := aN X G e0 16 rfl
 have D17 : Def K mg "sheared" jg := aN X G e0 17 rfl
 have D18 : Def K mg "row_bends" fV := aN X G e0 18 rfl
 have D19 : Def K mg "onward_table" dD := aN X G e0 19 rfl
 have D20 : Def K mg "longest_row" eI := aN X G e0 20 rfl
 have D21 : Def K mg "longest_cup" eJ := aN X G e0 21 rfl
 have D22 : Def K mg "side_row" gN := aN X G e0 22 rfl
 have D23 : Def K mg "is_ring_by" fh := aN X G e0 23 rfl
 have D24 : Def K mg "is_ring" jj := aN X G e0 24 rfl
 have D25 : Def K mg "is_sign" ji := aN X G e0 25 rfl
 have D26 : Def K mg "turns_by_signs" cN := aN X G e0 26 rfl
 have D27 : Def K mg "change_once_at_most" bS := aN X G e0 27 rfl
 have D28 : Def K mg "are_signs_of" dH := aN X G e0 28 rfl
 have D29 : Def K mg "are_signs" fW := aN X G e0 29 rfl
 have D30 : Def K mg "check_signs" eL := aN X G e0 30 rfl
 have D31 : Def K mg "signs_of" gM := aN X G e0 31 rfl
 have D32 : Def K mg "cup_by_signs" dF := aN X G e0 32 rfl
 have D33 : Def K mg "is_ring_by_signs" cj := aN X G e0 33 rfl
 have D34 : Def K mg "_law_box" lB := aN X G e0 34 rfl
 have D35 : Def K mg "_law_take" jR := aN X G e0 35 rfl
 have D36 : Def K mg "_law_bend" jT := aN X G e0 36 rfl
 have D37 : Def K mg "_law_free" jS := aN X G e0 37 rfl
 have D38 : Def K mg "_law_sheet" jh := aN X G e0 38 rfl
 obtain ⟨f, fd, F0, hf⟩ : Def K mg "law" iI := aN X G e0 39 rfl
 cases hfa.symm.trans hf
 have F := F0
 obtain ⟨oc, od, kV, doc, pm, an, cdv, ct, osl, ef, lk, hcd⟩ := F0.ex
 subst ef
 obtain ⟨tk0, Q0⟩ := pe X G e2 0 (n := "MOST_POINTS") (v := 24) rfl
 obtain ⟨tk1, Q1⟩ := pe X G e2 1 (n := "UP") (v := 1) rfl
 obtain ⟨tk2, Q2⟩ := pe X G e2 2 (n := "DOWN") (v := -1) rfl
 obtain ⟨tk3, Q3⟩ := pe X G e2 3 (n := "LEAST_CORNERS") (v := 3) rfl
 refine ⟨PySem.W.fnOf "law" "law" (bT iI) (bq iI) (aj iI) .none kV doc pm an cdv ct, fun s v => .of_eq rfl, fun base _ _ => ?_⟩
 have C_is_whole := pD (P := l.prog) (w := w) (base := base) B D0
 have C_is_point := pF (P := l.prog) (w := w) (base := base) B D1 C_is_whole
 have C_is_place := pG (P := l.prog) (w := w) (base := base) B D2 C_is_whole
 have C_are_rising_places := iC (P := l.prog) (w := w) (base := base) B D3 C_is_place
 have C_check_whole := lx (P := l.prog) (w := w) (base := base) B D4 C_is_whole
 have C_check_number := kO (P := l.prog) (w := w) (base := base) B D5 C_is_whole
 have C_are_points := mT (P := l.prog) (w := w) (base := base) B D6 C_is_point Q0
 have C_has_rising_x := kM (P := l.prog) (w := w) (base := base) B D7
 have C_bend := yx (P := l.prog) (w := w) (base := base) B D8
 have C_threes := sQ (P := l.prog) (w := w) (base := base) B D9
 have C_fours := vY (P := l.prog) (w := w) (base := base) B D10 C_threes
 have C_first_on_line := kj (P := l.prog) (w := w) (base := base) B D11 C_bend C_threes
 have C_is_sheet := pE (P := l.prog) (w := w) (base := base) B D12 C_are_points C_first_on_line C_has_rising_x
 have C_check_sheet := lA (P := l.prog) (w := w) (base := base) B D13 C_is_sheet
 have C_turn_at := qY (P := l.prog) (w := w) (base := base) B D14 C_bend
 have C_all_turns := nw (P := l.prog) (w := w) (base := base) B D15 C_check_sheet C_threes C_turn_at
 have C_turned_over := ls (P := l.prog) (w := w) (base := base) B D16 C_check_sheet
 have C_sheared := qZ (P := l.prog) (w := w) (base := base) B D17 C_check_sheet C_check_whole
 have C_row_bends := nt (P := l.prog) (w := w) (base := base) B D18
 have C_onward_table := kK (P := l.prog) (w := w) (base := base) B D19
 have C_longest_row := lu (P := l.prog) (w := w) (base := base) B D20 C_onward_table
 have C_longest_cup := lw (P := l.prog) (w := w) (base := base) B D21 C_all_turns C_longest_row Q1
 have C_side_row := pC (P := l.prog) (w := w) (base := base) B D22
 have C_is_ring_by := mS (P := l.prog) (w := w) (base := base) B D23 C_are_rising_places C_row_bends C_side_row Q2 Q3 Q1
 have C_is_ring := rg (P := l.prog) (w := w) (base := base) B D24 C_all_turns C_is_ring_by
 have C_is_sign := rf (P := l.prog) (w := w) (base := base) B D25 C_is_whole Q2 Q1
 have C_turns_by_signs := jK (P := l.prog) (w := w) (base := base) B D26 C_threes
 have C_change_once_at_most := gI (P := l.prog) (w := w) (base := base) B D27
 have C_are_signs_of := kP (P := l.prog) (w := w) (base := base) B D28 C_change_once_at_most C_fours C_is_sign C_threes C_turns_by_signs
 have C_are_signs := nv (P := l.prog) (w := w) (base := base) B D29 C_are_signs_of C_check_number Q0
 have C_check_signs := ly (P := l.prog) (w := w) (base := base) B D30 C_are_signs_of C_check_number
 have C_signs_of := pB (P := l.prog) (w := w) (base := base) B D31 C_all_turns C_threes
 have C_cup_by_signs := kN (P := l.prog) (w := w) (base := base) B D32 C_check_signs C_longest_row C_turns_by_signs Q0 Q1
 have C_is_ring_by_signs := jb (P := l.prog) (w := w) (base := base) B D33 C_check_signs C_is_ring_by C_turns_by_signs Q0
 have C__law_box := vX (P := l.prog) (w := w) (base := base) B D34
 have C__law_take := sR (P := l.prog) (w := w) (base := base) B D35
 have C__law_bend := sT (P := l.prog) (w := w) (base := base) B D36
 have C__law_free := sS (P := l.prog) (w := w) (base := base) B D37 C__law_bend
 have C__law_sheet := re (P := l.prog) (w := w) (base := base) B D38 C__law_free C__law_take
 exact FnOk.imp (Ax (P := l.prog) (w := w) (base := base) B F C__law_box C__law_sheet C__law_take C_are_signs C_cup_by_signs C_is_ring C_is_ring_by_signs C_longest_cup C_sheared C_signs_of C_turned_over) fun vs H Q E h => Ao (fun ns hn => ⟨_, zf ns hn⟩) h
theorem walkL : PySem.W.WalkO viL loL (fun _ _ => True) (fun _ h => ∃ K : FG, K.In h /\ zd K = ue) PySem.Challenge.rw_bentrows_k58_whole_signs_tell_all.row.toRowW ⟨"law", bT iI, bq iI, aj iI, stPos iI⟩ [] (fun f vs => PySem.call f vs) :=
 L2.walk_ofS (l := PySem.Challenge.rw_bentrows_k58_whole_signs_tell_all) (n := 63) (k := 8) (x := "_law_script") (S := fun K => zd K = ue) (CX := CX0) (sp := wA) rfl (by decide) rfl ⟨rfl, by decide, by decide, rfl⟩ (fun _ _ z => z) (fun _ _ _ _ _ e X G hm => C1 X G hm e) (fun _ _ a ns hl hO hS => ⟨a, ns, rfl, hS, hO, hl, fun _ => rfl⟩) fun _ _ _ _ z => z
end Bn
set_option tactic.hygienic true
open PySem PySem.W PyProof.Rows
set_option maxRecDepth 100000 in
set_option maxHeartbeats 0 in
theorem PySem.Challenge.cw_bentrows_k58_whole_signs_tell_all_holds : PySem.Challenge.rw_bentrows_k58_whole_signs_tell_all.Holds :=
 holds_law Bn.okL fun said => holds_open (r := PySem.Challenge.rw_bentrows_k58_whole_signs_tell_all.row) Bn.leftL (fun _ _ e => ⟨_, L2.fragAt_in _, e⟩) (fun _ _ _ ⟨K, X, e⟩ k => ⟨K, X.keeps k, e⟩) (fun _ _ => trivial) (fun _ _ _ _ _ => trivial) (by kernel_rfl) (by kernel_rfl) (by kernel_rfl) (fun s e => recFacts_of e) (by rfl) said (by kernel_rfl) ⟨rfl, rfl, rfl, rfl, rfl, by decide +kernel⟩ ⟨[.list []], by decide +kernel, by decide +kernel⟩ Bn.walkL
