import PyProof.Rows.All
import Wide.All
import OpenK.AllK
import Wide.FinOn
import Lean
import PyProof.EqAt
import PyProof.EqKinds
import PyProof.TupleCall
import PyProof.NeKinds
import PyProof.ZipIter
import PyProof.WalksEnum
import PyProof.CompUse
import PyProof.ListRange
import PyProof.Rows.SetFrom
import PyProof.Rows.SortWalk
import PyProof.Rows.SeqMore2
import PyProof.SetRoads
import KE.KRevIter
import PyProof.WalksMore
import PyProof.AutoRange
import PyProof.ListNew
import PyProof.Wp
import PyProof.Logic
import PyProof.StationsW
import PyProof.ExcClass2
import OpenK.KGet
import PyProof.Rows.SortRunsK
import PyProof.Rows.SortShellK
import KE.KDictSum
import PyProof.DictTruth
import PyProof.RangeIter
import PyProof.RaisesMany
import PyProof.AutoListH
import PySem.Challenge.RW_lotmeal_k48_lies_at_the_meal
set_option Elab.async false
set_option linter.all false
set_option maxRecDepth 100000
set_option maxHeartbeats 4000000
namespace L2
open PySem PySem.W
section
variable {tb : String → Option Builtin} {p : Program} {w : World} {n₀ : Nat} {ann : Option Value}
def topT (tb : String → Option Builtin) (p : Program) (w : World) (n₀ : Nat) (ann : Option Value) : Nat → SharedT → Thread → Option SharedT
  | 0, _, _ => none
  | n + 1, s, t => match through t with
    | true => some s
    | false => match stepOk n₀ ann t with
      | false => none
      | true => match stepT (denote tb) p w s t with
        | some (s', t') => topT tb p w n₀ ann n s' t'
        | none => none
theorem topT_of : ∀ {n : Nat} {s s' : SharedT} {t : Thread}, topT tb p w n₀ ann n s t = some s' → topRun tb p w n₀ ann n s.abs t = some s'.abs
  | 0, _, _, _, h => by cases h
  | n + 1, s, s', t, h => by
    unfold topT at h
    unfold topRun
    cases ht : through t with
    | true => rw [ht] at h; cases h; rfl
    | false =>
      rw [ht] at h
      cases hk : stepOk n₀ ann t with
      | false => rw [hk] at h; cases h
      | true =>
        rw [hk] at h
        cases hs : stepT (denote tb) p w s t with
        | none => rw [hs] at h; cases h
        | some r => obtain ⟨s₂, t₂⟩ := r; rw [hs] at h; rw [stepT_spec hs]; exact topT_of h
end
def treeOf (l : List Obj) : Nat → Nat → Nat → BT
  | 0, _, _ => .nil
  | f + 1, a, b => match l[b]? with
    | some o => .node o (treeOf l f (2 * a) (a + b)) (treeOf l f (2 * a) (2 * a + b))
    | none => .nil
theorem left_tree {p q : Program} {loose : List Str} {Xt : Shared → Bool} {α : Type} {Yf : Shared → α} {Ya : World → α} {N : Nat} {g0 : Bool} {T₀ : Params → BT} {n₀ : Nat} {life : Life} {gs₀ : Array GenState} {d₀ : Drawn} {k₀ : Nat} {ann : Option Value} {M : Nat}
    (open_ : ∀ w : World, (fencedOpening treeTable p w N).map (fun s => (s.heap, s.gens, s.drawn, s.toks)) = some (absHeap (T₀ w.params) n₀ life, gs₀, d₀, k₀))
    (size : ∀ w : World, ((absHeap (T₀ w.params) n₀ life).isNs mainGlobals && gs₀.size == 0, (absHeap (T₀ w.params) n₀ life).nsMap mainGlobals "__annotations__") = (true, ann))
    (run : ∀ (w : World), (fun os => (topT treeTable p w n₀ ann M ⟨T₀ w.params, n₀, life, gs₀, d₀, k₀, os⟩ (topStub p)).map fun st => ((staticsOk (importedModules p.main.body) (absHeap (T₀ w.params) n₀ life) st.abs.heap && namesBound p st.abs.heap && gensDone st.abs && laidKept (absHeap (T₀ w.params) n₀ life) st.abs.heap), openSeen q loose (importedModules p.main.body) Xt g0 st.abs, Yf st.abs)) = fun _ => some (true, openGood q loose, Ya w)) (le : Nat.ble M N = true) : LeftO p q loose Xt Yf Ya N g0 := fun w => by
  obtain ⟨⟨h, gs, d, k, os⟩, e, e'⟩ := Option.map_eq_some_iff.mp (open_ w)
  obtain ⟨rfl, rfl, rfl, rfl⟩ : h = absHeap (T₀ w.params) n₀ life ∧ gs = gs₀ ∧ d = d₀ ∧ k = k₀ := by simpa using e'
  obtain ⟨z1, z3⟩ := Prod.mk.inj (size w)
  obtain ⟨st, hr, hl⟩ := Option.map_eq_some_iff.mp (congrFun (run w) os)
  obtain ⟨l1, hl⟩ := Prod.mk.inj hl
  obtain ⟨l2, l3⟩ := Prod.mk.inj hl
  have r := topRun_mono (N - M) _ _ _ _ (topT_of hr)
  rw [show M + (N - M) = N by have := Nat.le_of_ble_eq_true le; omega] at r
  have t : topFrom treeTable p w N ⟨absHeap (T₀ w.params) n₀ life, gs, d, k, os⟩ = some st.abs := by
    unfold topFrom
    dsimp only
    rw [z1, absHeap_size, z3]
    have r' : topRun treeTable p w n₀ ann N ⟨absHeap (T₀ w.params) n₀ life, gs, d, k, os⟩ (topStub p) = some st.abs := r
    rw [r']
    show (match staticsOk (importedModules p.main.body) (absHeap (T₀ w.params) n₀ life) st.abs.heap && namesBound p st.abs.heap && gensDone st.abs && laidKept (absHeap (T₀ w.params) n₀ life) st.abs.heap with | true => _ | false => _) = _
    rw [l1]
  unfold openEnds
  rw [e]
  show (topFrom treeTable p w N _).map _ = _
  rw [t]
  exact congrArg some (Prod.ext l2 l3)
noncomputable def bootT (P : Params) : BT := treeOf (boot_heap P).objs.toList 12 1 0
theorem boot_abs (P : Params) : absHeap (bootT P) 11 {} = boot_heap P := by kernel_rfl
theorem boot_size (w : World) : ((absHeap (bootT w.params) 11 {}).isNs mainGlobals && (Array.mk [] : Array GenState).size == 0, (absHeap (bootT w.params) 11 {}).nsMap mainGlobals "__annotations__") = (true, some (.ref 6)) := by kernel_rfl
noncomputable def bootRun (p : Program) (w : World) (N : Nat) (os : OsState) : Option SharedT := topT treeTable p w 11 (some (.ref 6)) N ⟨bootT w.params, 11, {}, Array.mk [], boot_drawn, boot_toks, os⟩ (topStub p)
noncomputable def bootOk (p : Program) (w : World) (st : SharedT) : Bool := staticsOk (importedModules p.main.body) (absHeap (bootT w.params) 11 {}) st.abs.heap && namesBound p st.abs.heap && gensDone st.abs && laidKept (absHeap (bootT w.params) 11 {}) st.abs.heap
theorem left_boot {p q : Program} {loose : List Str} {Xt : Shared → Bool} {α : Type} {Yf : Shared → α} {Ya : World → α} {N : Nat} {g0 : Bool} (e : opening p = plainProg p.main.scope.names) (hN : Nat.ble 600 N = true) (f : ∀ s, fenceModules? p s = some s)
    (r1 : ∀ w : World, (fun os => (bootRun p w N os).map fun st => bootOk p w st) = fun _ => some true) (r2 : ∀ w : World, (fun os => (bootRun p w N os).map fun st => openSeen q loose (importedModules p.main.body) Xt g0 st.abs) = fun _ => some (openGood q loose)) (r3 : ∀ w : World, (fun os => (bootRun p w N os).map fun st => Yf st.abs) = fun _ => some (Ya w)) : LeftO p q loose Xt Yf Ya N g0 :=
  left_tree (T₀ := bootT) (n₀ := 11) (life := {}) (ann := some (.ref 6)) (fun w => (boot_open e hN f w).trans (by rw [boot_abs])) boot_size (fun w => funext fun os => by
    have a := congrFun (r1 w) os
    have b := congrFun (r2 w) os
    have c := congrFun (r3 w) os
    show (bootRun p w N os).map (fun st => (bootOk p w st, openSeen q loose (importedModules p.main.body) Xt g0 st.abs, Yf st.abs)) = _
    cases h : bootRun p w N os with
    | none => rw [h] at a; cases a
    | some st =>
      rw [h] at a b c
      show some (bootOk p w st, openSeen q loose (importedModules p.main.body) Xt g0 st.abs, Yf st.abs) = _
      have a' : bootOk p w st = true := Option.some.inj a
      have b' : openSeen q loose (importedModules p.main.body) Xt g0 st.abs = openGood q loose := Option.some.inj b
      have c' : Yf st.abs = Ya w := Option.some.inj c
      rw [a', b', c']) (by rw [Nat.ble_eq]; exact Nat.le_refl _)
def dA (s : Stmt) : Arguments := match s with
  | .FunctionDef _ a _ _ _ _ _ _ _ _ => a
  | _ => { posonlyargs := [], args := [], vararg := none, kwonlyargs := [], kw_defaults := [], kwarg := none, defaults := [] }
def dB (s : Stmt) : List Stmt := match s with
  | .FunctionDef _ _ b _ _ _ _ _ _ _ => b
  | _ => []
def dS (s : Stmt) : Scope := match s with
  | .FunctionDef _ _ _ _ _ _ sc _ _ _ => sc
  | _ => { kind := .function, names := [], isGenerator := false, isCoroutine := false }
def dM (s : Stmt) (j : Nat) : Stmt := match s with
  | .ClassDef _ _ _ b _ _ _ _ _ _ _ => b.getD j (.Pass ⟨0, 0, 0, 0⟩)
  | _ => .Pass ⟨0, 0, 0, 0⟩
def dE (P : Params) (x : Str) (n : Nat) (v : Value) : DictEntry := .mk (PyData.keyHash P x) (.str x n) v
def o0 : Obj := Obj.mk (.type "tuple") none (.seq #[] 0) #[]
def oT (x : Array Value) : Obj := Obj.mk (.type "tuple") none (.seq x 0) #[]
def oC (x : Array Value) : Obj := Obj.mk (.type "code") none (.fields x) #[]
def oD (n : Str) (a l k r x : Nat) (y z : Value) (v u : Nat) : Obj := oC #[.str n a, .str n (a+1), .str "/claim/cut.py" (a+2), .int l 0, .int k 0, .int 0 0, .int 0 0, .int 3 0, .ref r, .bool true, .int 181 0, .ref x, .none, y, z, .ref v, .int u 0, .int l 0, .str "/claim/cut.py" (u+1)]
def oF (n : Str) (s : Stmt) (d m c : Value) : Obj := Obj.mk (.type "function") none (.func (FuncData.mk n n (dA s) (.stmts (dB s)) (dS s) 3 [] d .none .none m none c .none 0)) #[]
end L2
namespace H48
open PySem PySem.W
abbrev pr : Program := PySem.Challenge.rw_lotmeal_k48_lies_at_the_meal.row.prog
def tp (i : Nat) : Stmt := pr.main.body.getD i (.Pass ⟨0, 0, 0, 0⟩)
noncomputable def hK : Params → Frag := fun P =>
 (nat_lit 2, boot_o_2 P) ::
 (nat_lit 3, (Obj.mk (.type "dict") none (.dict #[(L2.dE P "__name__" 165 (.str "law_lotmeal_k48_lies_at_the_meal" 614)), (L2.dE P "__doc__" 166 .none), (L2.dE P "__package__" 167 .none), (L2.dE P "__loader__" 168 (.builtin "__main__.__loader__#opaque")), (L2.dE P "__spec__" 169 .none), (L2.dE P "__annotations__" 170 (.ref 6)), (L2.dE P "__builtins__" 171 (.ref 4)), (L2.dE P "__file__" 173 (.str "/claim/cut.py" 172)), (L2.dE P "__cached__" 174 .none), (L2.dE P "LotError" 206 (.ref 24)), (L2.dE P "NoNumber" 222 (.ref 37)), (L2.dE P "TooGreat" 238 (.ref 49)), (L2.dE P "NoAsker" 254 (.ref 61)), (L2.dE P "NoThing" 279 (.ref 80)), (L2.dE P "Twice" 304 (.ref 99)), (L2.dE P "NoTurns" 320 (.ref 111)), (L2.dE P "is_whole" 329 (.ref 120)), (L2.dE P "common_part" 338 (.ref 127)), (L2.dE P "fraction" 348 (.ref 135)), (L2.dE P "plus" 356 (.ref 142)), (L2.dE P "minus" 364 (.ref 149)), (L2.dE P "times" 372 (.ref 156)), (L2.dE P "over" 380 (.ref 163)), (L2.dE P "under" 388 (.ref 170)), (L2.dE P "sum_of" 397 (.ref 177)), (L2.dE P "least_of" 406 (.ref 184)), (L2.dE P "MOST" 410 (.int 6 409)), (L2.dE P "MOST_COUNT" 412 (.int 9 411)), (L2.dE P "check_orders" 418 (.ref 189)), (L2.dE P "table_of" 424 (.ref 194)), (L2.dE P "full_order" 430 (.ref 199)), (L2.dE P "first_left" 436 (.ref 204)), (L2.dE P "next_length" 444 (.ref 209)), (L2.dE P "left_behind" 450 (.ref 214)), (L2.dE P "ended_things" 456 (.ref 219)), (L2.dE P "meal_steps" 462 (.ref 224)), (L2.dE P "eaten_by" 468 (.ref 229)), (L2.dE P "meal" 474 (.ref 234)), (L2.dE P "sums" 488 (.ref 241)), (L2.dE P "as_good" 494 (.ref 246)), (L2.dE P "weight_of" 502 (.ref 251)), (L2.dE P "shares_of" 508 (.ref 256)), (L2.dE P "MOST_TURNS" 512 (.int 5 511)), (L2.dE P "deal_by" 518 (.ref 261)), (L2.dE P "longer" 524 (.ref 266)), (L2.dE P "all_turns" 533 (.ref 273)), (L2.dE P "turn_mix" 539 (.ref 278)), (L2.dE P "turn_shares" 546 (.ref 285)), (L2.dE P "MOST_THINGS" 550 (.int 4 549)), (L2.dE P "check_asker" 558 (.ref 292)), (L2.dE P "told_otherwise" 568 (.ref 299)), (L2.dE P "all_orders" 578 (.ref 306)), (L2.dE P "row_at" 588 (.ref 313)), (L2.dE P "word_for" 598 (.ref 320)), (L2.dE P "lies" 613 (.ref 328)), (L2.dE P "_law_cell_at" 623 (.ref 335)), (L2.dE P "_law_order" 636 (.ref 342)), (L2.dE P "_law_table" 642 (.ref 347)), (L2.dE P "_law_full" 648 (.ref 352)), (L2.dE P "_law_sums" 662 (.ref 359)), (L2.dE P "_law_no_less" 668 (.ref 364)), (L2.dE P "_law_word" 680 (.ref 371)), (L2.dE P "_law_lists" 686 (.ref 376)), (L2.dE P "_law_due" 692 (.ref 381)), (L2.dE P "_law_shaped" 700 (.ref 388)), (L2.dE P "law" 706 (.ref 393))] 66) #[])) ::
 (nat_lit 15, (L2.oT #[(.type "ValueError")])) ::
 (nat_lit 22, L2.o0) ::
 (nat_lit 23, (Obj.mk (.type "dict") none (.dict #[(L2.dE P "__module__" 196 (.str "lotmeal.errors" 187)), (L2.dE P "__firstlineno__" 200 (.int 2 199)), (L2.dE P "__static_attributes__" 201 (.ref 22)), (L2.dE P "__weakref__" 203 (.ref 25)), (L2.dE P "__doc__" 204 .none)] 3) #[])) ::
 (nat_lit 24, (Obj.mk (.type "type") none (.cls (ClassData.mk "LotError" [(.type "ValueError")] [(.ref 24), (.type "ValueError"), (.type "Exception"), (.type "BaseException"), (.type "object")] 23 "LotError" true [] [(.ref 37), (.ref 49), (.ref 61), (.ref 80), (.ref 99), (.ref 111)] false none false)) #[(some (.ref 15)), none, (some (.str "LotError" 189)), (some (.str "LotError" 197)), (some (.builtin "ValueError.__new__")), (some (.bool true))])) ::
 (nat_lit 25, (Obj.mk (.type "getset_descriptor") none (.fields #[(.str "__weakref__" 202), (.ref 24), (.builtin "ExceptionGroup.__weakref__"), .none]) #[])) ::
 (nat_lit 28, (L2.oT #[(.ref 24)])) ::
 (nat_lit 35, L2.o0) ::
 (nat_lit 36, (Obj.mk (.type "dict") none (.dict #[(L2.dE P "__module__" 214 (.str "lotmeal.errors" 187)), (L2.dE P "__firstlineno__" 218 (.int 4 217)), (L2.dE P "__static_attributes__" 219 (.ref 35)), (L2.dE P "__doc__" 220 .none)] 2) #[])) ::
 (nat_lit 37, (Obj.mk (.type "type") none (.cls (ClassData.mk "NoNumber" [(.ref 24)] [(.ref 37), (.ref 24), (.type "ValueError"), (.type "Exception"), (.type "BaseException"), (.type "object")] 36 "NoNumber" true [] [] false none false)) #[(some (.ref 28)), none, (some (.str "NoNumber" 207)), (some (.str "NoNumber" 215)), (some (.builtin "ValueError.__new__")), (some (.bool true))])) ::
 (nat_lit 40, (L2.oT #[(.ref 24)])) ::
 (nat_lit 47, L2.o0) ::
 (nat_lit 48, (Obj.mk (.type "dict") none (.dict #[(L2.dE P "__module__" 230 (.str "lotmeal.errors" 187)), (L2.dE P "__firstlineno__" 234 (.int 6 233)), (L2.dE P "__static_attributes__" 235 (.ref 47)), (L2.dE P "__doc__" 236 .none)] 2) #[])) ::
 (nat_lit 49, (Obj.mk (.type "type") none (.cls (ClassData.mk "TooGreat" [(.ref 24)] [(.ref 49), (.ref 24), (.type "ValueError"), (.type "Exception"), (.type "BaseException"), (.type "object")] 48 "TooGreat" true [] [] false none false)) #[(some (.ref 40)), none, (some (.str "TooGreat" 223)), (some (.str "TooGreat" 231)), (some (.builtin "ValueError.__new__")), (some (.bool true))])) ::
 (nat_lit 52, (L2.oT #[(.ref 24)])) ::
 (nat_lit 59, L2.o0) ::
 (nat_lit 60, (Obj.mk (.type "dict") none (.dict #[(L2.dE P "__module__" 246 (.str "lotmeal.errors" 187)), (L2.dE P "__firstlineno__" 250 (.int 8 249)), (L2.dE P "__static_attributes__" 251 (.ref 59)), (L2.dE P "__doc__" 252 .none)] 2) #[])) ::
 (nat_lit 61, (Obj.mk (.type "type") none (.cls (ClassData.mk "NoAsker" [(.ref 24)] [(.ref 61), (.ref 24), (.type "ValueError"), (.type "Exception"), (.type "BaseException"), (.type "object")] 60 "NoAsker" true [] [] false none false)) #[(some (.ref 52)), none, (some (.str "NoAsker" 239)), (some (.str "NoAsker" 247)), (some (.builtin "ValueError.__new__")), (some (.bool true))])) ::
 (nat_lit 64, (L2.oT #[(.ref 24)])) ::
 (nat_lit 71, L2.o0) ::
 (nat_lit 73, (L2.oT #[(.str "self" 270), (.str "asker" 271)])) ::
 (nat_lit 74, L2.o0) ::
 (nat_lit 76, (L2.oC #[(.str "__init__" 267), (.str "NoThing.__init__" 268), (.str "/claim/cut.py" 269), (.int 12 0), (.int 2 0), (.int 0 0), (.int 0 0), (.int 3 0), (.ref 71), (.bool true), (.int 181 0), (.ref 72), .none, (.ref 73), (.ref 74), (.ref 75), (.int 272 0), (.int 12 0), (.str "/claim/cut.py" 273)])) ::
 (nat_lit 77, (Obj.mk (.type "function") none (.func (FuncData.mk "__init__" "NoThing.__init__" (L2.dA (L2.dM (tp 5) 0)) (.stmts (L2.dB (L2.dM (tp 5) 0))) (L2.dS (L2.dM (tp 5) 0)) 3 [] .none .none .none (.str "lotmeal.errors" 187) none (.ref 76) .none 0)) #[])) ::
 (nat_lit 78, (L2.oT #[(.str "asker" 275)])) ::
 (nat_lit 79, (Obj.mk (.type "dict") none (.dict #[(L2.dE P "__module__" 262 (.str "lotmeal.errors" 187)), (L2.dE P "__firstlineno__" 266 (.int 10 265)), (L2.dE P "__init__" 274 (.ref 77)), (L2.dE P "__static_attributes__" 276 (.ref 78)), (L2.dE P "__doc__" 277 .none)] 2) #[])) ::
 (nat_lit 80, (Obj.mk (.type "type") none (.cls (ClassData.mk "NoThing" [(.ref 24)] [(.ref 80), (.ref 24), (.type "ValueError"), (.type "Exception"), (.type "BaseException"), (.type "object")] 79 "NoThing" true [] [] false none false)) #[(some (.ref 64)), none, (some (.str "NoThing" 255)), (some (.str "NoThing" 263)), (some (.builtin "ValueError.__new__")), (some (.bool true))])) ::
 (nat_lit 83, (L2.oT #[(.ref 24)])) ::
 (nat_lit 90, L2.o0) ::
 (nat_lit 92, (L2.oT #[(.str "self" 295), (.str "asker" 296)])) ::
 (nat_lit 93, L2.o0) ::
 (nat_lit 95, (L2.oC #[(.str "__init__" 292), (.str "Twice.__init__" 293), (.str "/claim/cut.py" 294), (.int 17 0), (.int 2 0), (.int 0 0), (.int 0 0), (.int 3 0), (.ref 90), (.bool true), (.int 181 0), (.ref 91), .none, (.ref 92), (.ref 93), (.ref 94), (.int 297 0), (.int 17 0), (.str "/claim/cut.py" 298)])) ::
 (nat_lit 96, (Obj.mk (.type "function") none (.func (FuncData.mk "__init__" "Twice.__init__" (L2.dA (L2.dM (tp 6) 0)) (.stmts (L2.dB (L2.dM (tp 6) 0))) (L2.dS (L2.dM (tp 6) 0)) 3 [] .none .none .none (.str "lotmeal.errors" 187) none (.ref 95) .none 0)) #[])) ::
 (nat_lit 97, (L2.oT #[(.str "asker" 300)])) ::
 (nat_lit 98, (Obj.mk (.type "dict") none (.dict #[(L2.dE P "__module__" 287 (.str "lotmeal.errors" 187)), (L2.dE P "__firstlineno__" 291 (.int 15 290)), (L2.dE P "__init__" 299 (.ref 96)), (L2.dE P "__static_attributes__" 301 (.ref 97)), (L2.dE P "__doc__" 302 .none)] 2) #[])) ::
 (nat_lit 99, (Obj.mk (.type "type") none (.cls (ClassData.mk "Twice" [(.ref 24)] [(.ref 99), (.ref 24), (.type "ValueError"), (.type "Exception"), (.type "BaseException"), (.type "object")] 98 "Twice" true [] [] false none false)) #[(some (.ref 83)), none, (some (.str "Twice" 280)), (some (.str "Twice" 288)), (some (.builtin "ValueError.__new__")), (some (.bool true))])) ::
 (nat_lit 102, (L2.oT #[(.ref 24)])) ::
 (nat_lit 109, L2.o0) ::
 (nat_lit 110, (Obj.mk (.type "dict") none (.dict #[(L2.dE P "__module__" 312 (.str "lotmeal.errors" 187)), (L2.dE P "__firstlineno__" 316 (.int 20 315)), (L2.dE P "__static_attributes__" 317 (.ref 109)), (L2.dE P "__doc__" 318 .none)] 2) #[])) ::
 (nat_lit 111, (Obj.mk (.type "type") none (.cls (ClassData.mk "NoTurns" [(.ref 24)] [(.ref 111), (.ref 24), (.type "ValueError"), (.type "Exception"), (.type "BaseException"), (.type "object")] 110 "NoTurns" true [] [] false none false)) #[(some (.ref 102)), none, (some (.str "NoTurns" 305)), (some (.str "NoTurns" 313)), (some (.builtin "ValueError.__new__")), (some (.bool true))])) ::
 (nat_lit 114, L2.o0) ::
 (nat_lit 116, (L2.oT #[(.str "number" 326)])) ::
 (nat_lit 117, L2.o0) ::
 (nat_lit 119, (L2.oD "is_whole" 323 23 1 114 115 (.ref 116) (.ref 117) 118 327)) ::
 (nat_lit 120, (L2.oF "is_whole" (tp 9) .none (.str "lotmeal.fractions" 321) (.ref 119))) ::
 (nat_lit 121, L2.o0) ::
 (nat_lit 123, (L2.oT #[(.str "one" 333), (.str "other" 334), (.str "rest" 335)])) ::
 (nat_lit 124, L2.o0) ::
 (nat_lit 126, (L2.oD "common_part" 330 25 2 121 122 (.ref 123) (.ref 124) 125 336)) ::
 (nat_lit 127, (L2.oF "common_part" (tp 10) .none (.str "lotmeal.fractions" 321) (.ref 126))) ::
 (nat_lit 128, (L2.oT #[(.int 1 339)])) ::
 (nat_lit 129, L2.o0) ::
 (nat_lit 131, (L2.oT #[(.str "top" 343), (.str "bottom" 344), (.str "part" 345)])) ::
 (nat_lit 132, L2.o0) ::
 (nat_lit 134, (L2.oD "fraction" 340 31 2 129 130 (.ref 131) (.ref 132) 133 346)) ::
 (nat_lit 135, (L2.oF "fraction" (tp 11) (.ref 128) (.str "lotmeal.fractions" 321) (.ref 134))) ::
 (nat_lit 136, L2.o0) ::
 (nat_lit 138, (L2.oT #[(.str "one" 352), (.str "other" 353)])) ::
 (nat_lit 139, L2.o0) ::
 (nat_lit 141, (L2.oD "plus" 349 40 2 136 137 (.ref 138) (.ref 139) 140 354)) ::
 (nat_lit 142, (L2.oF "plus" (tp 12) .none (.str "lotmeal.fractions" 321) (.ref 141))) ::
 (nat_lit 143, L2.o0) ::
 (nat_lit 145, (L2.oT #[(.str "one" 360), (.str "other" 361)])) ::
 (nat_lit 146, L2.o0) ::
 (nat_lit 148, (L2.oD "minus" 357 42 2 143 144 (.ref 145) (.ref 146) 147 362)) ::
 (nat_lit 149, (L2.oF "minus" (tp 13) .none (.str "lotmeal.fractions" 321) (.ref 148))) ::
 (nat_lit 150, L2.o0) ::
 (nat_lit 152, (L2.oT #[(.str "one" 368), (.str "other" 369)])) ::
 (nat_lit 153, L2.o0) ::
 (nat_lit 155, (L2.oD "times" 365 44 2 150 151 (.ref 152) (.ref 153) 154 370)) ::
 (nat_lit 156, (L2.oF "times" (tp 14) .none (.str "lotmeal.fractions" 321) (.ref 155))) ::
 (nat_lit 157, L2.o0) ::
 (nat_lit 159, (L2.oT #[(.str "one" 376), (.str "other" 377)])) ::
 (nat_lit 160, L2.o0) ::
 (nat_lit 162, (L2.oD "over" 373 46 2 157 158 (.ref 159) (.ref 160) 161 378)) ::
 (nat_lit 163, (L2.oF "over" (tp 15) .none (.str "lotmeal.fractions" 321) (.ref 162))) ::
 (nat_lit 164, L2.o0) ::
 (nat_lit 166, (L2.oT #[(.str "one" 384), (.str "other" 385)])) ::
 (nat_lit 167, L2.o0) ::
 (nat_lit 169, (L2.oD "under" 381 50 2 164 165 (.ref 166) (.ref 167) 168 386)) ::
 (nat_lit 170, (L2.oF "under" (tp 16) .none (.str "lotmeal.fractions" 321) (.ref 169))) ::
 (nat_lit 171, L2.o0) ::
 (nat_lit 173, (L2.oT #[(.str "some" 392), (.str "total" 393), (.str "one" 394)])) ::
 (nat_lit 174, L2.o0) ::
 (nat_lit 176, (L2.oD "sum_of" 389 52 1 171 172 (.ref 173) (.ref 174) 175 395)) ::
 (nat_lit 177, (L2.oF "sum_of" (tp 17) .none (.str "lotmeal.fractions" 321) (.ref 176))) ::
 (nat_lit 178, L2.o0) ::
 (nat_lit 180, (L2.oT #[(.str "some" 401), (.str "least" 402), (.str "one" 403)])) ::
 (nat_lit 181, L2.o0) ::
 (nat_lit 183, (L2.oD "least_of" 398 57 1 178 179 (.ref 180) (.ref 181) 182 404)) ::
 (nat_lit 184, (L2.oF "least_of" (tp 18) .none (.str "lotmeal.fractions" 321) (.ref 183))) ::
 (nat_lit 185, L2.o0) ::
 (nat_lit 188, (L2.oD "check_orders" 413 66 2 185 186 .none .none 187 416)) ::
 (nat_lit 189, (L2.oF "check_orders" (tp 22) .none (.str "lotmeal.tables" 407) (.ref 188))) ::
 (nat_lit 190, L2.o0) ::
 (nat_lit 193, (L2.oD "table_of" 419 73 2 190 191 .none .none 192 422)) ::
 (nat_lit 194, (L2.oF "table_of" (tp 23) .none (.str "lotmeal.tables" 407) (.ref 193))) ::
 (nat_lit 195, L2.o0) ::
 (nat_lit 198, (L2.oD "full_order" 425 82 2 195 196 .none .none 197 428)) ::
 (nat_lit 199, (L2.oF "full_order" (tp 24) .none (.str "lotmeal.tables" 407) (.ref 198))) ::
 (nat_lit 200, L2.o0) ::
 (nat_lit 203, (L2.oD "first_left" 431 86 2 200 201 .none .none 202 434)) ::
 (nat_lit 204, (L2.oF "first_left" (tp 25) .none (.str "lotmeal.tables" 407) (.ref 203))) ::
 (nat_lit 205, L2.o0) ::
 (nat_lit 208, (L2.oD "next_length" 439 89 3 205 206 .none .none 207 442)) ::
 (nat_lit 209, (L2.oF "next_length" (tp 27) .none (.str "lotmeal.meal" 437) (.ref 208))) ::
 (nat_lit 210, L2.o0) ::
 (nat_lit 213, (L2.oD "left_behind" 445 92 3 210 211 .none .none 212 448)) ::
 (nat_lit 214, (L2.oF "left_behind" (tp 28) .none (.str "lotmeal.meal" 437) (.ref 213))) ::
 (nat_lit 215, L2.o0) ::
 (nat_lit 218, (L2.oD "ended_things" 451 94 1 215 216 .none .none 217 454)) ::
 (nat_lit 219, (L2.oF "ended_things" (tp 29) .none (.str "lotmeal.meal" 437) (.ref 218))) ::
 (nat_lit 220, L2.o0) ::
 (nat_lit 223, (L2.oD "meal_steps" 457 96 1 220 221 .none .none 222 460)) ::
 (nat_lit 224, (L2.oF "meal_steps" (tp 30) .none (.str "lotmeal.meal" 437) (.ref 223))) ::
 (nat_lit 225, L2.o0) ::
 (nat_lit 228, (L2.oD "eaten_by" 463 109 3 225 226 .none .none 227 466)) ::
 (nat_lit 229, (L2.oF "eaten_by" (tp 31) .none (.str "lotmeal.meal" 437) (.ref 228))) ::
 (nat_lit 230, L2.o0) ::
 (nat_lit 233, (L2.oD "meal" 469 111 1 230 231 .none .none 232 472)) ::
 (nat_lit 234, (L2.oF "meal" (tp 32) .none (.str "lotmeal.meal" 437) (.ref 233))) ::
 (nat_lit 235, L2.o0) ::
 (nat_lit 237, (L2.oT #[(.str "table" 480), (.str "asker" 481), (.str "row" 482), (.str "told" 483), (.str "total" 484), (.str "one" 485)])) ::
 (nat_lit 238, L2.o0) ::
 (nat_lit 240, (L2.oD "sums" 477 117 3 235 236 (.ref 237) (.ref 238) 239 486)) ::
 (nat_lit 241, (L2.oF "sums" (tp 34) .none (.str "lotmeal.sums" 475) (.ref 240))) ::
 (nat_lit 242, L2.o0) ::
 (nat_lit 245, (L2.oD "as_good" 489 124 4 242 243 .none .none 244 492)) ::
 (nat_lit 246, (L2.oF "as_good" (tp 35) .none (.str "lotmeal.sums" 475) (.ref 245))) ::
 (nat_lit 247, L2.o0) ::
 (nat_lit 250, (L2.oD "weight_of" 497 129 3 247 248 .none .none 249 500)) ::
 (nat_lit 251, (L2.oF "weight_of" (tp 37) .none (.str "lotmeal.mixes" 495) (.ref 250))) ::
 (nat_lit 252, L2.o0) ::
 (nat_lit 255, (L2.oD "shares_of" 503 131 2 252 253 .none .none 254 506)) ::
 (nat_lit 256, (L2.oF "shares_of" (tp 38) .none (.str "lotmeal.mixes" 495) (.ref 255))) ::
 (nat_lit 257, L2.o0) ::
 (nat_lit 260, (L2.oD "deal_by" 513 136 2 257 258 .none .none 259 516)) ::
 (nat_lit 261, (L2.oF "deal_by" (tp 41) .none (.str "lotmeal.turns" 509) (.ref 260))) ::
 (nat_lit 262, L2.o0) ::
 (nat_lit 265, (L2.oD "longer" 519 145 2 262 263 .none .none 264 522)) ::
 (nat_lit 266, (L2.oF "longer" (tp 42) .none (.str "lotmeal.turns" 509) (.ref 265))) ::
 (nat_lit 267, L2.o0) ::
 (nat_lit 269, (L2.oT #[(.str "many" 528), (.str "told" 529), (.str "length" 530)])) ::
 (nat_lit 270, L2.o0) ::
 (nat_lit 272, (L2.oD "all_turns" 525 150 1 267 268 (.ref 269) (.ref 270) 271 531)) ::
 (nat_lit 273, (L2.oF "all_turns" (tp 43) .none (.str "lotmeal.turns" 509) (.ref 272))) ::
 (nat_lit 274, L2.o0) ::
 (nat_lit 277, (L2.oD "turn_mix" 534 157 1 274 275 .none .none 276 537)) ::
 (nat_lit 278, (L2.oF "turn_mix" (tp 44) .none (.str "lotmeal.turns" 509) (.ref 277))) ::
 (nat_lit 279, L2.o0) ::
 (nat_lit 281, (L2.oT #[(.str "table" 543)])) ::
 (nat_lit 282, L2.o0) ::
 (nat_lit 284, (L2.oD "turn_shares" 540 164 1 279 280 (.ref 281) (.ref 282) 283 544)) ::
 (nat_lit 285, (L2.oF "turn_shares" (tp 45) .none (.str "lotmeal.turns" 509) (.ref 284))) ::
 (nat_lit 286, L2.o0) ::
 (nat_lit 288, (L2.oT #[(.str "table" 554), (.str "asker" 555)])) ::
 (nat_lit 289, L2.o0) ::
 (nat_lit 291, (L2.oD "check_asker" 551 168 2 286 287 (.ref 288) (.ref 289) 290 556)) ::
 (nat_lit 292, (L2.oF "check_asker" (tp 48) .none (.str "lotmeal.lies" 547) (.ref 291))) ::
 (nat_lit 293, L2.o0) ::
 (nat_lit 295, (L2.oT #[(.str "table" 562), (.str "asker" 563), (.str "order" 564), (.str "orders" 565)])) ::
 (nat_lit 296, L2.o0) ::
 (nat_lit 298, (L2.oD "told_otherwise" 559 171 3 293 294 (.ref 295) (.ref 296) 297 566)) ::
 (nat_lit 299, (L2.oF "told_otherwise" (tp 49) .none (.str "lotmeal.lies" 547) (.ref 298))) ::
 (nat_lit 300, L2.o0) ::
 (nat_lit 302, (L2.oT #[(.str "many" 572), (.str "told" 573), (.str "longest" 574), (.str "length" 575)])) ::
 (nat_lit 303, L2.o0) ::
 (nat_lit 305, (L2.oD "all_orders" 569 176 1 300 301 (.ref 302) (.ref 303) 304 576)) ::
 (nat_lit 306, (L2.oF "all_orders" (tp 50) .none (.str "lotmeal.lies" 547) (.ref 305))) ::
 (nat_lit 307, L2.o0) ::
 (nat_lit 309, (L2.oT #[(.str "table" 582), (.str "asker" 583), (.str "way" 584), (.str "shares" 585)])) ::
 (nat_lit 310, L2.o0) ::
 (nat_lit 312, (L2.oD "row_at" 579 185 3 307 308 (.ref 309) (.ref 310) 311 586)) ::
 (nat_lit 313, (L2.oF "row_at" (tp 51) .none (.str "lotmeal.lies" 547) (.ref 312))) ::
 (nat_lit 314, L2.o0) ::
 (nat_lit 316, (L2.oT #[(.str "table" 592), (.str "asker" 593), (.str "first" 594), (.str "new" 595)])) ::
 (nat_lit 317, L2.o0) ::
 (nat_lit 319, (L2.oD "word_for" 589 188 4 314 315 (.ref 316) (.ref 317) 318 596)) ::
 (nat_lit 320, (L2.oF "word_for" (tp 52) .none (.str "lotmeal.lies" 547) (.ref 319))) ::
 (nat_lit 321, (L2.oT #[(.str "meal" 599)])) ::
 (nat_lit 322, L2.o0) ::
 (nat_lit 324, (L2.oT #[(.str "table" 603), (.str "asker" 604), (.str "way" 605), (.str "orders" 606), (.str "first" 607), (.str "told" 608), (.str "order" 609), (.str "new" 610)])) ::
 (nat_lit 325, L2.o0) ::
 (nat_lit 327, (L2.oD "lies" 600 196 3 322 323 (.ref 324) (.ref 325) 326 611)) ::
 (nat_lit 328, (L2.oF "lies" (tp 53) (.ref 321) (.str "lotmeal.lies" 547) (.ref 327))) ::
 (nat_lit 329, L2.o0) ::
 (nat_lit 331, (L2.oT #[(.str "_law_script" 619), (.str "_law_k" 620)])) ::
 (nat_lit 332, L2.o0) ::
 (nat_lit 334, (L2.oD "_law_cell_at" 616 206 2 329 330 (.ref 331) (.ref 332) 333 621)) ::
 (nat_lit 335, (L2.oF "_law_cell_at" (tp 55) .none (.str "law_lotmeal_k48_lies_at_the_meal" 614) (.ref 334))) ::
 (nat_lit 336, L2.o0) ::
 (nat_lit 338, (L2.oT #[(.str "_law_cell" 627), (.str "_law_many" 628), (.str "_law_size" 629), (.str "_law_left" 630), (.str "_law_order_here" 631), (.str "_law_k" 632), (.str "_law_at" 633)])) ::
 (nat_lit 339, L2.o0) ::
 (nat_lit 341, (L2.oD "_law_order" 624 210 2 336 337 (.ref 338) (.ref 339) 340 634)) ::
 (nat_lit 342, (L2.oF "_law_order" (tp 56) .none (.str "law_lotmeal_k48_lies_at_the_meal" 614) (.ref 341))) ::
 (nat_lit 343, L2.o0) ::
 (nat_lit 346, (L2.oD "_law_table" 637 220 4 343 344 .none .none 345 640)) ::
 (nat_lit 347, (L2.oF "_law_table" (tp 57) .none (.str "law_lotmeal_k48_lies_at_the_meal" 614) (.ref 346))) ::
 (nat_lit 348, L2.o0) ::
 (nat_lit 351, (L2.oD "_law_full" 643 231 2 348 349 .none .none 350 646)) ::
 (nat_lit 352, (L2.oF "_law_full" (tp 58) .none (.str "law_lotmeal_k48_lies_at_the_meal" 614) (.ref 351))) ::
 (nat_lit 353, L2.o0) ::
 (nat_lit 355, (L2.oT #[(.str "_law_table_here" 652), (.str "_law_asker" 653), (.str "_law_row" 654), (.str "_law_found" 655), (.str "_law_top" 656), (.str "_law_bottom" 657), (.str "_law_number" 658), (.str "_law_one" 659)])) ::
 (nat_lit 356, L2.o0) ::
 (nat_lit 358, (L2.oD "_law_sums" 649 235 3 353 354 (.ref 355) (.ref 356) 357 660)) ::
 (nat_lit 359, (L2.oF "_law_sums" (tp 59) .none (.str "law_lotmeal_k48_lies_at_the_meal" 614) (.ref 358))) ::
 (nat_lit 360, L2.o0) ::
 (nat_lit 363, (L2.oD "_law_no_less" 663 245 2 360 361 .none .none 362 666)) ::
 (nat_lit 364, (L2.oF "_law_no_less" (tp 60) .none (.str "law_lotmeal_k48_lies_at_the_meal" 614) (.ref 363))) ::
 (nat_lit 365, L2.o0) ::
 (nat_lit 367, (L2.oT #[(.str "_law_table_here" 672), (.str "_law_asker" 673), (.str "_law_first" 674), (.str "_law_other" 675), (.str "_law_some" 676), (.str "_law_others" 677)])) ::
 (nat_lit 368, L2.o0) ::
 (nat_lit 370, (L2.oD "_law_word" 669 247 4 365 366 (.ref 367) (.ref 368) 369 678)) ::
 (nat_lit 371, (L2.oF "_law_word" (tp 61) .none (.str "law_lotmeal_k48_lies_at_the_meal" 614) (.ref 370))) ::
 (nat_lit 372, L2.o0) ::
 (nat_lit 375, (L2.oD "_law_lists" 681 255 1 372 373 .none .none 374 684)) ::
 (nat_lit 376, (L2.oF "_law_lists" (tp 62) .none (.str "law_lotmeal_k48_lies_at_the_meal" 614) (.ref 375))) ::
 (nat_lit 377, L2.o0) ::
 (nat_lit 380, (L2.oD "_law_due" 687 265 2 377 378 .none .none 379 690)) ::
 (nat_lit 381, (L2.oF "_law_due" (tp 63) .none (.str "law_lotmeal_k48_lies_at_the_meal" 614) (.ref 380))) ::
 (nat_lit 382, L2.o0) ::
 (nat_lit 384, (L2.oT #[(.str "_law_told" 696), (.str "_law_row" 697)])) ::
 (nat_lit 385, L2.o0) ::
 (nat_lit 387, (L2.oD "_law_shaped" 693 274 1 382 383 (.ref 384) (.ref 385) 386 698)) ::
 (nat_lit 388, (L2.oF "_law_shaped" (tp 64) .none (.str "law_lotmeal_k48_lies_at_the_meal" 614) (.ref 387))) ::
 (nat_lit 389, L2.o0) ::
 (nat_lit 392, (L2.oD "law" 701 281 1 389 390 .none .none 391 704)) ::
 (nat_lit 393, (L2.oF "law" (tp 65) .none (.str "law_lotmeal_k48_lies_at_the_meal" 614) (.ref 392))) :: []
def hA : List Addr := [2, 3, 15, 22, 23, 24, 25, 28, 35, 36, 37, 40, 47, 48, 49, 52, 59, 60, 61, 64, 71, 73, 74, 76, 77, 78, 79, 80, 83, 90, 92, 93, 95, 96, 97, 98, 99, 102, 109, 110, 111, 114, 116, 117, 119, 120, 121, 123, 124, 126, 127, 128, 129, 131, 132, 134, 135, 136, 138, 139, 141, 142, 143, 145, 146, 148, 149, 150, 152, 153, 155, 156, 157, 159, 160, 162, 163, 164, 166, 167, 169, 170, 171, 173, 174, 176, 177, 178, 180, 181, 183, 184, 185, 188, 189, 190, 193, 194, 195, 198, 199, 200, 203, 204, 205, 208, 209, 210, 213, 214, 215, 218, 219, 220, 223, 224, 225, 228, 229, 230, 233, 234, 235, 237, 238, 240, 241, 242, 245, 246, 247, 250, 251, 252, 255, 256, 257, 260, 261, 262, 265, 266, 267, 269, 270, 272, 273, 274, 277, 278, 279, 281, 282, 284, 285, 286, 288, 289, 291, 292, 293, 295, 296, 298, 299, 300, 302, 303, 305, 306, 307, 309, 310, 312, 313, 314, 316, 317, 319, 320, 321, 322, 324, 325, 327, 328, 329, 331, 332, 334, 335, 336, 338, 339, 341, 342, 343, 346, 347, 348, 351, 352, 353, 355, 356, 358, 359, 360, 363, 364, 365, 367, 368, 370, 371, 372, 375, 376, 377, 380, 381, 382, 384, 385, 387, 388, 389, 392, 393]
theorem hA_eq (P : Params) : hA = (hK P).map (·.1) := by kernel_rfl
def hV : Program := { pr with main := { pr.main with body := [1, 2, 3, 4, 5, 6, 7, 9, 10, 12, 13, 14, 15, 16, 17, 18, 20, 21, 22, 23, 24, 25, 27, 28, 29, 30, 31, 32, 34, 35, 37, 38, 40, 41, 42, 43, 44, 45, 47, 48, 49, 50, 51, 52, 55, 56, 57, 58, 59, 60, 61, 62, 63, 64, 65].map tp } }
def hX (s : Shared) : Bool := xlAt hV [] s && recOk (RowW.records PySem.Challenge.rw_lotmeal_k48_lies_at_the_meal.row.toRowW) s
noncomputable abbrev hH : Hook := kHook hK hA hA_eq
theorem h1 : opening pr = plainProg pr.main.scope.names := by kernel_rfl
theorem h2 (s : Shared) : fenceModules? pr s = some s := by kernel_rfl
theorem h3 (w : World) : (fun os => (L2.bootRun pr w 6080 os).map fun st => L2.bootOk pr w st) = fun _ => some true := by kernel_rfl
theorem h4 (w : World) : (fun os => (L2.bootRun pr w 6080 os).map fun st => openSeen hV ["fraction", "lies"] (importedModules pr.main.body) hX true st.abs) = fun _ => some (openGood hV ["fraction", "lies"]) := by kernel_rfl
theorem h5 (w : World) : (fun os => (L2.bootRun pr w 6080 os).map fun st => hH.obs st.abs) = fun _ => some (hH.val w) := by kernel_rfl
theorem hL : LeftO pr hV ["fraction", "lies"] hX hH.obs hH.val 6080 := L2.left_boot h1 (by decide) h2 h3 h4 h5
end H48
namespace L2
open PySem PySem.Spec PyProof.Rows
abbrev Key := Sum Int Str
def keyIs : Key → Value → Bool
  | .inl k, v => Value.isInt k v
  | .inr x, v => Value.isStrOf x v
def keyH (w : World) : Key → Int
  | .inl k => hashInt k
  | .inr x => hashStr w x
theorem keyIs_shape : ∀ {k : Key} {v : Value}, keyIs k v = true → (∃ i t, k = Sum.inl i ∧ v = Value.int i t) ∨ (∃ x t, k = Sum.inr x ∧ v = Value.str x t)
  | .inl i, v, h => by
    obtain ⟨t, e⟩ := Value.isInt_shape (k := i) (v := v) h
    exact .inl ⟨i, t, rfl, e⟩
  | .inr x, v, h => by
    obtain ⟨t, e⟩ := Value.isStrOf_shape (x := x) (v := v) h
    exact .inr ⟨x, t, rfl, e⟩
theorem key_ll (a b : Int) : decide ((Sum.inl a : Key) = Sum.inl b) = (a == b) := by
  by_cases e : a = b
  · subst e; simp
  · have h : ¬ (Sum.inl a : Key) = Sum.inl b := fun q => e (Sum.inl.inj q)
    rw [decide_eq_false h]
    exact (beq_eq_false_iff_ne.mpr e).symm
theorem key_rr (a b : Str) : decide ((Sum.inr a : Key) = Sum.inr b) = decide (a = b) := by
  by_cases e : a = b
  · subst e; simp
  · have h : ¬ (Sum.inr a : Key) = Sum.inr b := fun q => e (Sum.inr.inj q)
    rw [decide_eq_false h, decide_eq_false e]
theorem key_lr (a : Int) (b : Str) : decide ((Sum.inl a : Key) = Sum.inr b) = false := decide_eq_false (fun q => nomatch q)
theorem key_rl (a : Str) (b : Int) : decide ((Sum.inr a : Key) = Sum.inl b) = false := decide_eq_false (fun q => nomatch q)
def mixKind (prog : Program) (w : World) : PySem.KeyKind prog w Key where
  is := keyIs
  hash := keyH w
  inj := fun v a b ha hb => by
    rcases keyIs_shape ha with ⟨i, t, rfl, rfl⟩ | ⟨x, t, rfl, rfl⟩
    · rcases keyIs_shape hb with ⟨j, u, rfl, e⟩ | ⟨y, u, rfl, e⟩
      · injection e with e1 _; rw [e1]
      · exact nomatch e
    · rcases keyIs_shape hb with ⟨j, u, rfl, e⟩ | ⟨y, u, rfl, e⟩
      · exact nomatch e
      · injection e with e1 _; rw [e1]
  byValue := fun k v h => by
    rcases keyIs_shape h with ⟨i, t, rfl, rfl⟩ | ⟨x, t, rfl, rfl⟩ <;> rfl
  pyHash := fun hv h => by
    rcases keyIs_shape hv with ⟨i, t, rfl, rfl⟩ | ⟨x, t, rfl, rfl⟩
    · exact wpAny_pyHash_int h
    · exact wpAny_pyHash_str h
  eqBool := fun hu hv h => by
    rcases keyIs_shape hu with ⟨i, t, rfl, rfl⟩ | ⟨x, t, rfl, rfl⟩
    · rcases keyIs_shape hv with ⟨j, u, rfl, rfl⟩ | ⟨y, u, rfl, rfl⟩
      · rw [key_ll] at h; exact wpAny_eqBool_int h
      · rw [key_lr] at h; exact SeqAt.EqAt.int_str i t y u _ _ _ _ h
    · rcases keyIs_shape hv with ⟨j, u, rfl, rfl⟩ | ⟨y, u, rfl, rfl⟩
      · rw [key_rl] at h; exact SeqAt.EqAt.str_int x t j u _ _ _ _ h
      · rw [key_rr] at h; exact wpAny_eqBool_str h
  «strs» := fun k x t v h => by
    rcases keyIs_shape h with ⟨i, u, rfl, e⟩ | ⟨y, u, rfl, e⟩
    · exact nomatch e
    · injection e with e1 _
      subst e1
      cases v <;> rfl
end L2
namespace L2
open PySem PySem.Spec PyProof.Rows
inductive V where
  | non | bl (b : Bool) | int (i : Int) | str (x : Str) | byt (b : Array UInt8) | flt (b : UInt64) | ref (a : Addr) | ty (n : String)
  deriving DecidableEq
def RelV : V → Value → Prop
  | .non, u => u = Value.none
  | .bl b, u => u = Value.bool b
  | .int i, u => ∃ t, u = Value.int i t
  | .str x, u => ∃ t, u = Value.str x t
  | .byt b, u => ∃ t, u = Value.bytes b t
  | .flt b, u => ∃ t, u = Value.float b t
  | .ref a, u => u = Value.ref a
  | .ty n, u => u = Value.type n
abbrev Vals : List V → List Value → Prop := Paired RelV
theorem Vals.length {xs : List V} {us : List Value} (r : Vals xs us) : xs.length = us.length := Paired.length r
theorem Vals.get : ∀ {xs : List V} {us : List Value} {i : Nat} {x : V}, Vals xs us → xs[i]? = some x → ∃ u, us[i]? = some u ∧ RelV x u
  | _, _, _, _, .nil, e => by simp at e
  | _, _, 0, _, .cons r _, e => by simp at e; subst e; exact ⟨_, rfl, r⟩
  | _, _, i + 1, x, .cons _ t, e => by
    obtain ⟨u, h1, h2⟩ := Vals.get (i := i) (x := x) t (by simpa using e)
    exact ⟨u, by simpa using h1, h2⟩
theorem Vals.set {x : V} {u : Value} (r : RelV x u) : ∀ {xs : List V} {us : List Value} (i : Nat), Vals xs us → Vals (xs.set i x) (us.set i u)
  | _, _, _, .nil => .nil
  | _, _, 0, .cons _ t => .cons r t
  | _, _, i + 1, .cons q t => .cons q (Vals.set r i t)
theorem Vals.append : ∀ {xs ys : List V} {us ws : List Value}, Vals xs us → Vals ys ws → Vals (xs ++ ys) (us ++ ws)
  | _, _, _, _, .nil, s => s
  | _, _, _, _, .cons r t, s => .cons r (Vals.append t s)
theorem Vals.take : ∀ {xs : List V} {us : List Value} (n : Nat), Vals xs us → Vals (xs.take n) (us.take n)
  | _, _, 0, _ => .nil
  | _, _, _ + 1, .nil => .nil
  | _, _, n + 1, .cons r t => .cons r (Vals.take n t)
theorem Vals.drop : ∀ {xs : List V} {us : List Value} (n : Nat), Vals xs us → Vals (xs.drop n) (us.drop n)
  | _, _, 0, r => r
  | _, _, _ + 1, .nil => .nil
  | _, _, n + 1, .cons _ t => Vals.drop n t
def RelO : Option V → Option Value → Prop
  | some v, some u => RelV v u
  | none, none => True
  | _, _ => False
def KV {κ : Type} : List (κ × V) → List (κ × Value) → Prop := Paired fun (p : κ × V) (q : κ × Value) => p.1 = q.1 ∧ RelV p.2 q.2
def kV : Key → V
  | .inl i => .int i
  | .inr x => .str x
inductive HO where
  | lst (xs : List V)
  | tup (xs : List V)
  | dK (kvs : List (Key × V)) | dT (kvs : List (List Key × V))
  | set (S : Int → Bool) (n : Nat)
  | ins (C dx : Addr) (fs : List (Str × V))
  | own (x : Addr)
  | xd (fs : List (Str × V))
  | met (f x : Addr)
  | rng (lo hi : Int)
  | frz (o : Obj) (u : HO)
  | tbl (ps : Array Value)
  | ext (φ : Heap → Prop)
abbrev Hp := Addr → Option HO
def upd (H : Hp) (a : Addr) (o : HO) : Hp := fun b => if b = a then some o else H b
theorem upd_same {H : Hp} {a : Addr} {o : HO} : upd H a o a = some o := by unfold upd; rw [if_pos rfl]
theorem upd_ne {H : Hp} {a b : Addr} {o : HO} (h : b ≠ a) : upd H a o b = H b := by unfold upd; rw [if_neg h]
theorem ne_of_none {H : Hp} {a b : Addr} {o : HO} (h : H a = some o) (h' : H b = none) : a ≠ b := by
  intro e; subst e; rw [h] at h'; cases h'
section
variable (P : Program) (w : World)
def ObjOk (H : Hp) (h : Heap) (a : Addr) : HO → Prop
  | .lst xs => xs.length ≤ sizeLine ∧ ∃ (its : List Value) (n : Nat), Vals xs its ∧ h.get? a = some { cls := .type "list", data := .seq its.toArray n }
  | .tup xs => xs.length ≤ sizeLine ∧ ∃ its : List Value, Vals xs its ∧ IsTup h a its.toArray
  | .dK kvs => kvs.length ≤ sizeLine ∧ (a == sysModules) = false ∧ ∃ vs, KV kvs vs ∧ h.DictOf (mixKind P w) a vs
  | .dT kvs => kvs.length ≤ sizeLine ∧ (a == sysModules) = false ∧ ∃ xs : List (List Key × Addr × Value),
      Paired (fun (p : List Key × V) (q : List Key × Addr × Value) => p.1 = q.1 ∧ H q.2.1 = some (.tup (p.1.map kV)) ∧ RelV p.2 q.2.2) kvs xs ∧
      ∃ o es ep, h.get? a = some o ∧ o.ExactDict ∧ o.data = .dict es ep ∧ es.toList = xs.map (entryOfKey (tupleKind (mixKind P w))) ∧ (xs.map (·.1)).Nodup
  | .set S n => h.SetOf (intKind P w) a S n
  | .ins C dx fs => H dx = some (.own a) ∧ fs.length ≤ 1000 ∧ dx ≠ a ∧ h.get? a = some (PySem.W.instObj C dx) ∧
      ∃ mA, h.Ns1 dx mA ∧ (∀ f, RelO (fs.lookup f) (mA f)) ∧ PySem.Within mA (fs.map (·.1))
  | .own _ => ∃ o, h.get? a = some o
  | .xd fs => ∃ mA, h.Ns1 a mA ∧ ∀ f, RelO (fs.lookup f) (mA f)
  | .rng lo hi => ∃ t u v, h.get? a = some { cls := .type "range", data := .fields #[.int lo t, .int hi u, .int 1 v] }
  | .frz o u => h.get? a = some o ∧ ObjOk H h a u
  | .tbl ps => h.get? a = some { cls := .none, data := .fields ps }
  | .met f x => h.get? a = some (PySem.W.methodObj (.ref f) (.ref x))
  | .ext φ => φ h ∧ (∃ o, h.get? a = some o) ∧ ∀ h1 h2 : Heap, φ h1 → (∀ o, h1.get? a = some o → h2.get? a = some o) → φ h2
def HOk (H : Hp) (h : Heap) : Prop := ∀ a o, H a = some o → ObjOk P w H h a o
end
section
variable {P : Program} {w : World} {H H' : Hp} {h h' : Heap} {a : Addr} {o : HO}
theorem ObjOk.lt (x : ObjOk P w H h a o) : a < h.objs.size := by
  cases o with
  | lst xs => obtain ⟨_, _, _, _, e⟩ := x; exact Heap.lt_size e
  | tup xs => obtain ⟨_, _, _, p⟩ := x; exact p.lt
  | dK kvs => obtain ⟨_, _, _, _, o, _, _, e, _⟩ := x; exact Heap.lt_size e
  | dT kvs => obtain ⟨_, _, _, _, o, _, _, e, _⟩ := x; exact Heap.lt_size e
  | set S n => obtain ⟨o, _, _, _, e, _⟩ := x; exact Heap.lt_size e
  | ins C dx fs => obtain ⟨_, _, _, e, _⟩ := x; exact Heap.lt_size e
  | own y => obtain ⟨_, e⟩ := x; exact Heap.lt_size e
  | xd fs => obtain ⟨_, ⟨_, _, _, e, _⟩, _⟩ := x; exact Heap.lt_size e
  | rng lo hi => obtain ⟨_, _, _, e⟩ := x; exact Heap.lt_size e
  | frz ob u => obtain ⟨e, _⟩ := x; exact Heap.lt_size e
  | tbl ps => exact Heap.lt_size (show h.get? a = some _ from x)
  | met f y => exact Heap.lt_size (show h.get? a = some _ from x)
  | ext φ => obtain ⟨_, ⟨_, e⟩, _⟩ := x; exact Heap.lt_size e
theorem Paired.mapP {α β : Type} {F G : α → β → Prop} : ∀ {l₁ : List α} {l₂ : List β}, Paired F l₁ l₂ → (∀ a b, F a b → G a b) → Paired G l₁ l₂
  | _, _, .nil, _ => .nil
  | _, _, .cons r t, f => .cons (f _ _ r) (Paired.mapP t f)
theorem ObjOk.stay (x : ObjOk P w H h a o) (k : ∀ b u, (b = a ∨ H b = some (.own a)) → h.get? b = some u → h'.get? b = some u)
    (ho : ∀ b, H b = some (.own a) → H' b = some (.own a)) (ht : ∀ b xs, H b = some (.tup xs) → H' b = some (.tup xs)) : ObjOk P w H' h' a o := by
  induction o with
  | lst xs => obtain ⟨z, its, n, r, e⟩ := x; exact ⟨z, its, n, r, k _ _ (.inl rfl) e⟩
  | tup xs => obtain ⟨z, its, r, ob, e, c⟩ := x; exact ⟨z, its, r, ob, k _ _ (.inl rfl) e, c⟩
  | dK kvs => obtain ⟨z, y, vs, r, ob, es, ep, e, c⟩ := x; exact ⟨z, y, vs, r, ob, es, ep, k _ _ (.inl rfl) e, c⟩
  | dT kvs =>
    obtain ⟨z, y, xs, r, ob, es, ep, e, c⟩ := x
    exact ⟨z, y, xs, Paired.mapP r fun p q z => ⟨z.1, ht _ _ z.2.1, z.2.2⟩, ob, es, ep, k _ _ (.inl rfl) e, c⟩
  | set S n => obtain ⟨ob, es, ep, t, e, c⟩ := x; exact ⟨ob, es, ep, t, k _ _ (.inl rfl) e, c⟩
  | ins C dx fs =>
    obtain ⟨d, z, ne, e, mA, ⟨od, es, ep, e2, c⟩, r⟩ := x
    exact ⟨ho _ d, z, ne, k _ _ (.inl rfl) e, mA, ⟨od, es, ep, k _ _ (.inr d) e2, c⟩, r⟩
  | own y => obtain ⟨ob, e⟩ := x; exact ⟨ob, k _ _ (.inl rfl) e⟩
  | xd fs => obtain ⟨mA, ⟨od, es, ep, e, c⟩, r⟩ := x; exact ⟨mA, ⟨od, es, ep, k _ _ (.inl rfl) e, c⟩, r⟩
  | rng lo hi => obtain ⟨t, u, v, e⟩ := x; exact ⟨t, u, v, k _ _ (.inl rfl) e⟩
  | frz ob u ih => obtain ⟨e, q⟩ := x; exact ⟨k _ _ (.inl rfl) e, ih q⟩
  | tbl ps =>
    have e : h.get? a = some { cls := .none, data := .fields ps } := x
    show h'.get? a = some { cls := .none, data := .fields ps }
    exact k a _ (.inl rfl) e
  | met f y =>
    have e : h.get? a = some (PySem.W.methodObj (.ref f) (.ref y)) := x
    show h'.get? a = some (PySem.W.methodObj (.ref f) (.ref y))
    exact k a _ (.inl rfl) e
  | ext φ => obtain ⟨p, ⟨o, e⟩, st⟩ := x; exact ⟨st _ _ p fun o q => k _ _ (.inl rfl) q, ⟨o, k _ _ (.inl rfl) e⟩, st⟩
theorem HOk.lt (x : HOk P w H h) (e : H a = some o) : a < h.objs.size := (x a o e).lt
theorem HOk.fresh (x : HOk P w H h) (e : h.objs.size ≤ a) : H a = none := by
  cases q : H a with
  | none => rfl
  | some u => exact absurd (Nat.lt_of_lt_of_le (x.lt q) e) (Nat.lt_irrefl _)
theorem HOk.kept (x : HOk P w H h) (k : ∀ b u, h.get? b = some u → h'.get? b = some u) : HOk P w H h' := fun a o e =>
  (x a o e).stay (fun b u _ q => k b u q) (fun _ q => q) fun _ _ q => q
theorem HOk.laid (x : HOk P w H h) (k : ∀ b u, h.get? b = some u → h'.get? b = some u) (hp : h.objs.size ≤ a) (new : ObjOk P w (upd H a o) h' a o) : HOk P w (upd H a o) h' := fun b u e => by
  have hn := x.fresh hp
  by_cases hb : b = a
  · subst hb; rw [upd_same] at e; cases e; exact new
  · rw [upd_ne hb] at e
    exact (x b u e).stay (fun c v _ q => k c v q) (fun c q => by rw [upd_ne (ne_of_none q hn)]; exact q) fun c xs q => by rw [upd_ne (ne_of_none q hn)]; exact q
end
def Rd (H : Hp) (a : Addr) (u : HO) : Prop := H a = some u ∨ ∃ o, H a = some (.frz o u)
theorem Rd.ok {P : Program} {w : World} {H : Hp} {h : Heap} {a : Addr} {u : HO} (r : Rd H a u) (x : HOk P w H h) : ObjOk P w H h a u := by
  rcases r with r | ⟨o, r⟩
  · exact x a u r
  · obtain ⟨_, q⟩ := x a _ r
    exact q
def Mut : Option HO → Prop
  | some (.lst _) => True
  | some (.dK _) => True
  | some (.dT _) => True
  | some (.set _ _) => True
  | some (.ins _ _ _) => True
  | some (.ext _) => True
  | _ => False
section
variable {P : Program} {w : World} {H : Hp} {h h' : Heap} {x e : Addr} {o' : HO}
theorem HOk.write (ok : HOk P w H h) (mu : Mut (H x)) (he : e = x ∨ H e = some (.own x)) (k : ∀ b u, b ≠ e → h.get? b = some u → h'.get? b = some u) (heo : ∃ u, h'.get? e = some u)
    (new : ObjOk P w (upd H x o') h' x o') : HOk P w (upd H x o') h' := fun b u q => by
  have nown : ∀ c y, H c = some (.own y) → c ≠ x := fun c y r z => by subst z; rw [r] at mu; exact mu
  have ntup : ∀ c xs, H c = some (.tup xs) → c ≠ x := fun c xs r z => by subst z; rw [r] at mu; exact mu
  by_cases hb : b = x
  · subst hb; rw [upd_same] at q; cases q; exact new
  · rw [upd_ne hb] at q
    by_cases hbe : b = e
    · have q' : H b = some (.own x) := by
        rcases he with z | z
        · exact absurd (hbe.trans z) hb
        · rw [hbe]; exact z
      rw [q] at q'; cases q'
      obtain ⟨v, hv⟩ := heo
      exact ⟨v, by rw [hbe]; exact hv⟩
    · refine (ok b u q).stay (fun c v hc r => k c v ?_ r) (fun c r => by rw [upd_ne (nown c b r)]; exact r) fun c xs r => by rw [upd_ne (ntup c xs r)]; exact r
      rcases hc with rfl | hc
      · exact hbe
      · rintro rfl
        rcases he with z | z
        · exact nown c b hc z
        · rw [hc] at z; cases z; exact hb rfl
end
structure Un (fs ex : List Addr) (H H' : Hp) (h h' : Heap) : Prop where
  keep : ∀ b o, h.get? b = some o → H b = none → b ∉ fs → b ∉ ex → h'.get? b = some o
  slot : ∀ b o, h.get? b = some o → H b = none → b ∈ fs → b ∉ ex → ∃ sl, h'.get? b = some { o with slots := sl }
  free : ∀ b o, h.get? b = some o → H b = none → b ∉ ex → H' b = none
  there : ∀ b o, h.get? b = some o → b ∉ ex → ∃ o', h'.get? b = some o'
  tups : ∀ b xs, H b = some (.tup xs) → H' b = some (.tup xs)
  frzs : ∀ b o u, H b = some (.frz o u) → H' b = some (.frz o u)
  tbls : ∀ b ps, H b = some (.tbl ps) → ∃ more, H' b = some (.tbl (ps ++ more))
section
variable {fs fs' ex ex' : List Addr} {H H1 H2 : Hp} {h h1 h2 h' : Heap} {a x e : Addr} {o : HO}
theorem Un.any (u : Un fs ex H H1 h h1) {b : Addr} {ob : Obj} (q : h.get? b = some ob) (n : H b = none) (hx : b ∉ ex) : ∃ sl, h1.get? b = some { ob with slots := sl } := by
  by_cases hb : b ∈ fs
  · exact u.slot b ob q n hb hx
  · exact ⟨ob.slots, u.keep b ob q n hb hx⟩
theorem Un.kept (k : ∀ b u, h.get? b = some u → h'.get? b = some u) : Un fs ex H H h h' :=
  ⟨fun b ob q _ _ _ => k b ob q, fun b ob q _ _ _ => ⟨ob.slots, k b ob q⟩, fun _ _ _ n _ => n, fun b ob q _ => ⟨ob, k b ob q⟩, fun _ _ q => q, fun _ _ _ q => q, fun _ ps q => ⟨#[], by rw [q]; simp⟩⟩
theorem Un.refl : Un fs ex H H h h := Un.kept fun _ _ q => q
theorem Un.laid (k : ∀ b u, h.get? b = some u → h'.get? b = some u) (hp : h.objs.size ≤ a) (hn : H a = none) : Un fs ex H (upd H a o) h h' where
  keep := fun b u q _ _ _ => k b u q
  slot := fun b u q _ _ _ => ⟨u.slots, k b u q⟩
  free := fun b u q n _ => by rw [upd_ne (Nat.ne_of_lt (Nat.lt_of_lt_of_le (Heap.lt_size q) hp))]; exact n
  there := fun b u q _ => ⟨u, k b u q⟩
  tups := fun b xs q => by rw [upd_ne (ne_of_none q hn)]; exact q
  frzs := fun b u xs q => by rw [upd_ne (ne_of_none q hn)]; exact q
  tbls := fun b ps q => ⟨#[], by rw [upd_ne (ne_of_none q hn), q]; simp⟩
theorem Un.write (mu : Mut (H x)) (he : e = x ∨ H e = some (.own x)) (k : ∀ b u, b ≠ e → h.get? b = some u → h'.get? b = some u) (heo : ∃ u, h'.get? e = some u) : Un fs ex H (upd H x o) h h' := by
  have hx : ∀ b, H b = none → b ≠ x := fun b n z => by subst z; rw [n] at mu; exact mu
  have hb : ∀ b, H b = none → b ≠ e := fun b n z => by
    subst z
    rcases he with r | r
    · exact hx b n r
    · rw [n] at r; cases r
  have hm : ∀ b u, H b = some u → ¬ Mut (some u) → b ≠ x := fun b u q nm z => by subst z; rw [q] at mu; exact nm mu
  refine ⟨fun b u q n _ _ => k b u (hb b n) q, fun b u q n _ _ => ⟨u.slots, k b u (hb b n) q⟩, fun b u q n _ => by rw [upd_ne (hx b n)]; exact n, fun b u q _ => ?_,
    fun b xs q => by rw [upd_ne (hm b _ q fun z => z)]; exact q, fun b u xs q => by rw [upd_ne (hm b _ q fun z => z)]; exact q, fun b ps q => ⟨#[], by rw [upd_ne (hm b _ q fun z => z), q]; simp⟩⟩
  by_cases hbe : b = e
  · subst hbe; exact heo
  · exact ⟨u, k b u hbe q⟩
end
def trk (h : Heap) (H : Hp) : List Addr := (List.range h.objs.size).filter fun a => (H a).isSome
def hidT (h : Heap) (H : Hp) : Heap := PySem.W.hideAll h (trk h H)
theorem hidT_size (h : Heap) (H : Hp) : (hidT h H).objs.size = h.objs.size := PySem.W.hideAll_size _ _
theorem hidT_get {h : Heap} {H : Hp} {b : Addr} {o : Obj} (e : h.get? b = some o) (n : H b = none) : (hidT h H).get? b = some o :=
  PySem.W.hideAll_get _ e fun hm => by
    have q : (H b).isSome = true := (List.mem_filter.mp hm).2
    rw [n] at q; simp at q
theorem of_hidT {h : Heap} {H : Hp} {b : Addr} {o : Obj} (e : (hidT h H).get? b = some o) : h.get? b = some o ∧ H b = none := by
  have e' : h.get? b = some o := PySem.W.of_hideAll (trk h H) e
  refine ⟨e', ?_⟩
  cases q : H b with
  | none => rfl
  | some x =>
    have hm : b ∈ trk h H := List.mem_filter.mpr ⟨List.mem_range.mpr (Heap.lt_size e'), by simp [q]⟩
    have z : (hidT h H).get? b = none := PySem.W.hideAll_none (trk h H) hm
    rw [z] at e; cases e
end L2
namespace L2
open PySem PySem.Spec PyProof.Rows
structure Mod (K : PySem.W.Frag) (mg : Str → Option Value) (base : Heap) : Prop where
  kin : K.In base
  glob : base.Ns mainGlobals mg
  blt : ∃ mb, base.Ns builtinsNs mb ∧ ∀ x : Str, x ≠ "__name__" → mb x = bootBuiltins x
  nolimit : base.NoLimit
structure Cx where
  prog : Program
  w : World
  K : PySem.W.Frag
  mg : Str → Option Value
  base : Heap
  A : Around
  N : List Str
  s₀ : Shared
  H₀ : Hp
  env : Env
  outer : List Env
  stack : List Env
  ex : List Addr
  fn : Str → Bool
  calm : Bool
  pn : List (Addr × Obj)
  xe : Value → Shared → Prop
def frs (l : List Env) : List Addr := l.filterMap (·.frame)
abbrev Cx.fs (X : Cx) : List Addr := frs X.outer
def Vis (sc : Scope) (x : Str) : Prop := sc.names.lookup x = some .local ∨ sc.names.lookup x = some .cell ∨ sc.names.lookup x = some .free
def Loc (sc : Scope) (x : Str) : Prop := sc.names.lookup x = some .local ∨ sc.names.lookup x = some .cell
def Look (env : Env) (h : Heap) (m : Str → Option Value) (x : Str) (u : Value) : Prop :=
  (env.kindOf x = some .local ∧ m x = some u) ∨ ((env.kindOf x = some .cell ∨ env.kindOf x = some .free) ∧ ∃ c, env.cells.lookup x = some c ∧ h.IsCell c (some u))
structure Cx.Ok (X : Cx) : Prop where
  mod : Mod X.K X.mg X.base
  kind : X.env.scope.kind = .function
  glob : X.env.globals = mainGlobals
  blt : X.env.builtins = builtinsNs
  above : X.s₀.heap.objs.size ≤ X.env.locals
  inj : ∀ x y c, X.env.cells.lookup x = some c → X.env.cells.lookup y = some c → x = y
  has : ∀ x, (X.env.kindOf x = some .cell ∨ X.env.kindOf x = some .free) → ∃ c, X.env.cells.lookup x = some c
  cab : ∀ x c, X.fn x = true → X.env.cells.lookup x = some c → X.s₀.heap.objs.size ≤ c
  hd : X.calm = true → X.A.handled = none
  frames : X.A.frames = some X.stack
  stk : X.stack = X.outer ∨ (X.stack = X.env :: X.outer ∧ X.env.frame = some X.env.locals)
  exf : ∀ b ∈ X.ex, b ≠ X.env.locals ∧ ∀ x c, X.env.cells.lookup x = some c → c ≠ b
  bs : ∀ b o, X.base.get? b = some o → X.s₀.heap.get? b = some o ∧ X.H₀ b = none
  bsz : X.base.objs.size ≤ X.s₀.heap.objs.size
  noex : ∀ b o, X.base.get? b = some o → b ∉ X.ex
  exfs : ∀ b ∈ X.ex, b ∉ X.fs
  funs : X.s₀.heap.FunFrames X.base X.outer
  frf : ∀ b ∈ X.fs, X.H₀ b = none
structure Inv (X : Cx) (pins : List (Addr × Obj)) (σ : List (Option V)) (H : Hp) (s : Shared) : Prop where
  ok : X.Ok
  os : s.os = X.s₀.os
  bare : AllBare s.gens
  base : Un X.fs X.ex X.H₀ H X.s₀.heap s.heap
  loc : ∃ m, s.heap.Ns X.env.locals m ∧ ∀ (i : Nat) (x : Str) (v : V), X.N[i]? = some x → σ[i]? = some (some v) → Vis X.env.scope x → ∃ u, RelV v u ∧ Look X.env s.heap m x u
  cell : ∀ x c, X.env.cells.lookup x = some c → ∃ v, s.heap.IsCell c v
  free : H X.env.locals = none
  freeC : ∀ x c, X.env.cells.lookup x = some c → H c = none
  pin : ∀ p ∈ X.pn ++ pins, s.heap.get? p.1 = some p.2 ∧ H p.1 = none ∧ p.1 ≠ X.env.locals ∧ p.1 ∉ X.fs ∧ ∀ v, p.2.data ≠ .cell v
  hok : HOk X.prog X.w H s.heap
  len : σ.length = X.N.length
section
variable {X : Cx} {pins : List (Addr × Obj)} {σ : List (Option V)} {H H' : Hp} {s : Shared} {h' : Heap}
theorem Cx.Ok.nofr (ok : X.Ok) {b : Addr} {o : Obj} (e : X.base.get? b = some o) : b ∉ X.fs := fun hb => by
  have := (ok.funs.mem hb).1
  rw [e] at this; cases this
theorem Inv.bs (I : Inv X pins σ H s) : ∀ b o, X.base.get? b = some o → s.heap.get? b = some o ∧ H b = none := fun b o e =>
  ⟨I.base.keep b o (I.ok.bs b o e).1 (I.ok.bs b o e).2 (I.ok.nofr e) (I.ok.noex b o e), I.base.free b o (I.ok.bs b o e).1 (I.ok.bs b o e).2 (I.ok.noex b o e)⟩
theorem Inv.bk (I : Inv X pins σ H s) : ∀ b o, X.base.get? b = some o → s.heap.get? b = some o := fun b o e => (I.bs b o e).1
theorem Inv.mod (I : Inv X pins σ H s) : Mod X.K X.mg X.base := I.ok.mod
theorem Inv.kIn (I : Inv X pins σ H s) : X.K.In s.heap := I.ok.mod.kin.keeps I.bk
theorem Inv.lt (I : Inv X pins σ H s) : X.env.locals < s.heap.objs.size := let ⟨_, hn, _⟩ := I.loc; hn.lt
theorem Inv.sz (I : Inv X pins σ H s) : X.s₀.heap.objs.size ≤ s.heap.objs.size := Nat.le_trans I.ok.above (Nat.le_of_lt I.lt)
theorem Inv.nofs (I : Inv X pins σ H s) {a : Addr} (h : s.heap.objs.size ≤ a) : a ∉ X.fs := fun hb => by
  obtain ⟨_, o, ho, _⟩ := I.ok.funs.mem hb
  exact absurd (Nat.lt_of_lt_of_le (Heap.lt_size ho) (Nat.le_trans I.sz h)) (Nat.lt_irrefl _)
theorem Inv.cne (I : Inv X pins σ H s) : ∀ x c, X.env.cells.lookup x = some c → c ≠ X.env.locals := fun x c e z => by
  obtain ⟨v, o, ho, hd⟩ := I.cell x c e
  obtain ⟨m, ⟨o', es, ep, ho', hd', _⟩, _⟩ := I.loc
  rw [z, ho'] at ho; cases ho; rw [hd'] at hd; cases hd
theorem Inv.funs (I : Inv X pins σ H s) : s.heap.FunFrames X.base X.outer := by
  have all : ∀ (l : List Env), (∀ b ∈ frs l, b ∈ X.fs) → X.s₀.heap.FunFrames X.base l → s.heap.FunFrames X.base l := by
    intro l
    induction l with
    | nil => intro _ _; trivial
    | cons env r ih =>
      intro hs hl
      obtain ⟨hk, ⟨L, o, hf, hn, ho, hd⟩, hr⟩ := hl
      have hL : L ∈ X.fs := hs L (by unfold frs; rw [List.filterMap_cons, hf]; exact List.mem_cons_self)
      obtain ⟨sl, e⟩ := I.base.slot L o ho (I.ok.frf L hL) hL fun z => I.ok.exfs L z hL
      exact ⟨hk, ⟨L, _, hf, hn, e, hd⟩, ih (fun b hb => hs b (by unfold frs; rw [List.filterMap_cons, hf]; exact List.mem_cons_of_mem _ hb)) hr⟩
  exact all X.outer (fun _ hb => hb) I.ok.funs
theorem Inv.stack (I : Inv X pins σ H s) : s.heap.FunFrames X.base X.stack := by
  rcases I.ok.stk with e | ⟨e, hf⟩
  · rw [e]; exact I.funs
  · rw [e]
    obtain ⟨m, hn, _⟩ := I.loc
    refine .cons (by rw [I.ok.kind]; decide) hf hn ?_ I.funs
    exact Heap.get?_none_of_le (Nat.le_trans I.ok.bsz I.ok.above)
theorem Inv.stkSub (I : Inv X pins σ H s) : ∀ b ∈ frs X.stack, b ∈ X.env.locals :: X.fs := fun b hb => by
  rcases I.ok.stk with e | ⟨e, hf⟩
  · rw [e] at hb; exact List.mem_cons_of_mem _ hb
  · rw [e] at hb
    unfold frs at hb
    rw [List.filterMap_cons, hf] at hb
    exact hb
theorem Inv.stkFree (I : Inv X pins σ H s) : ∀ b ∈ frs X.stack, H b = none := fun b hb => by
  rcases List.mem_cons.mp (I.stkSub b hb) with e | hb
  · rw [e]; exact I.free
  · obtain ⟨_, o, ho, _⟩ := I.ok.funs.mem hb
    exact I.base.free b o ho (I.ok.frf b hb) fun z => I.ok.exfs b z hb
theorem Inv.step {g' : Array GenState} {t' : Nat} {d' : Drawn} {ch : List Addr} (I : Inv X pins σ H s)
    (hch : ∀ b ∈ ch, (b ∈ X.ex ∨ X.s₀.heap.objs.size ≤ b) ∧ b ≠ X.env.locals ∧ (∀ x c, X.env.cells.lookup x = some c → c ≠ b) ∧ ∀ p ∈ X.pn ++ pins, p.1 ≠ b)
    (keep : ∀ b o, b ≠ X.env.locals → b ∉ X.fs → b ∉ ch → s.heap.get? b = some o → H b = none → h'.get? b = some o)
    (slot : ∀ b o, b ≠ X.env.locals → b ∈ X.fs → b ∉ ch → s.heap.get? b = some o → H b = none → ∃ sl, h'.get? b = some { o with slots := sl }) (free : ∀ b o, b ∉ ch → s.heap.get? b = some o → H b = none → H' b = none)
    (there : ∀ b o, b ∉ ch → s.heap.get? b = some o → ∃ o', h'.get? b = some o')
    (tups : ∀ b xs, H b = some (.tup xs) → H' b = some (.tup xs)) (frzs : ∀ b o u, H b = some (.frz o u) → H' b = some (.frz o u)) (tbls : ∀ b ps, H b = some (.tbl ps) → ∃ more, H' b = some (.tbl (ps ++ more)))
    (ns : ∀ m, s.heap.Ns X.env.locals m → h'.Ns X.env.locals m) (hok : HOk X.prog X.w H' h') (hg : AllBare g') :
    Inv X pins σ H' { s with heap := h', gens := g', drawn := d', toks := t' } := by
  have neL : ∀ b o, X.s₀.heap.get? b = some o → b ≠ X.env.locals := fun b o e => Nat.ne_of_lt (Nat.lt_of_lt_of_le (Heap.lt_size e) I.ok.above)
  have neC : ∀ b o, X.s₀.heap.get? b = some o → b ∉ X.ex → b ∉ ch := fun b o e hx hb => by
    rcases (hch b hb).1 with z | z
    · exact hx z
    · exact absurd (Nat.lt_of_lt_of_le (Heap.lt_size e) z) (Nat.lt_irrefl _)
  have cellK : ∀ x c, X.env.cells.lookup x = some c → ∀ v, s.heap.IsCell c v → h'.IsCell c v := fun x c e v ⟨o, ho, hd⟩ => by
    have nch : c ∉ ch := fun z => (hch c z).2.2.1 x c e rfl
    by_cases hc : c ∈ X.fs
    · obtain ⟨sl, q⟩ := slot c o (I.cne x c e) hc nch ho (I.freeC x c e)
      exact ⟨_, q, hd⟩
    · exact ⟨o, keep c o (I.cne x c e) hc nch ho (I.freeC x c e), hd⟩
  refine ⟨I.ok, I.os, hg, ⟨fun b o e n hb hx => ?_, fun b o e n hb hx => ?_, fun b o e n hx => ?_, fun b o e hx => ?_, fun b xs e => tups b xs (I.base.tups b xs e), fun b o xs e => frzs b o xs (I.base.frzs b o xs e), fun b ps e => ?_⟩, ?_, fun x c e => ?_, ?_, fun x c e => ?_, fun p hp => ?_, hok, I.len⟩
  · exact keep b o (neL b o e) hb (neC b o e hx) (I.base.keep b o e n hb hx) (I.base.free b o e n hx)
  · obtain ⟨sl, e1⟩ := I.base.slot b o e n hb hx
    obtain ⟨sl', e2⟩ := slot b _ (neL b o e) hb (neC b o e hx) e1 (I.base.free b o e n hx)
    exact ⟨sl', e2⟩
  · obtain ⟨o', e1⟩ := I.base.there b o e hx
    exact free b o' (neC b o e hx) e1 (I.base.free b o e n hx)
  · obtain ⟨o', e1⟩ := I.base.there b o e hx
    exact there b o' (neC b o e hx) e1
  · obtain ⟨m1, e1⟩ := I.base.tbls b ps e
    obtain ⟨m2, e2⟩ := tbls b _ e1
    exact ⟨m1 ++ m2, by rw [e2, Array.append_assoc]⟩
  · obtain ⟨m, hn, hl⟩ := I.loc
    refine ⟨m, ns m hn, fun i x v e1 e2 e3 => ?_⟩
    obtain ⟨u, r, l⟩ := hl i x v e1 e2 e3
    refine ⟨u, r, ?_⟩
    rcases l with l | ⟨k, c, e, z⟩
    · exact .inl l
    · exact .inr ⟨k, c, e, cellK x c e _ z⟩
  · obtain ⟨v, z⟩ := I.cell x c e
    exact ⟨v, cellK x c e v z⟩
  · obtain ⟨m, ⟨o, _, _, ho, _⟩, _⟩ := I.loc
    exact free _ o (fun z => (hch _ z).2.1 rfl) ho I.free
  · obtain ⟨v, o, ho, hd⟩ := I.cell x c e
    exact free c o (fun z => (hch c z).2.2.1 x c e rfl) ho (I.freeC x c e)
  · obtain ⟨e, n, ne, nf, d⟩ := I.pin p hp
    have nch : p.1 ∉ ch := fun z => (hch p.1 z).2.2.2 p hp rfl
    exact ⟨keep p.1 p.2 ne nf nch e n, free p.1 p.2 nch e n, ne, nf, d⟩
theorem Inv.un {t' : Nat} (I : Inv X pins σ H s) (u : Un X.fs [] H H' s.heap h') (hok : HOk X.prog X.w H' h') : Inv X pins σ H' { s with heap := h', toks := t' } := by
  obtain ⟨m, ⟨o, es, ep, ho, r⟩, _⟩ := id I.loc
  obtain ⟨sl, hL⟩ := u.any ho I.free (by simp)
  exact I.step (g' := s.gens) (d' := s.drawn) (ch := []) (fun _ z => nomatch z) (fun b o _ hb _ e n => u.keep b o e n hb (by simp)) (fun b o _ hb _ e n => u.slot b o e n hb (by simp)) (fun b o _ e n => u.free b o e n (by simp)) (fun b o _ e => u.there b o e (by simp)) u.tups u.frzs u.tbls (fun m' hm => by
    obtain ⟨o', es', ep', ho', r'⟩ := hm
    rw [ho] at ho'; cases ho'
    exact ⟨_, es', ep', hL, r'⟩) hok I.bare
theorem Inv.call {g' : Array GenState} {t' : Nat} {d' : Drawn} {ch : List Addr} (I : Inv X pins σ H s) (u : Un (frs X.stack) ch H H' s.heap h') (hok : HOk X.prog X.w H' h') (hg : AllBare g')
    (hch : ∀ b ∈ ch, (b ∈ X.ex ∨ X.s₀.heap.objs.size ≤ b) ∧ b ≠ X.env.locals ∧ (∀ x c, X.env.cells.lookup x = some c → c ≠ b) ∧ ∀ p ∈ X.pn ++ pins, p.1 ≠ b) :
    Inv X pins σ H' { s with heap := h', gens := g', drawn := d', toks := t' } := by
  obtain ⟨m, ⟨o, es, ep, ho, r⟩, _⟩ := id I.loc
  obtain ⟨sl, hL⟩ := u.any ho I.free fun z => (hch _ z).2.1 rfl
  exact I.step (ch := ch) hch (fun b o hL hb hc e n => u.keep b o e n (fun z => (List.mem_cons.mp (I.stkSub b z)).elim hL hb) hc) (fun b o _ _ hc e n => u.any e n hc) (fun b o hc e n => u.free b o e n hc) (fun b o hc e => u.there b o e hc) u.tups u.frzs u.tbls (fun m' hm => by
    obtain ⟨o', es', ep', ho', r'⟩ := hm
    rw [ho] at ho'; cases ho'
    exact ⟨_, es', ep', hL, r'⟩) hok hg
theorem Inv.turned {t' : Nat} {it : Addr} (I : Inv X pins σ H s) (k : ∀ b o, b ≠ it → s.heap.get? b = some o → h'.get? b = some o) (hn : H it = none) (hL : it ≠ X.env.locals)
    (h1 : it ∈ X.ex ∨ X.s₀.heap.objs.size ≤ it) (h2 : ∀ x c, X.env.cells.lookup x = some c → c ≠ it) (h3 : ∀ p ∈ X.pn ++ pins, p.1 ≠ it) : Inv X pins σ H { s with heap := h', toks := t' } := by
  have nit : ∀ b u, H b = some u → b ≠ it := fun b u e z => by rw [z, hn] at e; cases e
  refine I.step (g' := s.gens) (d' := s.drawn) (ch := [it]) (fun b hb => ?_) (fun b o _ _ hc e _ => k b o (fun z => hc (by simp [z])) e) (fun b o _ _ hc e _ => ⟨o.slots, k b o (fun z => hc (by simp [z])) e⟩) (fun _ _ _ _ n => n)
    (fun b o hc e => ⟨o, k b o (fun z => hc (by simp [z])) e⟩) (fun _ _ e => e) (fun _ _ _ e => e) (fun b ps e => ⟨#[], by rw [e]; simp⟩) (fun m hm => ?_) (fun b u e => ?_) I.bare
  · have e : b = it := by simpa using hb
    subst e
    exact ⟨h1, hL, h2, h3⟩
  · obtain ⟨o, es, ep, ho, r⟩ := hm
    exact ⟨o, es, ep, k _ o (Ne.symm hL) ho, r⟩
  · refine (I.hok b u e).stay (fun c v hc q => k c v ?_ q) (fun _ q => q) fun _ _ q => q
    rcases hc with z | z
    · rw [z]; exact nit b u e
    · exact nit c _ z
theorem Inv.tok (I : Inv X pins σ H s) (t : Nat) : Inv X pins σ H { s with toks := t } := I.un (h' := s.heap) (t' := t) Un.refl I.hok
theorem Inv.kept {t' : Nat} (I : Inv X pins σ H s) (k : ∀ b u, s.heap.get? b = some u → h'.get? b = some u) : Inv X pins σ H { s with heap := h', toks := t' } := I.un (Un.kept k) (I.hok.kept k)
theorem Inv.laid {a : Addr} {o : HO} {t' : Nat} (I : Inv X pins σ H s) (k : ∀ b u, s.heap.get? b = some u → h'.get? b = some u) (hp : s.heap.objs.size ≤ a) (new : ObjOk X.prog X.w (upd H a o) h' a o) :
    Inv X pins σ (upd H a o) { s with heap := h', toks := t' } := I.un (Un.laid k hp (I.hok.fresh hp)) (I.hok.laid k hp new)
theorem Inv.write {x e : Addr} {o : HO} {t' : Nat} (I : Inv X pins σ H s) (mu : Mut (H x)) (he : e = x ∨ H e = some (.own x)) (k : ∀ b u, b ≠ e → s.heap.get? b = some u → h'.get? b = some u) (heo : ∃ u, h'.get? e = some u)
    (new : ObjOk X.prog X.w (upd H x o) h' x o) : Inv X pins σ (upd H x o) { s with heap := h', toks := t' } := I.un (Un.write mu he k heo) (I.hok.write mu he k heo new)
theorem Inv.pins_of {pins' : List (Addr × Obj)} (I : Inv X pins σ H s) (h : ∀ p ∈ pins', s.heap.get? p.1 = some p.2 ∧ H p.1 = none ∧ p.1 ≠ X.env.locals ∧ p.1 ∉ X.fs ∧ ∀ v, p.2.data ≠ .cell v) : Inv X pins' σ H s :=
  ⟨I.ok, I.os, I.bare, I.base, I.loc, I.cell, I.free, I.freeC, fun p hp => (List.mem_append.mp hp).elim (fun z => I.pin p (List.mem_append_left _ z)) (h p), I.hok, I.len⟩
theorem nodup_ix {N : List Str} (hN : N.Nodup) {i j : Nat} {x : Str} (a : N[i]? = some x) (b : N[j]? = some x) : i = j := by
  obtain ⟨h1, e1⟩ := List.getElem?_eq_some_iff.mp a
  obtain ⟨h2, e2⟩ := List.getElem?_eq_some_iff.mp b
  exact (List.getElem_inj hN).mp (e1.trans e2.symm)
theorem store_ok2 {M : Model} {A : Around} {E : Value → Shared → Prop} {i : Nat} {x : Str} {v : V} {u : Value} {Q : Unit → Shared → Prop} (I : Inv X pins σ H s) (hN : X.N.Nodup) (hi : X.N[i]? = some x) (hx : Loc X.env.scope x) (r : RelV v u)
    (h : ∀ s', Inv X pins (σ.set i (some v)) H s' → (∃ a, Heap.SameBut a s.heap s'.heap ∧ (a = X.env.locals ∨ X.env.cells.lookup x = some a)) → Q () s') (hf : X.fn x = true ∨ X.env.scope.names.lookup x = some .local := by first | exact .inl rfl | exact .inr rfl | assumption) : wpAny M A (storeName X.env x u) Q E s := by
  obtain ⟨m, hn, hl⟩ := id I.loc
  have hcls : (X.env.scope.kind == .class || (X.env.scope.kind == .module && X.env.locals != X.env.globals)) = false := by rw [I.ok.kind]; rfl
  have hiσ : i < σ.length := by rw [I.len]; exact (List.getElem?_eq_some_iff.mp hi).1
  have cne := I.cne
  have tracked : ∀ {a : Addr} {h' : Heap}, (∃ o, s.heap.get? a = some o ∧ H a = none) → Heap.SameBut a s.heap h' → HOk X.prog X.w H h' := fun {a h'} ha hs b ob e => by
    obtain ⟨_, _, hfree⟩ := ha
    refine (I.hok b ob e).stay (fun c w' hc q => (hs.2 c ?_).trans q) (fun _ q => q) fun _ _ q => q
    rintro rfl
    rcases hc with rfl | hc
    · rw [hfree] at e; cases e
    · rw [hfree] at hc; cases hc
  rcases hx with hk | hk
  · refine wpAny_storeName_local hk hn (fun h' hn' hs => ?_) hcls
    obtain ⟨oL, _, _, hoL, _⟩ := id hn
    refine h _ ⟨I.ok, I.os, I.bare, ⟨fun b o e n hb hx => ?_, fun b o e n hb hx => ?_, I.base.free, fun b o e hx => ?_, I.base.tups, I.base.frzs, I.base.tbls⟩, ⟨_, hn', fun j y v' e1 e2 e3 => ?_⟩, fun y c e => ?_, I.free, I.freeC, fun p hp => ?_, tracked ⟨oL, hoL, I.free⟩ hs, by simpa using I.len⟩ ⟨_, hs, .inl rfl⟩
    · exact (hs.2 b (Nat.ne_of_lt (Nat.lt_of_lt_of_le (Heap.lt_size e) I.ok.above))).trans (I.base.keep b o e n hb hx)
    · obtain ⟨sl, e1⟩ := I.base.slot b o e n hb hx
      exact ⟨sl, (hs.2 b (Nat.ne_of_lt (Nat.lt_of_lt_of_le (Heap.lt_size e) I.ok.above))).trans e1⟩
    · obtain ⟨o', e1⟩ := I.base.there b o e hx
      exact ⟨o', (hs.2 b (Nat.ne_of_lt (Nat.lt_of_lt_of_le (Heap.lt_size e) I.ok.above))).trans e1⟩
    · by_cases hj : j = i
      · subst hj
        rw [hi] at e1; cases e1
        rw [List.getElem?_set_self hiσ] at e2
        cases e2
        exact ⟨u, r, .inl ⟨hk, by simp⟩⟩
      · rw [List.getElem?_set_ne (Ne.symm hj)] at e2
        obtain ⟨u', r', q⟩ := hl j y v' e1 e2 e3
        refine ⟨u', r', ?_⟩
        rcases q with ⟨k, e⟩ | ⟨k, c, e, z⟩
        · refine .inl ⟨k, ?_⟩
          have : y ≠ x := fun e => hj (nodup_ix hN e1 (e ▸ hi))
          simp [this, e]
        · exact .inr ⟨k, c, e, z.sameBut hs (cne y c e)⟩
    · obtain ⟨w', z⟩ := I.cell y c e
      exact ⟨w', z.sameBut hs (cne y c e)⟩
    · obtain ⟨e, n, ne, nf, d⟩ := I.pin p hp
      exact ⟨(hs.2 p.1 ne).trans e, n, ne, nf, d⟩
  · have hfn : X.fn x = true := by
      rcases hf with z | z
      · exact z
      · rw [z] at hk; cases hk
    obtain ⟨c, hc⟩ := I.ok.has x (.inl hk)
    obtain ⟨w', z⟩ := I.cell x c hc
    refine wpAny_storeName_cell I.ok.kind hk hc z (fun h' hc' hs => ?_)
    obtain ⟨oc, hoc, hocd⟩ := id z
    refine h { s with heap := h' } ⟨I.ok, I.os, I.bare, ⟨fun b o e n hb hx => ?_, fun b o e n hb hx => ?_, I.base.free, fun b o e hx => ?_, I.base.tups, I.base.frzs, I.base.tbls⟩, ⟨m, hn.sameBut hs (Ne.symm (cne x c hc)), fun j y v' e1 e2 e3 => ?_⟩, fun y c' e => ?_, I.free, I.freeC, fun p hp => ?_, tracked ⟨oc, hoc, I.freeC x c hc⟩ hs, by simpa using I.len⟩ ⟨c, hs, .inr hc⟩
    · exact (hs.2 b (Nat.ne_of_lt (Nat.lt_of_lt_of_le (Heap.lt_size e) (I.ok.cab x c hfn hc)))).trans (I.base.keep b o e n hb hx)
    · obtain ⟨sl, e1⟩ := I.base.slot b o e n hb hx
      exact ⟨sl, (hs.2 b (Nat.ne_of_lt (Nat.lt_of_lt_of_le (Heap.lt_size e) (I.ok.cab x c hfn hc)))).trans e1⟩
    · obtain ⟨o', e1⟩ := I.base.there b o e hx
      exact ⟨o', (hs.2 b (Nat.ne_of_lt (Nat.lt_of_lt_of_le (Heap.lt_size e) (I.ok.cab x c hfn hc)))).trans e1⟩
    · by_cases hj : j = i
      · subst hj
        rw [hi] at e1; cases e1
        rw [List.getElem?_set_self hiσ] at e2
        cases e2
        exact ⟨u, r, .inr ⟨.inl hk, c, hc, hc'⟩⟩
      · rw [List.getElem?_set_ne (Ne.symm hj)] at e2
        obtain ⟨u', r', q⟩ := hl j y v' e1 e2 e3
        refine ⟨u', r', ?_⟩
        rcases q with q | ⟨k, c', e, z'⟩
        · exact .inl q
        · refine .inr ⟨k, c', e, z'.sameBut hs ?_⟩
          rintro rfl
          exact hj (nodup_ix hN e1 (I.ok.inj _ _ _ e hc ▸ hi))
    · by_cases hcc : c' = c
      · subst hcc; exact ⟨_, hc'⟩
      · obtain ⟨w2, z2⟩ := I.cell y c' e
        exact ⟨w2, z2.sameBut hs hcc⟩
    · obtain ⟨e, n, ne, nf, d⟩ := I.pin p hp
      refine ⟨(hs.2 p.1 ?_).trans e, n, ne, nf, d⟩
      intro q
      rw [q, hoc] at e
      have q' : oc = p.2 := Option.some.inj e
      exact d w' (by rw [← q']; exact hocd)
theorem store_ok {M : Model} {A : Around} {E : Value → Shared → Prop} {i : Nat} {x : Str} {v : V} {u : Value} {Q : Unit → Shared → Prop} (I : Inv X pins σ H s) (hN : X.N.Nodup) (hi : X.N[i]? = some x) (hx : Loc X.env.scope x) (r : RelV v u)
    (h : ∀ s', Inv X pins (σ.set i (some v)) H s' → Q () s') (hf : X.fn x = true ∨ X.env.scope.names.lookup x = some .local := by first | exact .inl rfl | exact .inr rfl | assumption) : wpAny M A (storeName X.env x u) Q E s :=
  store_ok2 I hN hi hx r (fun s' I' _ => h s' I') hf
theorem Inv.call' {s' : Shared} {ch : List Addr} (I : Inv X pins σ H s) (ho : s'.os = s.os) (u : Un (frs X.stack) ch H H' s.heap s'.heap) (hok : HOk X.prog X.w H' s'.heap) (hg : AllBare s'.gens)
    (hch : ∀ b ∈ ch, (b ∈ X.ex ∨ X.s₀.heap.objs.size ≤ b) ∧ b ≠ X.env.locals ∧ (∀ x c, X.env.cells.lookup x = some c → c ≠ b) ∧ ∀ p ∈ X.pn ++ pins, p.1 ≠ b) : Inv X pins σ H' s' := by
  obtain ⟨h', g', d', t', o'⟩ := s'
  have e : o' = s.os := ho
  subst e
  exact I.call (g' := g') (t' := t') (d' := d') u hok hg hch
end
abbrev XK := Value → Option Addr → Hp → Prop
abbrev St := List (Option V)
abbrev VK := V → Hp → Prop
abbrev TE := St → Hp → VK → Prop
abbrev TT := St → Hp → (Bool → Hp → Prop) → Prop
abbrev TA := St → Hp → (List V → Hp → Prop) → Prop
structure Ends where
  nx : St → Hp → Prop
  rt : VK
  bk : St → Hp → Prop := fun _ _ => False
  ct : St → Hp → Prop := fun _ _ => False
abbrev TS := Ends → St → Hp → Prop
def EP (X : Cx) (pins : List (Addr × Obj)) (σ : St) (Q : VK) (u : Value) (s' : Shared) : Prop := ∃ v H', Inv X pins σ H' s' ∧ RelV v u ∧ Q v H'
def TP (X : Cx) (pins : List (Addr × Obj)) (σ : St) (Q : Bool → Hp → Prop) (b : Bool) (s' : Shared) : Prop := ∃ H', Inv X pins σ H' s' ∧ Q b H'
def AP (X : Cx) (pins : List (Addr × Obj)) (σ : St) (Q : List V → Hp → Prop) (us : List Value) (s' : Shared) : Prop := ∃ vs H', Inv X pins σ H' s' ∧ Vals vs us ∧ Q vs H'
def SP (X : Cx) (pins : List (Addr × Obj)) (D : Ends) (f : Flow) (s' : Shared) : Prop :=
  match f with
  | .next => ∃ σ' H', Inv X pins σ' H' s' ∧ D.nx σ' H'
  | .brk => ∃ σ' H', Inv X pins σ' H' s' ∧ D.bk σ' H'
  | .cont => ∃ σ' H', Inv X pins σ' H' s' ∧ D.ct σ' H'
  | .ret u => ∃ v σ' H', Inv X pins σ' H' s' ∧ RelV v u ∧ D.rt v H'
def PE (X : Cx) (e : Expr) (t : TE) : Prop :=
  ∀ (pins : List (Addr × Obj)) (s : Shared) (σ : St) (H : Hp) (Q : VK), Inv X pins σ H s → t σ H Q → wpAny (model X.prog X.w) X.A (eval e X.env) (EP X pins σ Q) X.xe s
def PT (X : Cx) (e : Expr) (t : TT) : Prop :=
  ∀ (pins : List (Addr × Obj)) (s : Shared) (σ : St) (H : Hp) (Q : Bool → Hp → Prop), Inv X pins σ H s → t σ H Q → wpAny (model X.prog X.w) X.A (isTrue e X.env (eval e X.env)) (TP X pins σ Q) X.xe s
def PW (X : Cx) (e : Expr) (t : TT) : Prop :=
  ∀ (whole : Sem Value) (pins : List (Addr × Obj)) (s : Shared) (σ : St) (H : Hp) (Q : Bool → Hp → Prop), Inv X pins σ H s → t σ H Q → wpAny (model X.prog X.w) X.A (isTrue e X.env whole) (TP X pins σ Q) X.xe s
theorem PW.pt {X : Cx} {e : Expr} {t : TT} (h : PW X e t) : PT X e t := h _
def PA (X : Cx) (es : List Expr) (t : TA) : Prop :=
  ∀ (pos : Pos) (pins : List (Addr × Obj)) (s : Shared) (σ : St) (H : Hp) (Q : List V → Hp → Prop), Inv X pins σ H s → t σ H Q → wpAny (model X.prog X.w) X.A (spliced (backTo pos (starEach es X.env))) (AP X pins σ Q) X.xe s
def PS (X : Cx) (st : Stmt) (t : TS) : Prop :=
  ∀ (pins : List (Addr × Obj)) (s : Shared) (σ : St) (H : Hp) (D : Ends), Inv X pins σ H s → t D σ H → wpAny (model X.prog X.w) X.A (exec st X.env) (SP X pins D) X.xe s
def PSs (X : Cx) (st : List Stmt) (t : TS) : Prop :=
  ∀ (pins : List (Addr × Obj)) (s : Shared) (σ : St) (H : Hp) (D : Ends), Inv X pins σ H s → t D σ H → wpAny (model X.prog X.w) X.A (execs st X.env) (SP X pins D) X.xe s
theorem thn {α : Type} {t : Sem α} {Q Q' : α → Shared → Prop} {M : Model} {A : Around} {E : Value → Shared → Prop} {s : Shared} (h : wpAny M A t Q E s) (hQ : ∀ a s, Q a s → Q' a s) : wpAny M A t Q' E s := wpAny_mono h hQ fun _ _ x => x
end L2
namespace L2
open PySem PySem.Spec PyProof.Rows
section
variable {X : Cx}
def tVar (i : Nat) : TE := fun σ H Q => ∃ v, σ[i]? = some (some v) ∧ Q v H
def tC (v : V) : TE := fun _ H Q => Q v H
theorem pe_var {i : Nat} {x : Str} {pos : Pos} (hN : X.N[i]? = some x) (hv : Vis X.env.scope x) (hd : (x == ("__debug__" : Str)) = false := by decide) (hcd : (x == ("__classdict__" : Str)) = false := by decide) : PE X (.Name x pos) (tVar i) := by
  intro pins s σ H Q I h
  obtain ⟨v, e, h⟩ := h
  obtain ⟨m, hn, hl⟩ := I.loc
  obtain ⟨u, r, l⟩ := hl i x v hN e hv
  have fin : EP X pins σ Q u s := ⟨v, H, I, r, h⟩
  rcases l with ⟨hk, hm⟩ | ⟨hk, c, hc, hcell⟩
  · exact wpAny_Name (wpAny_loadName_local I.ok.kind hk hn hm fin) hd
  · rcases hk with hk | hk
    · exact wpAny_Name (wpAny_loadName_cell I.ok.kind hk hc hcell fin) hd
    · exact wpAny_Name (wpAny_loadName_free I.ok.kind hk hc hcell fin hcd) hd
theorem pe_int {i j pos} : PE X (.Constant (.int i) j pos) (tC (.int i)) := fun _ _ _ H _ I h => wpAny_Constant_int ⟨.int i, H, I.tok _, ⟨_, rfl⟩, h⟩
theorem pe_bl {b j pos} : PE X (.Constant (.bool b) j pos) (tC (.bl b)) := fun _ _ _ H _ I h => Constant_bool ⟨.bl b, H, I, rfl, h⟩
theorem pe_str {x j pos} : PE X (.Constant (.str x) j pos) (tC (.str x)) := fun _ _ _ H _ I h => Calls.Constant_str ⟨.str x, H, I.tok _, ⟨_, rfl⟩, h⟩
def Gl (X : Cx) (x : Str) : Prop := X.env.kindOf x = some .globalImplicit
theorem ld_glob {E : Value → Shared → Prop} {pins : List (Addr × Obj)} {s : Shared} {σ : St} {H : Hp} {x : Str} {u : Value} {pos : Pos} {Q : Value → Shared → Prop} (I : Inv X pins σ H s) (hg : Gl X x) (hm : X.mg x = some u) (h : Q u s)
    (hd : (x == ("__debug__" : Str)) = false := by decide) : wpAny (model X.prog X.w) X.A (eval (.Name x pos) X.env) Q E s :=
  Calls.Name_function_global I.ok.kind hg (Calls.loadGlobal_global (by rw [I.ok.glob]; exact I.mod.glob.keeps I.bk) hm h) hd
theorem ld_blt {E : Value → Shared → Prop} {pins : List (Addr × Obj)} {s : Shared} {σ : St} {H : Hp} {x : Str} {u : Value} {pos : Pos} {Q : Value → Shared → Prop} (I : Inv X pins σ H s) (hg : Gl X x) (hm : X.mg x = none) (hv : bootBuiltins x = some u) (h : Q u s)
    (hn : x ≠ "__name__" := by decide) (hd : (x == ("__debug__" : Str)) = false := by decide) : wpAny (model X.prog X.w) X.A (eval (.Name x pos) X.env) Q E s := by
  obtain ⟨mb, h1, h2⟩ := I.mod.blt
  exact Calls.Name_function_global I.ok.kind hg (Calls.loadGlobal_builtin (by rw [I.ok.glob]; exact I.mod.glob.keeps I.bk) hm (by rw [I.ok.blt]; exact h1.keeps I.bk) ((h2 x hn).trans hv) h) hd
theorem pe_glob {x : Str} {v : V} {u : Value} {pos : Pos} (hg : Gl X x) (hm : X.mg x = some u) (r : RelV v u) (hd : (x == ("__debug__" : Str)) = false := by decide) : PE X (.Name x pos) (tC v) :=
  fun _ _ _ H _ I h => ld_glob I hg hm ⟨v, H, I, r, h⟩ hd
theorem pe_bltn {x : Str} {v : V} {u : Value} {pos : Pos} (hg : Gl X x) (hm : X.mg x = none) (hv : bootBuiltins x = some u) (r : RelV v u) (hn : x ≠ "__name__" := by decide) (hd : (x == ("__debug__" : Str)) = false := by decide) : PE X (.Name x pos) (tC v) :=
  fun _ _ _ H _ I h => ld_blt I hg hm hv ⟨v, H, I, r, h⟩ hn hd
variable {a b : Expr} {ta tb : TE} {pos : Pos}
def tB (t : TE) : TT := fun σ H Q => t σ H fun x H1 => ∃ c, x = .bl c ∧ Q c H1
theorem pt_val {e : Expr} {t : TE} (h : PE X e t) (he : ∀ whole, isTrue e X.env whole = (do let v ← whole; standAt e.pos; holding [v] (truthy v)) := by intro _; rfl) : PT X e (tB t) := by
  intro pins s σ H Q I hw
  refine isTrue_plain (thn (h pins s σ H _ I hw) fun v s1 ⟨x, H1, I1, r1, q1⟩ => ?_) (he _)
  obtain ⟨d, rfl, q⟩ := q1
  cases r1
  exact wpAny_truthy_bool ⟨H1, I1, q⟩
variable {tA tB' : TT} {rest : List Expr}
def tAnd (t u : TT) : TT := fun σ H Q => t σ H fun c H1 => if c = true then u σ H1 Q else Q false H1
def tOr (t u : TT) : TT := fun σ H Q => t σ H fun c H1 => if c = true then Q true H1 else u σ H1 Q
def tNot (t : TT) : TT := fun σ H Q => t σ H fun c H1 => Q (!c) H1
theorem pw_and1 (ha : PT X a tA) : PW X (.BoolOp .And [a] pos) tA := by
  intro wh pins s σ H Q I h
  refine isTrue_and (thn (ha pins s σ H Q I h) fun c s1 e => ?_)
  cases c with
  | true => exact isTrue_and_nil e
  | false => exact e
theorem pw_or1 (ha : PT X a tA) : PW X (.BoolOp .Or [a] pos) tA := by
  intro wh pins s σ H Q I h
  refine isTrue_or (thn (ha pins s σ H Q I h) fun c s1 e => ?_)
  cases c with
  | false => exact isTrue_or_nil e
  | true => exact e
theorem pw_and (ha : PT X a tA) (hb : PW X (.BoolOp .And (b :: rest) pos) tB') : PW X (.BoolOp .And (a :: b :: rest) pos) (tAnd tA tB') := by
  intro wh pins s σ H Q I h
  refine isTrue_and (thn (ha pins s σ H _ I h) fun c s1 ⟨H1, I1, q1⟩ => ?_)
  cases c with
  | true => exact hb wh pins s1 σ H1 Q I1 q1
  | false => exact ⟨H1, I1, q1⟩
theorem pw_or (ha : PT X a tA) (hb : PW X (.BoolOp .Or (b :: rest) pos) tB') : PW X (.BoolOp .Or (a :: b :: rest) pos) (tOr tA tB') := by
  intro wh pins s σ H Q I h
  refine isTrue_or (thn (ha pins s σ H _ I h) fun c s1 ⟨H1, I1, q1⟩ => ?_)
  cases c with
  | true => exact ⟨H1, I1, q1⟩
  | false => exact hb wh pins s1 σ H1 Q I1 q1
theorem pt_not (ha : PT X a tA) : PT X (.UnaryOp .Not a pos) (tNot tA) := by
  intro pins s σ H Q I h
  exact isTrue_not (ha pins s σ H (fun c H1 => Q (!c) H1) I h)
def tAndV (ta tb : TE) : TE := fun σ H Q => ta σ H fun x H1 => ∃ c, x = .bl c ∧ if c = true then tb σ H1 Q else Q (.bl false) H1
def tOrV (ta tb : TE) : TE := fun σ H Q => ta σ H fun x H1 => ∃ c, x = .bl c ∧ if c = true then Q (.bl true) H1 else tb σ H1 Q
def tNotV (ta : TE) : TE := fun σ H Q => ta σ H fun x H1 => ∃ c, x = .bl c ∧ Q (.bl (!c)) H1
theorem pe_one {op} {t : TE} (h : PE X a t) : PE X (.BoolOp op [a] pos) t := fun pins s σ H Q I hw => BoolOp_one (h pins s σ H Q I hw)
theorem pe_and (ha : PE X a ta) (hb : PE X (.BoolOp .And (b :: rest) pos) tb) : PE X (.BoolOp .And (a :: b :: rest) pos) (tAndV ta tb) := by
  intro pins s σ H Q I h
  refine BoolOp_and (thn (ha pins s σ H _ I h) fun v s1 ⟨x, H1, I1, r1, q1⟩ => ?_)
  obtain ⟨c, rfl, q1⟩ := q1
  cases r1
  refine wpAny_truthy_bool ?_
  cases c with
  | true => exact hb pins s1 σ H1 Q I1 q1
  | false => exact ⟨.bl false, H1, I1, rfl, q1⟩
theorem pe_or (ha : PE X a ta) (hb : PE X (.BoolOp .Or (b :: rest) pos) tb) : PE X (.BoolOp .Or (a :: b :: rest) pos) (tOrV ta tb) := by
  intro pins s σ H Q I h
  refine BoolOp_or (thn (ha pins s σ H _ I h) fun v s1 ⟨x, H1, I1, r1, q1⟩ => ?_)
  obtain ⟨c, rfl, q1⟩ := q1
  cases r1
  refine wpAny_truthy_bool ?_
  cases c with
  | false => exact hb pins s1 σ H1 Q I1 q1
  | true => exact ⟨.bl true, H1, I1, rfl, q1⟩
theorem pe_not (ha : PE X a ta) : PE X (.UnaryOp .Not a pos) (tNotV ta) := by
  intro pins s σ H Q I h
  refine UnaryOp_ (thn (ha pins s σ H _ I h) fun v s1 ⟨x, H1, I1, r1, q1⟩ => ?_)
  obtain ⟨c, rfl, q1⟩ := q1
  cases r1
  exact not_of (wpAny_truthy_bool ⟨.bl (!c), H1, I1, rfl, q1⟩)
def tIf (t : TT) (ta tb : TE) : TE := fun σ H Q => t σ H fun c H1 => if c = true then ta σ H1 Q else tb σ H1 Q
theorem pe_ifExp {c : Expr} (hc : PT X c tA) (ha : PE X a ta) (hb : PE X b tb) : PE X (.IfExp c a b pos) (tIf tA ta tb) := by
  intro pins s σ H Q I h
  refine wpAny_IfExp (thn (hc pins s σ H _ I h) fun d s1 ⟨H1, I1, q1⟩ => ?_)
  cases d with
  | true => exact ha pins s1 σ H1 Q I1 q1
  | false => exact hb pins s1 σ H1 Q I1 q1
end
end L2
namespace L2
open PySem PySem.Spec PyProof.Rows
def SqL (K : PySem.W.Frag) (H : Hp) (a : Addr) (xs : List V) : Prop :=
  Rd H a (.lst xs) ∨
    ∃ (o : Obj) (its : Array Value) (n : Nat), K.lookup a = some o ∧ o.cls = .type "list" ∧ o.dict = none ∧ o.data = .seq its n ∧ its.size ≤ sizeLine ∧ Vals xs its.toList
def SqT (K : PySem.W.Frag) (H : Hp) (a : Addr) (xs : List V) : Prop :=
  Rd H a (.tup xs) ∨
    ∃ (o : Obj) (its : Array Value) (n : Nat), K.lookup a = some o ∧ o.cls = .type "tuple" ∧ o.data = .seq its n ∧ its.size ≤ sizeLine ∧ Vals xs its.toList
def absV : Value → Option V
  | .none => some .non
  | .bool b => some (.bl b)
  | .int i _ => some (.int i)
  | .str x _ => some (.str x)
  | .bytes b _ => some (.byt b)
  | .float b _ => some (.flt b)
  | .ref a => some (.ref a)
  | .type n => some (.ty n)
  | _ => none
theorem RelV.abs {x : V} {u : Value} (r : RelV x u) : absV u = some x := by
  cases x with
  | non => cases r; rfl
  | bl _ => cases r; rfl
  | int _ => obtain ⟨t, rfl⟩ := r; rfl
  | str _ => obtain ⟨t, rfl⟩ := r; rfl
  | byt _ => obtain ⟨t, rfl⟩ := r; rfl
  | flt _ => obtain ⟨t, rfl⟩ := r; rfl
  | ref _ => cases r; rfl
  | ty _ => cases r; rfl
theorem RelV.inj {x y : V} {u : Value} (r : RelV x u) (q : RelV y u) : x = y := Option.some.inj (r.abs.symm.trans q.abs)
theorem Vals.inj : ∀ {xs ys : List V} {us : List Value}, Vals xs us → Vals ys us → xs = ys
  | _, _, _, .nil, .nil => rfl
  | _, _, _, .cons r t, .cons r' t' => by rw [r.inj r', Vals.inj t t']
section
variable {X : Cx} {pins : List (Addr × Obj)} {σ : St} {H : Hp} {s : Shared} {a : Addr} {xs ys : List V}
theorem SqL.of {K : PySem.W.Frag} (h : H a = some (.lst xs)) : SqL K H a xs := .inl (.inl h)
theorem SqT.of {K : PySem.W.Frag} (h : H a = some (.tup xs)) : SqT K H a xs := .inl (.inl h)
theorem Inv.list (I : Inv X pins σ H s) (h : SqL X.K H a xs) : ∃ its : List Value, Vals xs its ∧ PlainL s.heap a its.toArray ∧ xs.length ≤ sizeLine := by
  rcases h with h | ⟨o, its, n, hk, hc, hd, hs, hz, r⟩
  · obtain ⟨z, its, n, r, e⟩ := h.ok I.hok
    exact ⟨its, r, ⟨_, n, e, rfl, rfl, rfl⟩, z⟩
  · refine ⟨its.toList, r, ⟨o, n, I.kIn a o hk, hc, hd, by simpa using hs⟩, ?_⟩
    have e := r.length
    simp only [Array.length_toList] at e
    omega
theorem Inv.tuple (I : Inv X pins σ H s) (h : SqT X.K H a xs) : ∃ its : List Value, Vals xs its ∧ IsTup s.heap a its.toArray ∧ xs.length ≤ sizeLine := by
  rcases h with h | ⟨o, its, n, hk, hc, hs, hz, r⟩
  · obtain ⟨z, its, r, p⟩ := h.ok I.hok
    exact ⟨its, r, p, z⟩
  · refine ⟨its.toList, r, ⟨o, I.kIn a o hk, hc, n, by simpa using hs⟩, ?_⟩
    have e := r.length
    simp only [Array.length_toList] at e
    omega
theorem Inv.list_inj (I : Inv X pins σ H s) (h : SqL X.K H a xs) (h' : SqL X.K H a ys) : xs = ys := by
  obtain ⟨its, r, ⟨o, n, e, _, _, d⟩, _⟩ := I.list h
  obtain ⟨its', r', ⟨o', n', e', _, _, d'⟩, _⟩ := I.list h'
  rw [e] at e'; cases e'
  rw [d] at d'
  injection d' with d1 _
  have : its = its' := by simpa using congrArg Array.toList d1
  subst this
  exact r.inj r'
theorem Inv.tuple_inj (I : Inv X pins σ H s) (h : SqT X.K H a xs) (h' : SqT X.K H a ys) : xs = ys := by
  obtain ⟨its, r, ⟨o, e, _, n, d⟩, _⟩ := I.tuple h
  obtain ⟨its', r', ⟨o', e', _, n', d'⟩, _⟩ := I.tuple h'
  rw [e] at e'; cases e'
  rw [d] at d'
  injection d' with d1 _
  have : its = its' := by simpa using congrArg Array.toList d1
  subst this
  exact r.inj r'
end
abbrev Cx.wish (X : Cx) (E : Value → Shared → Prop) : Cx := { X with xe := E }
abbrev Cx.nox (X : Cx) : Cx := X.wish fun _ _ => False
theorem Cx.Ok.wish {X : Cx} (ok : X.Ok) (E : Value → Shared → Prop) : (X.wish E).Ok :=
  ⟨ok.mod, ok.kind, ok.glob, ok.blt, ok.above, ok.inj, ok.has, ok.cab, ok.hd, ok.frames, ok.stk, ok.exf, ok.bs, ok.bsz, ok.noex, ok.exfs, ok.funs, ok.frf⟩
theorem Cx.Ok.unwish {X : Cx} {E : Value → Shared → Prop} (ok : (X.wish E).Ok) : X.Ok :=
  ⟨ok.mod, ok.kind, ok.glob, ok.blt, ok.above, ok.inj, ok.has, ok.cab, ok.hd, ok.frames, ok.stk, ok.exf, ok.bs, ok.bsz, ok.noex, ok.exfs, ok.funs, ok.frf⟩
section
variable {X : Cx} {pins : List (Addr × Obj)} {σ : St} {H : Hp} {s : Shared} {E : Value → Shared → Prop}
theorem Inv.wish (I : Inv X pins σ H s) (E : Value → Shared → Prop) : Inv (X.wish E) pins σ H s := ⟨I.ok.wish E, I.os, I.bare, I.base, I.loc, I.cell, I.free, I.freeC, I.pin, I.hok, I.len⟩
theorem Inv.unwish (I : Inv (X.wish E) pins σ H s) : Inv X pins σ H s := ⟨I.ok.unwish, I.os, I.bare, I.base, I.loc, I.cell, I.free, I.freeC, I.pin, I.hok, I.len⟩
theorem SP.unwish {D : Ends} {f : Flow} {s' : Shared} (h : SP (X.wish E) pins D f s') : SP X pins D f s' := by
  cases f with
  | next => obtain ⟨σ', H', I, q⟩ := h; exact ⟨σ', H', I.unwish, q⟩
  | brk => obtain ⟨σ', H', I, q⟩ := h; exact ⟨σ', H', I.unwish, q⟩
  | cont => obtain ⟨σ', H', I, q⟩ := h; exact ⟨σ', H', I.unwish, q⟩
  | ret u => obtain ⟨v, σ', H', I, r, q⟩ := h; exact ⟨v, σ', H', I.unwish, r, q⟩
theorem PSs.nox {st : List Stmt} {t : TS} (h : PSs X.nox st t) : PSs X st t := fun pins s σ H D I hw =>
  wpAny_mono (h pins s σ H D (I.wish _) hw) (fun _ _ q => q.unwish) fun _ _ z => False.elim z
end
section
variable {X : Cx} {st : Stmt} {rest : List Stmt} {t u : TS} {e : Expr} {te : TE} {pos : Pos}
def tNext : TS := fun D σ H => D.nx σ H
def tSeq (t u : TS) : TS := fun D σ H => t { D with nx := u D } σ H
theorem pss_nil : PSs X [] tNext := fun _ _ σ H _ I h => wpAny_execs_nil ⟨σ, H, I, h⟩
theorem pss_cons (h1 : PS X st t) (h2 : PSs X rest u) : PSs X (st :: rest) (tSeq t u) := by
  intro pins s σ H D I h
  refine wpAny_execs_cons (thn (h1 pins s σ H { D with nx := u D } I h) fun f s1 q => ?_)
  cases f with
  | next =>
    obtain ⟨σ', H', I', q⟩ := q
    exact h2 pins s1 σ' H' D I' q
  | ret v => exact q
  | brk => exact q
  | cont => exact q
theorem pss_one (h1 : PS X st t) : PSs X [st] t := by
  intro pins s σ H D I h
  refine wpAny_execs_cons (thn (h1 pins s σ H D I h) fun f s1 q => ?_)
  cases f with
  | next => exact wpAny_execs_nil q
  | ret v => exact q
  | brk => exact q
  | cont => exact q
theorem Inv.quiet {pins : List (Addr × Obj)} {σ : St} {H : Hp} {s : Shared} (I : Inv X pins σ H s) : interactive X.env = false := by simp [interactive, I.ok.kind]
def tDrop (te : TE) : TS := fun D σ H => te σ H fun _ H1 => D.nx σ H1
theorem ps_expr (he : PE X e te) (hs : swapsWith e none pos.line X.env = pure false := by rfl) : PS X (.Expr e pos) (tDrop te) := by
  intro pins s σ H D I h
  exact wpAny_Expr_any (thn (he pins s σ H _ I h) fun v s1 ⟨x, H1, I1, r1, q1⟩ => ⟨σ, H1, I1, q1⟩) I.quiet hs
def tRet (te : TE) : TS := fun D σ H => te σ H D.rt
theorem ps_ret (he : PE X e te) : PS X (.Return (some e) pos) (tRet te) := by
  intro pins s σ H D I h
  exact wpAny_Return_some (thn (he pins s σ H _ I h) fun v s1 ⟨x, H1, I1, r1, q1⟩ => ⟨x, σ, H1, I1, r1, q1⟩)
def tIfS (c : TT) (t u : TS) : TS := fun D σ H => c σ H fun b H1 => if b = true then t D σ H1 else u D σ H1
theorem ps_if {c : Expr} {a b : List Stmt} {tc : TT} (hc : PT X c tc) (ha : PSs X a t) (hb : PSs X b u) : PS X (.If c a b pos) (tIfS tc t u) := by
  intro pins s σ H D I h
  refine wpAny_If (thn (hc pins s σ H _ I h) fun d s1 ⟨H1, I1, q1⟩ => ?_)
  cases d with
  | true => exact ha pins s1 σ H1 D I1 q1
  | false => exact hb pins s1 σ H1 D I1 q1
def tNever : TS := fun _ _ _ => False
theorem pss_never {sts : List Stmt} : PSs X sts tNever := fun _ _ _ _ _ _ h => h.elim
end
abbrev TG := V → St → Hp → (St → Hp → Prop) → Prop
abbrev TGs := List V → St → Hp → (St → Hp → Prop) → Prop
def PG (X : Cx) (target : Expr) (t : TG) : Prop :=
  ∀ (pins : List (Addr × Obj)) (s : Shared) (σ : St) (H : Hp) (v : V) (u : Value) (Q : St → Hp → Prop), Inv X pins σ H s → RelV v u → t v σ H Q →
    wpAny (model X.prog X.w) X.A (assign target X.env u) (fun _ s' => ∃ σ' H', Inv X pins σ' H' s' ∧ Q σ' H') X.xe s
def PGs (X : Cx) (ts : List Expr) (t : TGs) : Prop :=
  ∀ (pins : List (Addr × Obj)) (s : Shared) (σ : St) (H : Hp) (vs : List V) (us : List Value) (Q : St → Hp → Prop), Inv X pins σ H s → Vals vs us → t vs σ H Q →
    wpAny (model X.prog X.w) X.A (assignInOrder ((assignEach ts X.env).map (·.2)) us) (fun _ s' => ∃ σ' H', Inv X pins σ' H' s' ∧ Q σ' H') X.xe s
abbrev TSet := V → V → V → Hp → (Hp → Prop) → Prop
def PSet (X : Cx) (t : TSet) : Prop :=
  ∀ (pins : List (Addr × Obj)) (s : Shared) (σ : St) (H : Hp) (o i v : V) (ov iv u : Value) (Q : Hp → Prop), Inv X pins σ H s → RelV o ov → RelV i iv → RelV v u → t o i v H Q →
    wpAny (model X.prog X.w) X.A (setItem ov iv u) (fun _ s' => ∃ H', Inv X pins σ H' s' ∧ Q H') X.xe s
section
variable {X : Cx} {pos : Pos}
def gName (i : Nat) : TG := fun v σ H Q => Q (σ.set i (some v)) H
theorem pg_name {i : Nat} {x : Str} (hN : X.N.Nodup) (hi : X.N[i]? = some x) (hx : Loc X.env.scope x) (hf : X.fn x = true ∨ X.env.scope.names.lookup x = some .local := by first | exact .inl rfl | exact .inr rfl | assumption) : PG X (.Name x pos) (gName i) := by
  intro pins s σ H v u Q I r h
  exact wpAny_assign_Name (store_ok I hN hi hx r (fun s' I' => ⟨_, H, I', h⟩) hf)
def gNil : TGs := fun vs σ H Q => vs = [] ∧ Q σ H
def gCons (t : TG) (u : TGs) : TGs := fun vs σ H Q => ∃ v r, vs = v :: r ∧ t v σ H fun σ' H' => u r σ' H' Q
theorem pgs_nil : PGs X [] gNil := by
  intro pins s σ H vs us Q I r h
  obtain ⟨e, h⟩ := h
  subst e
  cases r
  exact assignInOrder_nil ⟨σ, H, I, h⟩
theorem pgs_cons {e : Expr} {es : List Expr} {t : TG} {u : TGs} (h1 : PG X e t) (h2 : PGs X es u)
    (hs : (assignEach (e :: es) X.env).map (·.2) = assign e X.env :: (assignEach es X.env).map (·.2) := by rfl) : PGs X (e :: es) (gCons t u) := by
  intro pins s σ H vs us Q I r h
  obtain ⟨v, vr, e1, h⟩ := h
  subst e1
  cases r with
  | cons r rr =>
    rw [hs]
    refine assignInOrder_cons (thn (h1 pins s σ H _ _ _ I r h) fun _ s1 ⟨σ1, H1, I1, q1⟩ => ?_)
    exact h2 pins s1 σ1 H1 _ _ Q I1 rr q1
def gTup (K : PySem.W.Frag) (n : Nat) (t : TGs) : TG := fun v σ H Q => ∃ a xs, v = .ref a ∧ SqT K H a xs ∧ xs.length = n ∧ t xs σ H Q
theorem pg_tup {es : List Expr} {k : Nat} {t : TGs} {n : Nat} (hc : X.calm = true) (h : PGs X es t)
    (hn : (assignEach es X.env).length = n := by rfl) (hst : (assignEach es X.env).findIdx? (·.1) = none := by rfl) : PG X (.Tuple es k pos) (gTup X.K n t) := by
  intro pins s σ H v u Q I r hw
  obtain ⟨a, xs, e1, hq, hl, hw⟩ := hw
  subst e1
  cases r
  obtain ⟨its, rv, ht, hz⟩ := I.tuple hq
  refine assign_Tuple_tuple (I.ok.hd hc) ht (by simp [hn, ← hl, rv.length]) hst fun h' hx => ?_
  have I1 : Inv X pins σ H { s with heap := h' } := I.kept (t' := s.toks) fun b o e => hx b o (Nat.ne_of_lt (Heap.lt_size e)) e
  exact h pins _ σ H xs _ Q I1 (by simpa using rv) hw
def gSub (to ti : TE) (t : TSet) : TG := fun v σ H Q => to σ H fun o H1 => ti σ H1 fun i H2 => t o i v H2 fun H3 => Q σ H3
theorem pg_sub {o i : Expr} {to ti : TE} {t : TSet} (ho : PE X o to) (hi : PE X i ti) (hs : PSet X t)
    (ha : ∀ v, assign (.Subscript o i pos) X.env v = (do
      let ov ← holding [v] (eval o X.env)
      let iv ← holding [v, ov] (eval i X.env)
      standAt pos
      holding [v, ov, iv] (setItem ov iv v)
      release [v, ov, iv] []) := by intro _; rfl) : PG X (.Subscript o i pos) (gSub to ti t) := by
  intro pins s σ H v u Q I r h
  rw [ha]
  refine wpAny_bind (wpAny_holding (thn (ho pins s σ H _ I h) fun ov s1 ⟨x, H1, I1, r1, q1⟩ => ?_))
  refine wpAny_bind (wpAny_holding (thn (hi pins s1 σ H1 _ I1 q1) fun iv s2 ⟨y, H2, I2, r2, q2⟩ => ?_))
  refine wpAny_bind (wpAny_standAt (wpAny_bind (wpAny_holding (thn (hs pins s2 σ H2 x y v ov iv u _ I2 r1 r2 r q2) fun _ s3 ⟨H3, I3, q3⟩ => ?_))))
  exact wpAny_release ⟨σ, H3, I3, q3⟩
def tAsg (te : TE) (g : TG) : TS := fun D σ H => te σ H fun x H1 => g x σ H1 D.nx
theorem ps_asg {tg e : Expr} {te : TE} {g : TG} (he : PE X e te) (hg : PG X tg g) (hs : swapsWithSole [tg] e pos.line X.env = pure false := by rfl) (hw : swappedStores [tg] e X.env = pure none := by rfl)
    (h1 : (assignEach [tg] X.env).map (·.2) = [assign tg X.env] := by rfl) : PS X (.Assign [tg] e pos) (tAsg te g) := by
  intro pins s σ H D I h
  refine wpAny_Assign_stores (thn (he pins s σ H _ I h) fun v s1 ⟨x, H1, I1, r1, q1⟩ => ?_) hs hw
  rw [h1]
  exact thn (hg pins s1 σ H1 x v _ I1 r1 q1) fun _ s2 q => q
theorem ps_set {i : Nat} {x : Str} {e : Expr} {te : TE} {pos' : Pos} (hN : X.N.Nodup) (hi : X.N[i]? = some x) (hx : Loc X.env.scope x) (he : PE X e te) (hs : swapsWith e (some (.Name x pos')) pos.line X.env = pure false := by rfl) (hf : X.fn x = true ∨ X.env.scope.names.lookup x = some .local := by first | exact .inl rfl | exact .inr rfl | assumption) :
    PS X (.Assign [.Name x pos'] e pos) (tAsg te (gName i)) := by
  intro pins s σ H D I h
  refine wpAny_Assign_Name (thn (he pins s σ H _ I h) fun v s1 ⟨y, H1, I1, r1, q1⟩ => ?_) hs
  exact store_ok I1 hN hi hx r1 (fun s2 I2 => ⟨_, H1, I2, q1⟩) hf
end
section
variable {X : Cx} {pos : Pos}
def tWhile (c : TT) (tb : TS) : TS := fun D σ H => ∃ W : Nat → St → Hp → Prop, (∃ m, W m σ H) ∧ ∀ m σ H, W m σ H →
  c σ H fun b H1 => if b = true then ∃ N : St → Hp → Prop, (∀ σ' H', N σ' H' → ∃ m', m' < m ∧ W m' σ' H') ∧ tb { D with nx := N, ct := N, bk := D.nx } σ H1 else D.nx σ H1
theorem ps_while {c : Expr} {body : List Stmt} {tc : TT} {tb : TS} (hp : PassesOwn (model X.prog X.w) X.A X.env X.xe) (hc : PT X c tc) (hb : PSs X body tb) : PS X (.While c body [] pos) (tWhile tc tb) := by
  intro pins s σ H D I h
  obtain ⟨W, ⟨m0, w0⟩, turn⟩ := h
  refine wpAny_While (codeAny_whileLoop (fun n s' => ∃ σ' H', Inv X pins σ' H' s' ∧ W n σ' H') ?_ m0 ⟨σ, H, I, w0⟩)
  rintro n s1 ⟨σ1, H1, I1, w1⟩
  refine wpAny_passesOwn hp (thn (hc pins s1 σ1 H1 _ I1 (turn n σ1 H1 w1)) fun b s2 ⟨H2, I2, q2⟩ => ?_)
  cases b with
  | true =>
    obtain ⟨N, hN, q2⟩ := q2
    rw [if_pos rfl]
    refine wpAny_passesOwn hp (thn (hb pins s2 σ1 H2 _ I2 q2) fun f s3 q3 => ?_)
    cases f with
    | next =>
      obtain ⟨σ3, H3, I3, n3⟩ := q3
      obtain ⟨m', hm, w3⟩ := hN σ3 H3 n3
      exact ⟨m', hm, σ3, H3, I3, w3⟩
    | cont =>
      obtain ⟨σ3, H3, I3, n3⟩ := q3
      obtain ⟨m', hm, w3⟩ := hN σ3 H3 n3
      exact ⟨m', hm, σ3, H3, I3, w3⟩
    | brk => exact q3
    | ret v => exact q3
  | false =>
    rw [if_neg Bool.false_ne_true]
    exact wpAny_execs_nil ⟨σ1, H2, I2, q2⟩
end
structure It where
  go : Nat → Hp → Prop
  yld : Nat → Hp → V → Hp → Prop
  stop : Nat → Hp → Prop
def FpOk (X : Cx) (pins : List (Addr × Obj)) (H : Hp) (b : Addr) : Prop :=
  H b = none ∧ b ≠ X.env.locals ∧ b ∉ X.fs ∧ (b ∈ X.ex ∨ X.s₀.heap.objs.size ≤ b) ∧ (∀ x c, X.env.cells.lookup x = some c → c ≠ b) ∧ ∀ p ∈ X.pn ++ pins, p.1 ≠ b
theorem Inv.fpOk {X : Cx} {pins : List (Addr × Obj)} {σ : St} {H H' : Hp} {s : Shared} {b : Addr} (I : Inv X pins σ H s) (hb : s.heap.objs.size ≤ b) (hn : H' b = none) : FpOk X pins H' b := by
  refine ⟨hn, Nat.ne_of_gt (Nat.lt_of_lt_of_le I.lt hb), I.nofs hb, .inr (Nat.le_trans I.sz hb), fun x c e z => ?_, fun p hp z => ?_⟩
  · obtain ⟨v, q⟩ := I.cell x c e
    exact absurd (Nat.lt_of_lt_of_le q.lt (by rw [z]; exact hb)) (Nat.lt_irrefl _)
  · exact absurd (Nat.lt_of_lt_of_le (Heap.lt_size (I.pin p hp).1) (by rw [z]; exact hb)) (Nat.lt_irrefl _)
structure Turn (P : Program) (w : World) (K : PySem.W.Frag) (tg : Expr) (J : It) (fp : List Addr) (it : Addr) (tn : Nat → Heap → Prop) : Prop where
  mem : it ∈ fp
  obj : ∀ i h, tn i h → ∀ b ∈ fp, ∃ o, h.get? b = some o ∧ ∀ v, o.data ≠ .cell v
  keep : ∀ i h h', tn i h → (∀ b ∈ fp, ∀ o, h.get? b = some o → h'.get? b = some o) → tn i h'
  item : ∀ (X : Cx), X.prog = P → X.w = w → X.K = K → X.calm = true → ∀ (i : Nat) (pins : List (Addr × Obj)) (s : Shared) (σ : St) (H : Hp) (E : Value → Shared → Prop), Inv X pins σ H s → (∀ b ∈ fp, FpOk X pins H b) → tn i s.heap → J.go i H →
    wpAny (model P w) X.A (pyNext (.ref it)) (fun r s1 => ∃ u, r = some u ∧
      wpAny (model P w) X.A (letOwnedTupleGo tg (.ref it) u) (fun _ s2 => ∃ x H', Inv X pins σ H' s2 ∧ RelV x u ∧ J.yld i H x H' ∧ tn (i + 1) s2.heap ∧ ∀ b ∈ fp, H' b = none) E s1) E s
  done : ∀ (X : Cx), X.prog = P → X.w = w → X.K = K → X.calm = true → ∀ (i : Nat) (pins : List (Addr × Obj)) (s : Shared) (σ : St) (H : Hp) (E : Value → Shared → Prop), Inv X pins σ H s → (∀ b ∈ fp, FpOk X pins H b) → tn i s.heap → J.stop i H →
    wpAny (model P w) X.A (pyNext (.ref it)) (fun r s1 => r = none ∧ Inv X pins σ H s1) E s
  self : ∀ (A : Around) (i : Nat) (s : Shared) (Q : Value → Shared → Prop) (E : Value → Shared → Prop), tn i s.heap → Q (.ref it) s → wpAny (model P w) A (pyIter (.ref it)) Q E s
abbrev TI := St → Hp → (It → Hp → Prop) → Prop
def PIE (X : Cx) (pins : List (Addr × Obj)) (σ : St) (tg : Expr) (R : It → Hp → Prop) (itv : Value) (s2 : Shared) : Prop :=
  ∃ (it : Addr) (fp : List Addr) (tn : Nat → Heap → Prop) (J : It) (H' : Hp), itv = .ref it ∧ Inv X pins σ H' s2 ∧ Turn X.prog X.w X.K tg J fp it tn ∧ tn 0 s2.heap ∧ (∀ b ∈ fp, FpOk X pins H' b) ∧ R J H'
def PI (X : Cx) (tg iter : Expr) (wi : TI) : Prop :=
  ∀ (pins : List (Addr × Obj)) (s : Shared) (σ : St) (H : Hp) (R : It → Hp → Prop), Inv X pins σ H s → wi σ H R →
    wpAny (model X.prog X.w) X.A (eval iter X.env) (fun v s1 => wpAny (model X.prog X.w) X.A (pyIter v) (PIE X pins σ tg R) X.xe s1) X.xe s
theorem go_of {M : Model} {A : Around} {E : Value → Shared → Prop} {s : Shared} {tg : Expr} {it : Addr} {u : Value} {o : Obj} {n : String} {vs : Array Value} {Q : Unit → Shared → Prop} (ho : s.heap.get? it = some o) (hc : o.cls = .type n) (hd : o.data = .fields vs)
    (hn : ["enumerate", "zip", "dict_itemiterator", "dict_reverseitemiterator", "odict_iterator", "itertools.zip_longest", "itertools.pairwise"].contains n = false) (hQ : Q () s) : wpAny M A (letOwnedTupleGo tg (.ref it) u) Q E s := by
  unfold letOwnedTupleGo
  cases tg <;> first
    | exact wpAny_pure hQ
    | (cases u <;> first
        | exact wpAny_pure hQ
        | (refine wpAny_bind (wpAny_load ho ?_)
           rw [hc, hd]
           show wpAny M A (if (["enumerate", "zip", "dict_itemiterator", "dict_reverseitemiterator", "odict_iterator", "itertools.zip_longest", "itertools.pairwise"].contains n && vs[0]? == some (rawInt _)) = true then _ else _) Q E s
           rw [if_neg (by intro h; rw [hn, Bool.false_and] at h; cases h)]
           exact wpAny_pure hQ))
def Itl (K : PySem.W.Frag) (a : Addr) : It :=
  ⟨fun i H => ∃ xs x, SqL K H a xs ∧ xs[i]? = some x, fun i H x H' => H' = H ∧ ∀ xs, SqL K H a xs → xs[i]? = some x, fun i H => ∃ xs, SqL K H a xs ∧ xs.length ≤ i⟩
def Itr (lo : Int) (n : Nat) : It := ⟨fun i _ => i < n, fun i H x H' => H' = H ∧ x = .int (lo + i), fun i _ => n ≤ i⟩
theorem turn_list {P : Program} {w : World} {K : PySem.W.Frag} {tg : Expr} (a it : Addr) : Turn P w K tg (Itl K a) [it] it (fun i h => h.IsListIter it a i) where
  mem := by simp
  obj := fun i h st b hb => by
    have e : b = it := by simpa using hb
    subst e
    obtain ⟨o, e, c, d⟩ := st
    exact ⟨o, e, fun v z => by rw [d] at z; cases z⟩
  keep := fun i h h' st k => st.at fun o e => k it (by simp) o e
  item := by
    intro X hP hw hK hc i pins s σ H E I hf st hg
    subst hP hw hK
    obtain ⟨xs, x, hq, hx⟩ := hg
    obtain ⟨its, rv, p, hz⟩ := I.list hq
    obtain ⟨u, hu, ru⟩ := rv.get hx
    obtain ⟨f0, f1, f2, f3, f4, f5⟩ := hf it (by simp)
    refine wpAny_pyNext_list_item st p.isList (x := u) (by simpa using hu) fun h' st' sb => ?_
    have I1 : Inv X pins σ H { s with heap := h' } := I.turned (t' := s.toks) (fun b o hb e => (sb.2 b hb).trans e) f0 f1 f3 f4 f5
    obtain ⟨o, e, c, d⟩ := id st'
    exact ⟨u, rfl, go_of (s := { s with heap := h' }) e c d (by decide) ⟨x, H, I1, ru, ⟨rfl, fun ys hy => by rw [I.list_inj hy hq]; exact hx⟩, st', fun b hb => (hf b hb).1⟩⟩
  done := by
    intro X hP hw hK hc i pins s σ H E I hf st hg
    subst hP hw hK
    obtain ⟨xs, hq, hx⟩ := hg
    obtain ⟨its, rv, p, hz⟩ := I.list hq
    obtain ⟨f0, f1, f2, f3, f4, f5⟩ := hf it (by simp)
    have hl := rv.length
    exact wpAny_pyNext_list_end (I.ok.hd hc) st p.isList (by simp; omega) fun h' eb => ⟨rfl, I.turned (t' := s.toks) (fun b o hb e => eb b o hb e) f0 f1 f3 f4 f5⟩
  self := fun _ _ _ _ _ st h => wpAny_pyIter_listiter st h
theorem turn_range {P : Program} {w : World} {K : PySem.W.Frag} {tg : Expr} (it : Addr) (lo : Int) (n : Nat) : Turn P w K tg (Itr lo n) [it] it (fun i h => IsRangeIter h it (lo + (i : Nat) * 1) ((n : Int) - (i : Nat)) 1) where
  mem := by simp
  obj := fun i h st b hb => by
    have e : b = it := by simpa using hb
    subst e
    exact ⟨_, st, fun v z => by
      have z' : Data.fields _ = Data.cell v := z
      cases z'⟩
  keep := fun i h h' st k => k it (by simp) _ st
  item := by
    intro X hP hw hK hc i pins s σ H E I hf st hg
    subst hP hw hK
    obtain ⟨f0, f1, f2, f3, f4, f5⟩ := hf it (by simp)
    have W := Walks.range (prog := X.prog) (w := X.w) (I.ok.hd hc) it lo 1 n
    refine W.item i s _ _ hg st fun v h' tk hv st' kk => ?_
    obtain ⟨t, rfl⟩ := hv
    have I1 : Inv X pins σ H { s with heap := h', toks := tk } := I.turned (fun b o hb e => kk b o (by simpa using hb) e) f0 f1 f3 f4 f5
    refine ⟨_, rfl, go_of (s := { s with heap := h', toks := tk }) (n := "range_iterator") st' rfl rfl (by decide) ⟨.int (lo + i), H, I1, ⟨t, ?_⟩, ⟨rfl, rfl⟩, st', fun b hb => (hf b hb).1⟩⟩
    rw [Int.mul_one]
  done := by
    intro X hP hw hK hc i pins s σ H E I hf st hg
    subst hP hw hK
    obtain ⟨f0, f1, f2, f3, f4, f5⟩ := hf it (by simp)
    exact wpAny_pyNext_range_end (I.ok.hd hc) st (by have : n ≤ i := hg; omega) fun h' eb => ⟨rfl, I.turned (t' := s.toks) (fun b o hb e => eb b o hb e) f0 f1 f3 f4 f5⟩
  self := fun _ _ _ _ _ st h => wpAny_pyIter_rangeiter st h
end L2
namespace L2
open PySem PySem.Spec PyProof.Rows
section
variable {X : Cx} {tg : Expr}
def iList (K : PySem.W.Frag) (tl : TE) : TI := fun σ H R => tl σ H fun x H1 => ∃ a, x = .ref a ∧ (∃ xs, SqL K H1 a xs) ∧ R (Itl K a) H1
theorem pi_list {l : Expr} {tl : TE} (hl : PE X l tl) : PI X tg l (iList X.K tl) := by
  intro pins s σ H R I h
  refine thn (hl pins s σ H _ I h) fun v s1 ⟨x, H1, I1, r1, q1⟩ => ?_
  obtain ⟨a, e, ⟨xs, hq⟩, q⟩ := q1
  subst e
  cases r1
  obtain ⟨its, rv, p, hz⟩ := I1.list hq
  refine wpAny_pyIter_list p.isList ?_
  refine ⟨s1.heap.objs.size, [s1.heap.objs.size], _, _, H1, rfl, I1.kept (t' := s1.toks) fun b o e => Heap.get?_push_of_some _ e, turn_list a _, ⟨_, Heap.get?_push_size _ rfl, rfl, rfl⟩, fun b hb => ?_, q⟩
  have e : b = s1.heap.objs.size := by simpa using hb
  subst e
  exact I1.fpOk (Nat.le_refl _) (I1.hok.fresh (Nat.le_refl _))
theorem range_it {pins : List (Addr × Obj)} {σ : St} {H : Hp} {s : Shared} {R : It → Hp → Prop} {E : Value → Shared → Prop} {lo hi : Int} {t u v : Tok} {tk : Nat} (I : Inv X pins σ H s) (h1 : -(2 ^ 62) ≤ lo) (h2 : lo < 2 ^ 62) (h3 : -(2 ^ 62) ≤ hi) (h4 : hi < 2 ^ 62)
    (q : R (Itr lo (hi - lo).toNat) H) : wpAny (model X.prog X.w) X.A (pyIter (.ref s.heap.objs.size)) (PIE X pins σ tg R) E { s with heap := s.heap.push { cls := .type "range", data := .fields #[.int lo t, .int hi u, .int 1 v] }, toks := tk } := by
  refine wpAny_pyIter_range (IsRange.new ..) (small_one h1 h2 h3 h4) ?_
  have I1 : Inv X pins σ H { s with heap := s.heap.push { cls := .type "range", data := .fields #[.int lo t, .int hi u, .int 1 v] }, toks := tk } := I.kept fun b o e => Heap.get?_push_of_some _ e
  refine ⟨(s.heap.push { cls := .type "range", data := .fields #[.int lo t, .int hi u, .int 1 v] }).objs.size, [(s.heap.push { cls := .type "range", data := .fields #[.int lo t, .int hi u, .int 1 v] }).objs.size], _, _, H, rfl,
    I1.kept (t' := tk) fun b o e => Heap.get?_push_of_some _ e, turn_range _ lo (hi - lo).toNat, ?_, fun b hb => ?_, q⟩
  · have e1 : lo + ((0 : Nat) : Int) * 1 = lo := by simp
    have e2 : (((hi - lo).toNat : Nat) : Int) - ((0 : Nat) : Int) = Builtin.Range.rangeSize lo hi 1 := by rw [rangeSize_one]; split <;> omega
    show IsRangeIter _ _ (lo + ((0 : Nat) : Int) * 1) ((((hi - lo).toNat : Nat) : Int) - ((0 : Nat) : Int)) 1
    rw [e1, e2]
    exact Heap.get?_push_size _ rfl
  · have e : b = (s.heap.push { cls := .type "range", data := .fields #[.int lo t, .int hi u, .int 1 v] }).objs.size := by simpa using hb
    subst e
    exact I1.fpOk (Nat.le_refl _) (I1.hok.fresh (Nat.le_refl _))
def iRng1 (ta : TA) : TI := fun σ H R => ta σ H fun vs H1 => ∃ j : Int, vs = [.int j] ∧ -(2 ^ 62) ≤ j ∧ j < 2 ^ 62 ∧ R (Itr 0 j.toNat) H1
theorem pi_range1 {a : Expr} {ta : TA} {p pos : Pos} (hg : Gl X "range") (hm : X.mg "range" = none) (ha : PA X [a] ta) (hs : starEach [a] X.env = [(false, eval a X.env)] := by rfl) : PI X tg (.Call (.Name "range" p) [a] [] pos) (iRng1 ta) := by
  intro pins s σ H R I h
  refine Call_ (ld_blt I hg hm boot_range (PyProof.Rows.callWith_type1 (thn (ha pos pins s σ H _ I h) fun us s1 ⟨vs, H1, I1, r1, q1⟩ => ?_) hs rfl))
  obtain ⟨j, e, q1, q2, q⟩ := q1
  subst e
  cases r1 with
  | cons r rr =>
    cases rr
    obtain ⟨t, rfl⟩ := r
    exact call_range_1 (range_it I1 (by omega) (by omega) q1 q2 (by simpa using q))
def tFor (wi : TI) (g : TG) (tb : TS) : TS := fun D σ H => wi σ H fun J H1 => ∃ W : Nat → Nat → St → Hp → Prop, (∃ m, W 0 m σ H1) ∧ ∀ i m σ H, W i m σ H →
  (J.stop i H ∧ D.nx σ H) ∨ (J.go i H ∧ ∃ N : St → Hp → Prop, (∀ σ' H', N σ' H' → ∃ m', m' < m ∧ W (i + 1) m' σ' H') ∧ ∀ x H', J.yld i H x H' → g x σ H' fun σ2 H2 => tb { D with nx := N, ct := N, bk := D.nx } σ2 H2)
def pinsAt (fp : List Addr) (h : Heap) : List (Addr × Obj) := fp.filterMap fun b => (h.get? b).map fun o => (b, o)
theorem mem_pinsAt {fp : List Addr} {h : Heap} {b : Addr} {o : Obj} (hb : b ∈ fp) (e : h.get? b = some o) : (b, o) ∈ pinsAt fp h := List.mem_filterMap.mpr ⟨b, hb, by rw [e]; rfl⟩
theorem of_pinsAt {fp : List Addr} {h : Heap} {p : Addr × Obj} (hp : p ∈ pinsAt fp h) : p.1 ∈ fp ∧ h.get? p.1 = some p.2 := by
  obtain ⟨b, hb, e⟩ := List.mem_filterMap.mp hp
  cases q : h.get? b with
  | none => rw [q] at e; cases e
  | some o =>
    rw [q] at e
    have e' : (b, o) = p := Option.some.inj e
    subst e'
    exact ⟨hb, q⟩
theorem Inv.pinned {pins : List (Addr × Obj)} {σ : St} {H : Hp} {s : Shared} {fp : List Addr} (I : Inv X pins σ H s) (hf : ∀ b ∈ fp, FpOk X pins H b) (ho : ∀ b ∈ fp, ∃ o, s.heap.get? b = some o ∧ ∀ v, o.data ≠ .cell v) : Inv X (pins ++ pinsAt fp s.heap) σ H s :=
  I.pins_of fun p hp => (List.mem_append.mp hp).elim (fun z => I.pin p (List.mem_append_right _ z)) fun z => by
    obtain ⟨hb, e⟩ := of_pinsAt z
    obtain ⟨f0, f1, f2, _⟩ := hf p.1 hb
    obtain ⟨o, e', d⟩ := ho p.1 hb
    rw [e] at e'; cases e'
    exact ⟨e, f0, f1, f2, d⟩
theorem Inv.unpinned {pins pl : List (Addr × Obj)} {σ : St} {H : Hp} {s : Shared} (I : Inv X (pins ++ pl) σ H s) : Inv X pins σ H s := I.pins_of fun p hp => I.pin p (List.mem_append_right _ (List.mem_append_left _ hp))
theorem ps_for {iter : Expr} {body : List Stmt} {wi : TI} {g : TG} {tb : TS} {pos : Pos} (hp : PassesOwn (model X.prog X.w) X.A X.env X.xe) (hc : X.calm = true) (hi : PI X tg iter wi) (hg : PG X tg g) (hb : PSs X body tb)
    (hs : ∀ x, foldedSetIterable iter X.env x = pure x := by intro _; rfl) : PS X (.For tg iter body [] pos) (tFor wi g tb) := by
  intro pins s σ H D I h
  refine wpAny_For (thn (hi pins s σ H _ I h) fun v s1 h1 => thn h1 fun itv s2 h2 => ?_) hs
  obtain ⟨it, fp, tn, J, H2, e, I2, T, st2, f2, W, ⟨m0, w0⟩, turn⟩ := h2
  subst e
  have stat : ∀ {H' : Hp}, (∀ b ∈ fp, H' b = none) → ∀ b ∈ fp, FpOk X pins H' b := fun hn b hb => ⟨hn b hb, (f2 b hb).2⟩
  refine codeAny_forLoop_any (fun n s' => ∃ i σ' H', Inv X pins σ' H' s' ∧ tn i s'.heap ∧ (∀ b ∈ fp, H' b = none) ∧ W i n σ' H') ?_ m0 ⟨0, σ, H2, I2, st2, fun b hb => (f2 b hb).1, w0⟩
  rintro n s3 ⟨i, σ3, H3, I3, st3, fr3, w3⟩
  rcases turn i n σ3 H3 w3 with ⟨stop, qn⟩ | ⟨go, N, hN, step⟩
  · refine wpAny_passesOwn hp (thn (T.done X rfl rfl rfl hc i pins s3 σ3 H3 X.xe I3 (stat fr3) st3 stop) fun r s4 ⟨hr, I4⟩ => ?_)
    subst hr
    exact wpAny_execs_nil ⟨σ3, H3, I4, qn⟩
  · refine wpAny_passesOwn hp (thn (T.item X rfl rfl rfl hc i pins s3 σ3 H3 X.xe I3 (stat fr3) st3 go) fun r s4 ⟨u, hr, h4⟩ => ?_)
    subst hr
    refine wpAny_passesOwn hp (thn h4 fun _ s5 ⟨x, H5, I5, r5, y5, st5, fr5⟩ => ?_)
    have I5' := I5.pinned (stat fr5) (T.obj _ _ st5)
    refine wpAny_passesOwn hp (thn (hg _ s5 σ3 H5 x u _ I5' r5 (step x H5 y5)) fun _ s6 ⟨σ6, H6, I6, q6⟩ => ?_)
    refine wpAny_passesOwn hp (thn (hb _ s6 σ6 H6 _ I6 q6) fun f s7 q7 => ?_)
    have again : ∀ {σ7 : St} {H7 : Hp}, Inv X (pins ++ pinsAt fp s5.heap) σ7 H7 s7 → N σ7 H7 → ∃ m, m < n ∧ ∃ i σ' H', Inv X pins σ' H' s7 ∧ tn i s7.heap ∧ (∀ b ∈ fp, H' b = none) ∧ W i m σ' H' := fun {σ7 H7} I7 n7 => by
      obtain ⟨m', hm, w7⟩ := hN σ7 H7 n7
      refine ⟨m', hm, i + 1, σ7, H7, I7.unpinned, T.keep _ _ _ st5 fun b hb o e => (I7.pin (b, o) (List.mem_append_right _ (List.mem_append_right _ (mem_pinsAt hb e)))).1, fun b hb => ?_, w7⟩
      obtain ⟨o, e, d⟩ := T.obj _ _ st5 b hb
      exact (I7.pin (b, o) (List.mem_append_right _ (List.mem_append_right _ (mem_pinsAt hb e)))).2.1
    cases f with
    | next => obtain ⟨σ7, H7, I7, n7⟩ := q7; exact again I7 n7
    | cont => obtain ⟨σ7, H7, I7, n7⟩ := q7; exact again I7 n7
    | brk => obtain ⟨σ7, H7, I7, q7⟩ := q7; exact ⟨σ7, H7, I7.unpinned, q7⟩
    | ret v => obtain ⟨x7, σ7, H7, I7, r7, q7⟩ := q7; exact ⟨x7, σ7, H7, I7.unpinned, r7, q7⟩
end
theorem for_list {K : PySem.W.Frag} {a : Addr} {xs : List V} {g : TG} {tb : TS} {D : Ends} {σ : St} {H : Hp} (Pv : Nat → St → Hp → Prop) (h0 : Pv 0 σ H) (hl : ∀ i σ H, i ≤ xs.length → Pv i σ H → SqL K H a xs)
    (hs : ∀ i x σ H, xs[i]? = some x → Pv i σ H → g x σ H fun σ2 H2 => tb { D with nx := Pv (i + 1), ct := Pv (i + 1), bk := D.nx } σ2 H2) (hd : ∀ σ H, Pv xs.length σ H → D.nx σ H) :
    ∃ W : Nat → Nat → St → Hp → Prop, (∃ m, W 0 m σ H) ∧ ∀ i m σ H, W i m σ H →
      ((Itl K a).stop i H ∧ D.nx σ H) ∨ ((Itl K a).go i H ∧ ∃ N : St → Hp → Prop, (∀ σ' H', N σ' H' → ∃ m', m' < m ∧ W (i + 1) m' σ' H') ∧ ∀ x H', (Itl K a).yld i H x H' → g x σ H' fun σ2 H2 => tb { D with nx := N, ct := N, bk := D.nx } σ2 H2) := by
  refine ⟨fun i m σ H => m = xs.length - i ∧ i ≤ xs.length ∧ Pv i σ H, ⟨xs.length, by simp, Nat.zero_le _, h0⟩, ?_⟩
  rintro i m σ H ⟨rfl, hi, p⟩
  have q := hl i σ H hi p
  by_cases hlt : i < xs.length
  · refine .inr ⟨⟨xs, xs[i], q, by simp [hlt]⟩, Pv (i + 1), fun σ' H' p' => ⟨xs.length - (i + 1), by omega, rfl, hlt, p'⟩, fun x H' y => ?_⟩
    obtain ⟨e, y⟩ := y
    subst e
    exact hs i x σ _ (y xs q) p
  · have e : i = xs.length := by omega
    subst e
    exact .inl ⟨⟨xs, q, Nat.le_refl _⟩, hd σ H p⟩
theorem for_range {lo : Int} {n : Nat} {g : TG} {tb : TS} {D : Ends} {σ : St} {H : Hp} (Pv : Nat → St → Hp → Prop) (h0 : Pv 0 σ H)
    (hs : ∀ i σ H, i < n → Pv i σ H → g (.int (lo + i)) σ H fun σ2 H2 => tb { D with nx := Pv (i + 1), ct := Pv (i + 1), bk := D.nx } σ2 H2) (hd : ∀ σ H, Pv n σ H → D.nx σ H) :
    ∃ W : Nat → Nat → St → Hp → Prop, (∃ m, W 0 m σ H) ∧ ∀ i m σ H, W i m σ H →
      ((Itr lo n).stop i H ∧ D.nx σ H) ∨ ((Itr lo n).go i H ∧ ∃ N : St → Hp → Prop, (∀ σ' H', N σ' H' → ∃ m', m' < m ∧ W (i + 1) m' σ' H') ∧ ∀ x H', (Itr lo n).yld i H x H' → g x σ H' fun σ2 H2 => tb { D with nx := N, ct := N, bk := D.nx } σ2 H2) := by
  refine ⟨fun i m σ H => m = n - i ∧ i ≤ n ∧ Pv i σ H, ⟨n, by simp, Nat.zero_le _, h0⟩, ?_⟩
  rintro i m σ H ⟨rfl, hi, p⟩
  by_cases hlt : i < n
  · refine .inr ⟨hlt, Pv (i + 1), fun σ' H' p' => ⟨n - (i + 1), by omega, rfl, hlt, p'⟩, fun x H' y => ?_⟩
    obtain ⟨e, y⟩ := y
    subst e y
    exact hs i σ _ hlt p
  · have e : i = n := by omega
    subst e
    exact .inl ⟨Nat.le_refl _, hd σ H p⟩
end L2
namespace L2
open PySem PySem.Spec PyProof.Rows
abbrev R2 := V → V → Hp → VK → Prop
def OpR (X : Cx) (f : Value → Value → Sem Value) (r : R2) : Prop :=
  ∀ (pins : List (Addr × Obj)) (s : Shared) (σ : St) (H : Hp) (x y : V) (v u : Value) (Q : VK), Inv X pins σ H s → RelV x v → RelV y u → r x y H Q →
    wpAny (model X.prog X.w) X.A (f v u) (EP X pins σ Q) X.xe s
def CallR (X : Cx) (f : Value) (r : List V → Hp → VK → Prop) : Prop :=
  ∀ (pins : List (Addr × Obj)) (s : Shared) (σ : St) (H : Hp) (xs : List V) (us : List Value) (Q : VK), Inv X pins σ H s → Vals xs us → r xs H Q →
    wpAny (model X.prog X.w) X.A (call f us) (EP X pins σ Q) X.xe s
def tOp (r : R2) (ta tb : TE) : TE := fun σ H Q => ta σ H fun x H1 => tb σ H1 fun y H2 => r x y H2 Q
def rI (C : Int → Int → Prop) (g : Int → Int → V) : R2 := fun x y H Q => ∃ i j, x = .int i ∧ y = .int j ∧ C i j ∧ Q (g i j) H
def rI0 (g : Int → Int → V) : R2 := fun x y H Q => ∃ i j, x = .int i ∧ y = .int j ∧ Q (g i j) H
section
variable {X : Cx} {a b c : Expr} {ta tb tc : TE} {pos : Pos}
theorem binT (ha : PE X a ta) (hb : PE X b tb) {pins : List (Addr × Obj)} {s : Shared} {σ : St} {H : Hp} {R : V → V → Hp → Prop} (I : Inv X pins σ H s)
    (h : ta σ H fun x H1 => tb σ H1 fun y H2 => R x y H2) {Q : Value → Shared → Prop} {f : Value → Value → Sem Value}
    (hf : ∀ v u s2 x y H2, Inv X pins σ H2 s2 → RelV x v → RelV y u → R x y H2 → wpAny (model X.prog X.w) X.A (f v u) Q X.xe s2) :
    wpAny (model X.prog X.w) X.A (eval a X.env) (fun v s₁ => wpAny (model X.prog X.w) X.A (eval b X.env) (fun u s₂ => wpAny (model X.prog X.w) X.A (f v u) Q X.xe s₂) X.xe s₁) X.xe s := by
  refine thn (ha pins s σ H _ I h) fun v s1 ⟨x, H1, I1, r1, q1⟩ => ?_
  refine thn (hb pins s1 σ H1 _ I1 q1) fun u s2 ⟨y, H2, I2, r2, q2⟩ => ?_
  exact hf v u s2 x y H2 I2 r1 r2 q2
theorem pe_op {op : Operator} {r : R2} (ho : OpR X (binaryOp op) r) (ha : PE X a ta) (hb : PE X b tb) : PE X (.BinOp a op b pos) (tOp r ta tb) := by
  intro pins s σ H Q I h
  exact wpAny_BinOp (binT ha hb I h fun v u s2 x y H2 I2 rx ry q => ho pins s2 σ H2 x y v u Q I2 rx ry q)
theorem opI {f : Value → Value → Sem Value} {C : Int → Int → Prop} {g : Int → Int → Int}
    (rule : ∀ (i j : Int) (t u : Tok) (s : Shared) (Q : Value → Shared → Prop) (E : Value → Shared → Prop), C i j → Q (.int (g i j) s.toks) { s with toks := s.toks + 1 } → wpAny (model X.prog X.w) X.A (f (.int i t) (.int j u)) Q E s) :
    OpR X f (rI C fun i j => .int (g i j)) := by
  intro pins s σ H x y v u Q I rx ry h
  obtain ⟨i, j, rfl, rfl, hc, q⟩ := h
  obtain ⟨t, rfl⟩ := rx
  obtain ⟨t', rfl⟩ := ry
  exact rule i j t t' s _ _ hc ⟨.int (g i j), H, I.tok _, ⟨_, rfl⟩, q⟩
theorem opI0 {f : Value → Value → Sem Value} {g : Int → Int → Int}
    (rule : ∀ (i j : Int) (t u : Tok) (s : Shared) (Q : Value → Shared → Prop) (E : Value → Shared → Prop), Q (.int (g i j) s.toks) { s with toks := s.toks + 1 } → wpAny (model X.prog X.w) X.A (f (.int i t) (.int j u)) Q E s) :
    OpR X f (rI0 fun i j => .int (g i j)) := by
  intro pins s σ H x y v u Q I rx ry h
  obtain ⟨i, j, rfl, rfl, q⟩ := h
  obtain ⟨t, rfl⟩ := rx
  obtain ⟨t', rfl⟩ := ry
  exact rule i j t t' s _ _ ⟨.int (g i j), H, I.tok _, ⟨_, rfl⟩, q⟩
theorem opB0 {f : Value → Value → Sem Value} {g : Int → Int → Bool}
    (rule : ∀ (i j : Int) (t u : Tok) (s : Shared) (Q : Value → Shared → Prop) (E : Value → Shared → Prop), Q (.bool (g i j)) s → wpAny (model X.prog X.w) X.A (f (.int i t) (.int j u)) Q E s) :
    OpR X f (rI0 fun i j => .bl (g i j)) := by
  intro pins s σ H x y v u Q I rx ry h
  obtain ⟨i, j, rfl, rfl, q⟩ := h
  obtain ⟨t, rfl⟩ := rx
  obtain ⟨t', rfl⟩ := ry
  exact rule i j t t' s _ _ ⟨.bl (g i j), H, I, rfl, q⟩
theorem op_add : OpR X (binaryOp .Add) (rI0 fun i j => .int (i + j)) := opI0 fun _ _ _ _ _ _ _ q => add_int q
theorem op_sub : OpR X (binaryOp .Sub) (rI0 fun i j => .int (i - j)) := opI0 fun _ _ _ _ _ _ _ q => sub_int q
theorem op_mod : OpR X (binaryOp .Mod) (rI (fun _ j => 0 < j) fun i j => .int (i % j)) := opI fun i j _ _ _ _ _ hc q => by
  have h1 : (0 : Int) < j := hc
  exact mod_int' (by omega) (by rw [Int.fmod_eq_emod_of_nonneg i (by omega)]; exact q)
end
def scal : V → V → Bool
  | .non, .non => true | .non, .int _ => true | .int _, .non => true | .non, .bl _ => true | .bl _, .non => true | .non, .str _ => true | .str _, .non => true
  | .int _, .int _ => true | .bl _, .bl _ => true | .str _, .str _ => true | .byt _, .byt _ => true
  | .int _, .str _ => true | .str _, .int _ => true | .bl _, .str _ => true | .str _, .bl _ => true
  | _, _ => false
def rEq : R2 := fun x y H Q => scal x y = true ∧ Q (.bl (decide (x = y))) H
def rNe : R2 := fun x y H Q => scal x y = true ∧ Q (.bl (!decide (x = y))) H
theorem dec_int {i j : Int} : decide (V.int i = V.int j) = (i == j) := by
  rw [Bool.eq_iff_iff]
  simp
theorem dec_bl {i j : Bool} : decide (V.bl i = V.bl j) = (i == j) := by
  rw [Bool.eq_iff_iff]
  simp
theorem dec_str {i j : Str} : decide (V.str i = V.str j) = (i == j) := by
  rw [Bool.eq_iff_iff]
  simp
theorem dec_byt {i j : Array UInt8} : decide (V.byt i = V.byt j) = (i.toList == j.toList) := by
  rw [Bool.eq_iff_iff]
  cases i
  cases j
  simp
section
variable {X : Cx} {a b c : Expr} {ta tb tc : TE} {pos : Pos}
theorem fin_bl {pins : List (Addr × Obj)} {σ : St} {H : Hp} {s : Shared} {Q : VK} {k k' : Bool} (I : Inv X pins σ H s) (q : Q (.bl k) H) (e : k = k') : EP X pins σ Q (.bool k') s := by
  subst e
  exact ⟨.bl k, H, I, rfl, q⟩
theorem op_eq : OpR X (compareOp .Eq) rEq := by
  intro pins s σ H x y v u Q I rx ry h
  obtain ⟨hs, q⟩ := h
  cases x with
  | non =>
    cases rx
    cases y with
    | non => cases ry; exact PySem.EqNone.eq_none_none (fin_bl I q (by simp))
    | bl j => cases ry; exact PySem.EqNone.eq_none_bool (fin_bl I q (by simp))
    | int j => obtain ⟨t', rfl⟩ := ry; exact PySem.EqNone.eq_none_int (fin_bl I q (by simp))
    | str j => obtain ⟨t', rfl⟩ := ry; exact PySem.EqNone.eq_none_str (fin_bl I q (by simp))
    | _ => exact absurd (show false = true from hs) Bool.false_ne_true
  | bl i =>
    cases rx
    cases y with
    | non => cases ry; exact PySem.EqNone.eq_bool_none (fin_bl I q (by simp))
    | bl j => cases ry; exact eq_bool (fin_bl I q dec_bl)
    | str j => obtain ⟨t', rfl⟩ := ry; exact PySem.EqMixed.eq_bool_str (fin_bl I q (by simp))
    | _ => exact absurd (show false = true from hs) Bool.false_ne_true
  | int i =>
    obtain ⟨t, rfl⟩ := rx
    cases y with
    | non => cases ry; exact PySem.EqNone.eq_int_none (fin_bl I q (by simp))
    | int j => obtain ⟨t', rfl⟩ := ry; exact eq_int (fin_bl I q dec_int)
    | str j => obtain ⟨t', rfl⟩ := ry; exact PySem.EqMixed.eq_int_str (fin_bl I q (by simp))
    | _ => exact absurd (show false = true from hs) Bool.false_ne_true
  | str i =>
    obtain ⟨t, rfl⟩ := rx
    cases y with
    | non => cases ry; exact PySem.EqNone.eq_str_none (fin_bl I q (by simp))
    | bl j => cases ry; exact PySem.EqMixed.eq_str_bool (fin_bl I q (by simp))
    | int j => obtain ⟨t', rfl⟩ := ry; exact PySem.EqMixed.eq_str_int (fin_bl I q (by simp))
    | str j => obtain ⟨t', rfl⟩ := ry; exact eq_str (fin_bl I q dec_str)
    | _ => exact absurd (show false = true from hs) Bool.false_ne_true
  | byt i =>
    obtain ⟨t, rfl⟩ := rx
    cases y with
    | byt j => obtain ⟨t', rfl⟩ := ry; exact PySem.W.eq_bytes (fin_bl I q dec_byt)
    | _ => exact absurd (show false = true from hs) Bool.false_ne_true
  | _ => cases y <;> exact absurd (show false = true from hs) Bool.false_ne_true
theorem op_ne : OpR X (compareOp .NotEq) rNe := by
  intro pins s σ H x y v u Q I rx ry h
  obtain ⟨hs, q⟩ := h
  cases x with
  | non =>
    cases rx
    cases y with
    | non => cases ry; exact PySem.EqNone.ne_none_none (fin_bl I q (by simp))
    | bl j => cases ry; exact PySem.EqNone.ne_none_bool (fin_bl I q (by simp))
    | int j => obtain ⟨t', rfl⟩ := ry; exact PySem.EqNone.ne_none_int (fin_bl I q (by simp))
    | str j => obtain ⟨t', rfl⟩ := ry; exact PySem.EqNone.ne_none_str (fin_bl I q (by simp))
    | _ => exact absurd (show false = true from hs) Bool.false_ne_true
  | bl i =>
    cases rx
    cases y with
    | non => cases ry; exact PySem.EqNone.ne_bool_none (fin_bl I q (by simp))
    | bl j => cases ry; exact ne_bool (fin_bl I q (congrArg not dec_bl))
    | str j => obtain ⟨t', rfl⟩ := ry; exact PySem.EqMixed.ne_bool_str (fin_bl I q (by simp))
    | _ => exact absurd (show false = true from hs) Bool.false_ne_true
  | int i =>
    obtain ⟨t, rfl⟩ := rx
    cases y with
    | non => cases ry; exact PySem.EqNone.ne_int_none (fin_bl I q (by simp))
    | int j => obtain ⟨t', rfl⟩ := ry; exact ne_int (fin_bl I q (congrArg not dec_int))
    | str j => obtain ⟨t', rfl⟩ := ry; exact PySem.EqMixed.ne_int_str (fin_bl I q (by simp))
    | _ => exact absurd (show false = true from hs) Bool.false_ne_true
  | str i =>
    obtain ⟨t, rfl⟩ := rx
    cases y with
    | non => cases ry; exact PySem.EqNone.ne_str_none (fin_bl I q (by simp))
    | bl j => cases ry; exact PySem.EqMixed.ne_str_bool (fin_bl I q (by simp))
    | int j => obtain ⟨t', rfl⟩ := ry; exact PySem.EqMixed.ne_str_int (fin_bl I q (by simp))
    | str j => obtain ⟨t', rfl⟩ := ry; exact ne_str (fin_bl I q (congrArg not dec_str))
    | _ => exact absurd (show false = true from hs) Bool.false_ne_true
  | byt i =>
    obtain ⟨t, rfl⟩ := rx
    cases y with
    | byt j => obtain ⟨t', rfl⟩ := ry; exact PySem.W.ne_bytes (fin_bl I q (congrArg not dec_byt))
    | _ => exact absurd (show false = true from hs) Bool.false_ne_true
  | _ => cases y <;> exact absurd (show false = true from hs) Bool.false_ne_true
theorem op_lt : OpR X (compareOp .Lt) (rI0 fun i j => .bl (decide (i < j))) := opB0 fun _ _ _ _ _ _ _ q => lt_int q
theorem op_gt : OpR X (compareOp .Gt) (rI0 fun i j => .bl (decide (j < i))) := opB0 fun _ _ _ _ _ _ _ q => gt_int q
theorem op_ge : OpR X (compareOp .GtE) (rI0 fun i j => .bl (decide (j ≤ i))) := opB0 fun _ _ _ _ _ _ _ q => ge_int q
theorem nomark (b : Expr) {op : CmpOp} (h : op ≠ .In := by decide) (h2 : op ≠ .NotIn := by decide) : behindInMarks op b = false := by
  have e1 : (op == CmpOp.In) = false := by cases op <;> first | rfl | exact absurd rfl h
  have e2 : (op == CmpOp.NotIn) = false := by cases op <;> first | rfl | exact absurd rfl h2
  cases b <;> simp [behindInMarks, e1, e2]
theorem pe_cmpR {op : CmpOp} {r : R2} (ho : OpR X (compareOp op) r) (ha : PE X a ta) (hb : PE X b tb) (hm : behindInMarks op b = false) : PE X (.Compare a [op] [b] pos) (tOp r ta tb) := by
  intro pins s σ H Q I h
  exact wpAny_Compare1 (binT ha hb I h fun v u s2 x y H2 I2 rx ry q => ho pins s2 σ H2 x y v u Q I2 rx ry q) hm
def tTest (t : TE) : TT := fun σ H Q => t σ H fun x H' => ∃ k, x = .bl k ∧ Q k H'
theorem pt_cmpR {op : CmpOp} {r : R2} (ho : OpR X (compareOp op) r) (ha : PE X a ta) (hb : PE X b tb) (hm : behindInMarks op b = false) : PT X (.Compare a [op] [b] pos) (tTest (tOp r ta tb)) := by
  intro pins s σ H Q I h
  refine wpAny_isTrue_Compare1 (thn (ha pins s σ H _ I h) fun v s1 ⟨x, H1, I1, r1, q1⟩ => thn (hb pins s1 σ H1 _ I1 q1) fun u s2 ⟨y, H2, I2, r2, q2⟩ =>
    thn (ho pins s2 σ H2 x y v u _ I2 r1 r2 q2) fun c s3 ⟨z, H3, I3, r3, k, e, q3⟩ => ?_) hm
  subst e
  cases r3
  exact wpAny_truthy_bool ⟨H3, I3, q3⟩
theorem line63 : (sizeLine : Nat) < 2 ^ 63 := by rw [sizeLine_eq]; decide
theorem vals1 {x : V} {us : List Value} (r : Vals [x] us) : ∃ u, us = [u] ∧ RelV x u := by
  cases r with
  | cons r1 r2 => cases r2; exact ⟨_, rfl, r1⟩
theorem call_abs : CallR X (.builtin "abs") (fun xs H Q => ∃ i, xs = [.int i] ∧ Q (.int (if i < 0 then -i else i)) H) := by
  intro pins s σ H xs us Q I r h
  obtain ⟨i, rfl, q⟩ := h
  obtain ⟨u, rfl, t, rfl⟩ := vals1 r
  exact call_abs_int fun u tk => ⟨.int (if i < 0 then -i else i), H, I.tok _, ⟨_, rfl⟩, q⟩
theorem call_int1 : CallR X (.type "int") (fun xs H Q => (∃ i, xs = [.int i] ∧ Q (.int i) H) ∨ ∃ k, xs = [.bl k] ∧ Q (.int (if k then 1 else 0)) H) := by
  intro pins s σ H xs us Q I r h
  rcases h with ⟨i, rfl, q⟩ | ⟨k, rfl, q⟩
  · obtain ⟨u, rfl, t, rfl⟩ := vals1 r
    exact call_int_int ⟨.int i, H, I, ⟨_, rfl⟩, q⟩
  · obtain ⟨u, rfl, r1⟩ := vals1 r
    cases r1
    exact call_int_bool ⟨.int (if k then 1 else 0), H, I.tok _, ⟨_, rfl⟩, q⟩
end
end L2
namespace L2
open PySem PySem.Spec PyProof.Rows
structure ObjM (h : Heap) (x dx C : Addr) (mA : Str → Option Value) : Prop where
  obj : h.get? x = some (PySem.W.instObj C dx)
  ns : h.Ns1 dx mA
  ne : dx ≠ x
theorem lookIn_ns {h : Heap} {dx : Addr} {mA : Str → Option Value} (n : h.Ns1 dx mA) : ∃ od, h.get? dx = some od ∧ ∀ name, PySem.W.lookIn name od = some (mA name) := by
  obtain ⟨o, es, ep, ho, hd, hk, _, hm⟩ := n
  refine ⟨o, ho, fun name => ?_⟩
  have e := hm name
  unfold nsFind findBy at e
  rw [← Array.find?_toList] at e
  unfold PySem.W.lookIn
  rw [hd]
  dsimp only
  split
  · rename_i y q
    rw [q] at e
    exact congrArg some e
  · rename_i q
    rw [q] at e
    have a : es.toList.any (·.refKey) = false := by
      rw [List.any_eq_false]
      intro y hy
      obtain ⟨z, t, hkey⟩ := hk y (Array.mem_toList_iff.mp hy)
      simp [DictEntry.refKey, hkey]
    have a' : ¬ es.toList.any (·.refKey) = true := by rw [a]; exact Bool.false_ne_true
    rw [if_neg a']
    exact congrArg some e
theorem ObjM.look {h : Heap} {x dx C : Addr} {mA : Str → Option Value} (I : ObjM h x dx C mA) : ∃ od, PySem.W.InstAt h x (PySem.W.instObj C dx) C (some od) ∧ ∀ name, PySem.W.lookIn name od = some (mA name) :=
  let ⟨od, ho, hl⟩ := lookIn_ns I.ns
  ⟨od, ⟨I.obj, rfl, rfl, ho⟩, hl⟩
section
variable {P : Program} {w : World} {H H' : Hp} {h h' : Heap} {a C dx : Addr} {fs fs' : List (Str × V)}
theorem ins_get (hok : HOk P w H h) (e : H a = some (.ins C dx fs)) : ∃ mA, ObjM h a dx C mA ∧ (∀ f, RelO (fs.lookup f) (mA f)) ∧ PySem.Within mA (fs.map (·.1)) ∧ fs.length ≤ 1000 ∧ H dx = some (.own a) := by
  obtain ⟨d, z, ne, ob, mA, n, r, q⟩ := (show ObjOk P w H h a (.ins C dx fs) from hok a _ e)
  exact ⟨mA, ⟨ob, n, ne⟩, r, q, z, d⟩
end
structure Cls (K : PySem.W.Frag) (C : Addr) : Prop where
  pg : PySem.W.plainGet K C Str.empty = true
  hd : PySem.W.hasDictIn K C = true
  po : PySem.W.plainOver K C = true
  sa : PySem.W.findIn K (.ref C) "__setattr__" = some (some (.builtin "object.__setattr__"))
theorem Cls.get {K : PySem.W.Frag} {C : Addr} (c : Cls K C) (f : Str) : PySem.W.plainGet K C f = true := c.pg
section
variable {X : Cx} {pins : List (Addr × Obj)} {σ : St} {H : Hp} {s : Shared} {A : Around} {E : Value → Shared → Prop} {Q : Value → Shared → Prop} {c : Value} {b : Bool}
inductive TyOf (K : PySem.W.Frag) (H : Hp) : V → Value → Prop where
  | non : TyOf K H .non (.type "NoneType")
  | bl (x : Bool) : TyOf K H (.bl x) (.type "bool")
  | int (i : Int) : TyOf K H (.int i) (.type "int")
  | str (x : Str) : TyOf K H (.str x) (.type "str")
  | flt (x : UInt64) : TyOf K H (.flt x) (.type "float")
  | lst {a : Addr} {xs : List V} (e : H a = some (.lst xs)) : TyOf K H (.ref a) (.type "list")
  | frz {a : Addr} {o : Obj} {xs : List V} (e : H a = some (.frz o (.lst xs))) : TyOf K H (.ref a) (.type "list")
  | tup {a : Addr} {xs : List V} (e : H a = some (.tup xs)) : TyOf K H (.ref a) (.type "tuple")
  | dK {a : Addr} {kvs : List (Key × V)} (e : H a = some (.dK kvs)) : TyOf K H (.ref a) (.type "dict")
  | dT {a : Addr} {kvs : List (List Key × V)} (e : H a = some (.dT kvs)) : TyOf K H (.ref a) (.type "dict")
  | ins {a C dx : Addr} {fs : List (Str × V)} (e : H a = some (.ins C dx fs)) (cl : Cls K C) (ha : PySem.W.findIn K (.ref C) "__class__" = some (some (.builtin "object.__class__")))
      (hn : PySem.W.specialIn K (.builtin "object.__class__") "__get__" = some (some (.builtin "getset_descriptor.__get__"))) (htk : PySem.W.takesIn K (.builtin "object.__class__") = some true)
      (hm : PySem.W.mroIn K C (.type "object") = some true) : TyOf K H (.ref a) (.ref C)
theorem isinst_ok {x : V} {u t : Value} (I : Inv X pins σ H s) (rx : RelV x u) (ty : TyOf X.K H x t) (e : PySem.W.kitOne X.K t c = some b) (h : ∀ tk, Q (.bool b) { s with toks := tk }) :
    wpAny (model X.prog X.w) A (call (.builtin "isinstance") [u, c]) Q E s := by
  cases ty with
  | non => cases (show u = Value.none from rx); exact PySem.W.kia_one PySem.W.kitx_none I.kIn True.intro e (fun z => nomatch z) h
  | bl y => cases (show u = Value.bool y from rx); exact PySem.W.kia_one PySem.W.kitx_bool I.kIn True.intro e (fun z => nomatch z) h
  | int i => obtain ⟨t, q⟩ := (show ∃ t, u = Value.int i t from rx); cases q; exact PySem.W.kia_one PySem.W.kitx_int I.kIn True.intro e (fun z => nomatch z) h
  | str y => obtain ⟨t, q⟩ := (show ∃ t, u = Value.str y t from rx); cases q; exact PySem.W.kia_one PySem.W.kitx_str I.kIn True.intro e (fun z => nomatch z) h
  | flt y => obtain ⟨t, q⟩ := (show ∃ t, u = Value.float y t from rx); cases q; exact PySem.W.kia_one PySem.W.kitx_float I.kIn True.intro e (fun z => nomatch z) h
  | @lst a xs ea =>
    cases (show u = Value.ref a from rx)
    obtain ⟨_, _, n, _, h1⟩ := (show ObjOk X.prog X.w H s.heap a (.lst xs) from I.hok a _ ea)
    exact PySem.W.kia_one PySem.W.kitx_list I.kIn ⟨_, h1, rfl⟩ e (fun z => nomatch z) h
  | @frz a ob xs ea =>
    cases (show u = Value.ref a from rx)
    obtain ⟨_, _, _, n, _, h1⟩ := (show ObjOk X.prog X.w H s.heap a (.frz ob (.lst xs)) from I.hok a _ ea)
    exact PySem.W.kia_one PySem.W.kitx_list I.kIn ⟨_, h1, rfl⟩ e (fun z => nomatch z) h
  | @tup a xs ea =>
    cases (show u = Value.ref a from rx)
    obtain ⟨_, _, _, p⟩ := (show ObjOk X.prog X.w H s.heap a (.tup xs) from I.hok a _ ea)
    obtain ⟨o, h1, h2, _⟩ := p
    exact PySem.W.kia_one PySem.W.kitx_tuple I.kIn ⟨o, h1, h2⟩ e (fun z => nomatch z) h
  | @dK a kvs ea =>
    cases (show u = Value.ref a from rx)
    obtain ⟨_, _, vs, _, p⟩ := (show ObjOk X.prog X.w H s.heap a (.dK kvs) from I.hok a _ ea)
    obtain ⟨o, es, ep, h1, h2, _⟩ := p
    exact PySem.W.kia_one PySem.W.kitx_dict I.kIn ⟨o, h1, h2.1⟩ e (fun z => nomatch z) h
  | @dT a kvs ea =>
    cases (show u = Value.ref a from rx)
    obtain ⟨_, _, xs, _, o, es, ep, h1, h2, _⟩ := (show ObjOk X.prog X.w H s.heap a (.dT kvs) from I.hok a _ ea)
    exact PySem.W.kia_one PySem.W.kitx_dict I.kIn ⟨o, h1, h2.1⟩ e (fun z => nomatch z) h
  | @ins a C dx fs ea cl ha hn htk hm =>
    cases (show u = Value.ref a from rx)
    obtain ⟨mA, O, _⟩ := ins_get I.hok ea
    obtain ⟨od, J, _⟩ := O.look
    exact PySem.W.kia_one (PySem.W.kitx_own (cl.get _) cl.hd ha hn htk hm) I.kIn J e (fun z => nomatch z) h
end
end L2
namespace L2
open PySem PySem.Spec PyProof.Rows
structure Room (k : Nat) (A : Around) : Prop where
  hd : A.handled = none
  dp : A.depth + 3 * k + 5 < recursionLimit
  un : A.units + 16 * k + 200 < cLine
theorem Room.mono {j k : Nat} {A : Around} (r : Room k A) (h : j ≤ k) : Room j A := ⟨r.hd, by have := r.dp; omega, by have := r.un; omega⟩
theorem Room.deeper {k : Nat} {A : Around} (r : Room (k + 1) A) (env : Env) : Room k (A.deeper env) :=
  ⟨r.hd, by have := r.dp; show A.depth + 1 + 3 * k + 5 < _; omega, by have := r.un; show A.units + 3 + 16 * k + 200 < _; omega⟩
theorem Room.depth {k : Nat} {A : Around} (r : Room k A) : A.depth < recursionLimit := by have := r.dp; omega
theorem Room.units {k : Nat} {A : Around} (r : Room k A) : A.units + 64 < cLine := by have := r.un; omega
def tNil : TA := fun _ H Q => Q [] H
def tCons (ta : TE) (tr : TA) : TA := fun σ H Q => ta σ H fun x H1 => tr σ H1 fun xs H2 => Q (x :: xs) H2
section
variable {X : Cx} {e : Expr} {es : List Expr} {te : TE} {t : TA} {pos : Pos}
theorem pa_nil : PA X [] tNil := fun _ _ _ _ H Q I h => Calls.spliced_nil ⟨[], H, I, .nil, h⟩
theorem pa_cons (ha : PE X e te) (hr : PA X es t) (hs : starEach (e :: es) X.env = (false, eval e X.env) :: starEach es X.env := by rfl) : PA X (e :: es) (tCons te t) := by
  intro pos pins s σ H Q I h
  rw [hs]
  show wpAny _ _ (spliced ((false, eval e X.env) :: backTo pos (starEach es X.env))) _ _ s
  refine Calls.spliced_cons (thn (ha pins s σ H _ I h) fun u s1 ⟨x, H1, I1, r1, q1⟩ => ?_)
  exact thn (hr pos pins s1 σ H1 _ I1 q1) fun us s2 ⟨xs, H2, I2, r2, q2⟩ => ⟨x :: xs, H2, I2, .cons r1 r2, q2⟩
def tTup (t : TA) : TE := fun σ H Q => t σ H fun xs H1 => xs.length ≤ sizeLine ∧ ∀ p, H1 p = none → Q (.ref p) (upd H1 p (.tup xs))
def tLst (t : TA) : TE := fun σ H Q => t σ H fun xs H1 => xs.length ≤ sizeLine ∧ ∀ p, H1 p = none → Q (.ref p) (upd H1 p (.lst xs))
theorem pe_tup {x1} (h : PA X es t) : PE X (.Tuple es x1 pos) (tTup t) := by
  intro pins s σ H Q I hq
  refine wpAny_Tuple_spliced (thn (h pos pins s σ H _ I hq) fun us s1 ⟨xs, H1, I1, r, z, q⟩ => ⟨by rw [← r.length]; exact z, ?_⟩)
  have hf : H1 s1.heap.objs.size = none := I1.hok.fresh (Nat.le_refl _)
  refine ⟨.ref s1.heap.objs.size, upd H1 s1.heap.objs.size (.tup xs), I1.laid (t' := s1.toks) (fun b u e => Heap.get?_push_of_some _ e) (Nat.le_refl _) ?_, rfl, q _ hf⟩
  exact ⟨z, us, r, ⟨_, Heap.get?_push_size _ rfl, rfl, _, rfl⟩⟩
theorem pe_lst (h : PA X es t) : PE X (.List es pos) (tLst t) := by
  intro pins s σ H Q I hq
  refine wpAny_List_spliced (thn (h pos pins s σ H _ I hq) fun us s1 ⟨xs, H1, I1, r, z, q⟩ => ⟨by rw [← r.length]; exact z, ?_⟩)
  have hf : H1 s1.heap.objs.size = none := I1.hok.fresh (Nat.le_refl _)
  refine ⟨.ref s1.heap.objs.size, upd H1 s1.heap.objs.size (.lst xs), I1.laid (t' := s1.toks) (fun b u e => Heap.get?_push_of_some _ e) (Nat.le_refl _) ?_, rfl, q _ hf⟩
  exact ⟨z, us, 0, r, Heap.get?_push_size _ rfl⟩
end
abbrev Sp := List V → Hp → VK → XK → Prop
abbrev CXT := List Env → Hp → Shared → XK → Value → Shared → Prop
structure Env0 (P : Program) (w : World) (K : PySem.W.Frag) (mg : Str → Option Value) (base : Heap) (A : Around) (outer : List Env) (s : Shared) (H : Hp) : Prop where
  frames : A.frames = some outer
  mod : Mod K mg base
  bs : ∀ b o, base.get? b = some o → s.heap.get? b = some o ∧ H b = none
  bsz : base.objs.size ≤ s.heap.objs.size
  funs : s.heap.FunFrames base outer
  frf : ∀ b ∈ frs outer, H b = none
  hok : HOk P w H s.heap
  bare : AllBare s.gens
def CE (outer : List Env) (P : Program) (w : World) (H : Hp) (s : Shared) (Q : VK) (u : Value) (s' : Shared) : Prop :=
  ∃ v H', s'.os = s.os ∧ AllBare s'.gens ∧ Un (frs outer) [] H H' s.heap s'.heap ∧ HOk P w H' s'.heap ∧ RelV v u ∧ Q v H'
def CR (CX : CXT) (outer : List Env) (P : Program) (w : World) (H : Hp) (s : Shared) (Q : VK) (E : XK) (r : Result) (s' : Shared) : Prop :=
  match r with
  | .ok (.ret u) => CE outer P w H s Q u s'
  | .ok _ => False
  | .error e => CX outer H s E e s'
structure FnOk (P : Program) (w : World) (K : PySem.W.Frag) (mg : Str → Option Value) (base : Heap) (CX : CXT) (k : Nat) (f : Addr) (fd : FuncData) (ps : List Str) (sp : Sp) : Prop where
  len : ∀ vs H Q E, sp vs H Q E → vs.length = ps.length
  run : ∀ (A : Around) (outer : List Env) (s : Shared) (H : Hp) (args : Args) (us : List Value) (vs : List V) (Q : VK) (E : XK), Room k A → Env0 P w K mg base A outer s H → BindsTo s fd args (ps.zip us) → Vals vs us → sp vs H Q E →
    codeAny (model P w) A (.call (.ref f) args) (CR CX outer P w H s Q E) s
theorem FnOk.imp {P : Program} {w : World} {K : PySem.W.Frag} {mg : Str → Option Value} {base : Heap} {CX : CXT} {k : Nat} {f : Addr} {fd : FuncData} {ps : List Str} {sp sp' : Sp} (F : FnOk P w K mg base CX k f fd ps sp)
    (h : ∀ vs H Q E, sp' vs H Q E → sp vs H Q E) : FnOk P w K mg base CX k f fd ps sp' :=
  ⟨fun vs H Q E q => F.len vs H Q E (h _ _ _ _ q), fun A outer s H args us vs Q E hr he hb hv hs => F.run A outer s H args us vs Q E hr he hb hv (h _ _ _ _ hs)⟩
section
variable {X : Cx} {pins : List (Addr × Obj)} {σ : St} {H : Hp} {s s' : Shared}
theorem Inv.env0 (I : Inv X pins σ H s) : Env0 X.prog X.w X.K X.mg X.base X.A X.stack s H :=
  ⟨I.ok.frames, I.ok.mod, I.bs, Nat.le_trans I.ok.bsz I.sz, I.stack, I.stkFree, I.hok, I.bare⟩
theorem Inv.after {Q : VK} {u : Value} (I : Inv X pins σ H s) (h : CE X.stack X.prog X.w H s Q u s') : EP X pins σ Q u s' := by
  obtain ⟨v, H', os, bare, un, hok, r, q⟩ := h
  obtain ⟨hh, g, d, t, os'⟩ := s'
  obtain rfl : os' = s.os := os
  exact ⟨v, H', I.call (h' := hh) (g' := g) (d' := d) (t' := t) (ch := []) un hok bare (fun b z => absurd z (by simp)), r, q⟩
end
def tCall (sp : Sp) (dvs : List V) (E : XK) (t : TA) : TE := fun σ H Q => t σ H fun vs H1 => sp (vs ++ dvs) H1 Q E
def Binds (K : PySem.W.Frag) (fd : FuncData) (ps : List Str) (ds : List Value) : Prop :=
  ∀ (s : Shared) (us : List Value), K.In s.heap → (us ++ ds).length = ps.length → BindsTo s fd ⟨us, []⟩ (ps.zip (us ++ ds))
theorem Binds.all {K : PySem.W.Frag} {fd : FuncData} {ps : List Str} (h : ∀ us : List Value, us.length = ps.length → bindArgs fd ⟨us, []⟩ = pure (ps.zip us)) : Binds K fd ps [] := fun s us _ hl => by
  rw [List.append_nil] at hl ⊢
  exact .of_eq (h us hl)
def Passes (CX : CXT) (X : Cx) (E : XK) : Prop := ∀ (pins : List (Addr × Obj)) (σ : St) (H : Hp) (s : Shared) (e : Value) (s' : Shared), Inv X pins σ H s → CX X.stack H s E e s' → X.xe e s'
section
variable {X : Cx} {CX : CXT} {k : Nat} {f C : Addr} {fd : FuncData} {ps : List Str} {sp : Sp} {dvs : List V} {ds : List Value} {E : XK} {x m : Str} {p pos apos : Pos} {e o : Expr} {es : List Expr} {ta : TE} {t : TA}
theorem run_fn {pins : List (Addr × Obj)} {σ : St} {H : Hp} {s : Shared} {Q : VK} {us : List Value} {vs : List V} (F : FnOk X.prog X.w X.K X.mg X.base CX k f fd ps sp) (hr : Room k X.A) (hb : Binds X.K fd ps ds) (hd : Vals dvs ds) (hx : Passes CX X E)
    (I : Inv X pins σ H s) (r : Vals vs us) (h : sp (vs ++ dvs) H Q E) : wpAny (model X.prog X.w) X.A (call (.ref f) us) (EP X pins σ Q) X.xe s := by
  have r2 : Vals (vs ++ dvs) (us ++ ds) := r.append hd
  have hl : (us ++ ds).length = ps.length := by rw [← r2.length]; exact F.len _ _ _ _ h
  refine wpAny_call (codeAny_mono (F.run X.A X.stack s H ⟨us, []⟩ (us ++ ds) (vs ++ dvs) Q E hr I.env0 (hb s us I.kIn hl) r2 h) fun r s' hq => ?_)
  cases r with
  | error e => exact hx pins σ H s e s' I hq
  | ok fl =>
    cases fl with
    | ret u => exact I.after hq
    | next => exact False.elim hq
    | brk => exact False.elim hq
    | cont => exact False.elim hq
theorem pe_call (F : FnOk X.prog X.w X.K X.mg X.base CX k f fd ps sp) (hr : Room k X.A) (hg : Gl X x) (hm : X.mg x = some (.ref f)) (hk : PySem.W.keepIn X.K (.ref f) = true) (hb : Binds X.K fd ps ds) (hd : Vals dvs ds) (hx : Passes CX X E)
    (ha : PA X (e :: es) t) (hdb : (x == ("__debug__" : Str)) = false := by decide) (he : starEach (e :: es) X.env = (false, eval e X.env) :: starEach es X.env := by rfl) (hpl : (backTo pos (starEach es X.env)).any (·.1) = false := by rfl) :
    PE X (.Call (.Name x p) (e :: es) [] pos) (tCall sp dvs E t) := by
  intro pins s σ H Q I h
  refine wpAny_Call_Name_kw (ld_glob I hg hm ?_ hdb)
  refine PySem.W.callWith_K (h₀ := X.base) I.ok.mod.kin hk (thn (ha pos pins s σ H _ I h) fun us s1 ⟨vs, H1, I1, r, q⟩ => ⟨I1.kIn, ?_⟩) he hpl
  exact run_fn F hr hb hd hx I1 r q
end
structure FnScope (N P : List Str) (sc : Scope) : Prop where
  kind : sc.kind = .function
  co : sc.isCoroutine = false
  gen : sc.isGenerator = false
  nd : N.Nodup
  pre : N.take P.length = P
  par : ∀ x ∈ P, sc.names.lookup x = some .local ∨ sc.names.lookup x = some .cell
  nofree : ∀ y ∈ sc.names, y.2 ≠ .free
theorem bindL_out {kindOf : Str → Option NameKind} {x : Str} : ∀ {binds : List (Str × Value)} {m : Str → Option Value}, (∀ v, (x, v) ∉ binds) → bindL kindOf binds m x = m x
  | [], _, _ => rfl
  | (n, v) :: r, m, h => by
    unfold bindL
    rw [bindL_out fun w hw => h w (List.mem_cons_of_mem _ hw)]
    split
    · have : x ≠ n := by rintro rfl; exact h v List.mem_cons_self
      simp [this]
    · rfl
theorem bindC_out {kindOf : Str → Option NameKind} {x : Str} : ∀ {binds : List (Str × Value)} {m : Str → Option Value}, (∀ v, (x, v) ∉ binds) → bindC kindOf binds m x = m x
  | [], _, _ => rfl
  | (n, v) :: r, m, h => by
    unfold bindC
    rw [bindC_out fun w hw => h w (List.mem_cons_of_mem _ hw)]
    split
    · rfl
    · have : x ≠ n := by rintro rfl; exact h v List.mem_cons_self
      simp [this]
theorem bindL_get {kindOf : Str → Option NameKind} {x : Str} {v : Value} : ∀ {P : List Str} {vs : List Value} {i : Nat} {m : Str → Option Value}, P.Nodup → P[i]? = some x → vs[i]? = some v → kindOf x = some .local →
    bindL kindOf (P.zip vs) m x = some v
  | [], _, _, _, _, h, _, _ => by simp at h
  | _ :: _, [], _, _, _, _, h, _ => by simp at h
  | p :: P, w :: vs, 0, m, nd, h1, h2, hk => by
    simp at h1 h2; subst h1; subst h2
    show bindL kindOf ((p, w) :: P.zip vs) m p = _
    unfold bindL
    rw [bindL_out fun v hv => (List.nodup_cons.mp nd).1 (List.of_mem_zip hv).1, if_pos hk]
    simp
  | p :: P, w :: vs, i + 1, m, nd, h1, h2, hk => by
    show bindL kindOf ((p, w) :: P.zip vs) m x = _
    unfold bindL
    exact bindL_get (i := i) (List.nodup_cons.mp nd).2 (by simpa using h1) (by simpa using h2) hk
theorem bindC_get {kindOf : Str → Option NameKind} {x : Str} {v : Value} : ∀ {P : List Str} {vs : List Value} {i : Nat} {m : Str → Option Value}, P.Nodup → P[i]? = some x → vs[i]? = some v → kindOf x ≠ some .local →
    bindC kindOf (P.zip vs) m x = some v
  | [], _, _, _, _, h, _, _ => by simp at h
  | _ :: _, [], _, _, _, _, h, _ => by simp at h
  | p :: P, w :: vs, 0, m, nd, h1, h2, hk => by
    simp at h1 h2; subst h1; subst h2
    show bindC kindOf ((p, w) :: P.zip vs) m p = _
    unfold bindC
    rw [bindC_out fun v hv => (List.nodup_cons.mp nd).1 (List.of_mem_zip hv).1, if_neg hk]
    simp
  | p :: P, w :: vs, i + 1, m, nd, h1, h2, hk => by
    show bindC kindOf ((p, w) :: P.zip vs) m x = _
    unfold bindC
    exact bindC_get (i := i) (List.nodup_cons.mp nd).2 (by simpa using h1) (by simpa using h2) hk
def start (N : List Str) (vs : List V) : St := vs.map some ++ List.replicate (N.length - vs.length) none
def cxOf (CX : CXT) (P : Program) (w : World) (K : PySem.W.Frag) (mg : Str → Option Value) (base : Heap) (N : List Str) (qual : Str) (scope : Scope) (f : Addr) (cd : Value) (A : Around) (outer : List Env) (s : Shared) (H : Hp) (E : XK) : Cx where
  prog := P
  w := w
  K := K
  mg := mg
  base := base
  A := A.deeper (envOfC qual scope s.heap.objs.size f cd)
  N := N
  s₀ := s
  H₀ := H
  env := envOfC qual scope s.heap.objs.size f cd
  outer := outer
  stack := envOfC qual scope s.heap.objs.size f cd :: outer
  ex := []
  calm := true
  fn := fun _ => true
  pn := []
  xe := fun e s' => wpAny (model P w) (A.deeper (envOfC qual scope s.heap.objs.size f cd)) (leaving (envOfC qual scope s.heap.objs.size f cd) e) (fun _ s'' => CX outer H s E e s'') (fun e' s'' => CX outer H s E e' s'') s'
theorem cell_has {sc : Scope} {n : Nat} {x : Str} (h : sc.names.lookup x = some .cell) : ∃ c, (cellsFrom n sc.names []).lookup x = some c := by
  have q := PySem.W.cellsFrom_some sc.names n [] (.inl h)
  exact Option.isSome_iff_exists.mp q
theorem inv_start {CX : CXT} {P : Program} {w : World} {K : PySem.W.Frag} {mg : Str → Option Value} {base : Heap} {N ps : List Str} {qual : Str} {scope : Scope} {f : Addr} {cd : Value} {A : Around} {outer : List Env} {s s1 : Shared} {H : Hp} {E : XK} {us : List Value} {vs : List V}
    (S : FnScope N ps scope) (hd : A.handled = none) (e0 : Env0 P w K mg base A outer s H) (hl : vs.length = ps.length) (r : Vals vs us)
    (x : InCallC s s.heap.objs.size (bindL (envOfC qual scope s.heap.objs.size f cd).kindOf (ps.zip us) fun _ => none) (cellsFrom (s.heap.objs.size + 1) scope.names []) (bindC (envOfC qual scope s.heap.objs.size f cd).kindOf (ps.zip us) fun _ => none) s1) :
    Inv (cxOf CX P w K mg base N qual scope f cd A outer s H E) [] (start N vs) H s1 := by
  have hpl : ps.length ≤ N.length := by have := congrArg List.length S.pre; rw [List.length_take] at this; omega
  obtain ⟨h1, tk, rfl, hk⟩ := x.done
  have noA : ∀ b : Addr, b ∉ (cxOf CX P w K mg base N qual scope f cd A outer s H E).ex := fun b z => absurd (show b ∈ ([] : List Addr) from z) (by simp)
  refine ⟨⟨e0.mod, S.kind, rfl, rfl, Nat.le_refl _, fun y z c h1 h2 => ?_, fun y hy => ?_, fun y c _ h => ?_, fun _ => hd, Around.frames_deeper e0.frames, .inr ⟨rfl, rfl⟩, fun b z => absurd z (noA b), e0.bs, e0.bsz, fun b _ _ => noA b, fun b z => absurd z (noA b), e0.funs, e0.frf⟩,
    rfl, e0.bare, Un.kept hk, ⟨_, x.toInCall.ns, fun i y v h1 h2 h3 => ?_⟩, fun y c h => ⟨_, x.cell y c h⟩, e0.hok.fresh (Nat.le_refl _), fun y c h => ?_, fun p hp => absurd (show p ∈ ([] : List (Addr × Obj)) from hp) (by simp), e0.hok.kept hk, ?_⟩
  · exact name_of_addr x.apart (PySem.mem_of_lookup h1) (PySem.mem_of_lookup h2)
  · have hy : scope.names.lookup y = some .cell ∨ scope.names.lookup y = some .free := hy
    rcases hy with hy | hy
    · exact cell_has hy
    · exact absurd rfl (S.nofree _ (PySem.mem_of_lookup hy))
  · exact Nat.le_of_lt (x.above y c (PySem.mem_of_lookup h))
  · have hi : i < vs.length := by
      unfold start at h2
      by_cases hi : i < vs.length
      · exact hi
      · rw [List.getElem?_append_right (by simpa using hi)] at h2
        rw [List.getElem?_replicate] at h2
        split at h2 <;> cases h2
    have ha : vs[i]? = some v := by
      unfold start at h2
      rw [List.getElem?_append_left (by simpa using hi), List.getElem?_map] at h2
      cases e : vs[i]? with
      | none => rw [e] at h2; cases h2
      | some a => rw [e] at h2; cases h2; rfl
    obtain ⟨u, hu, rv⟩ := r.get ha
    have hp : ps[i]? = some y := by
      rw [← S.pre, List.getElem?_take_of_lt (by omega)]; exact h1
    have ndP : ps.Nodup := by rw [← S.pre]; exact S.nd.sublist (List.take_sublist _ _)
    refine ⟨u, rv, ?_⟩
    rcases S.par y (List.mem_of_getElem? hp) with k | k
    · exact .inl ⟨k, bindL_get ndP hp hu k⟩
    · obtain ⟨c, e⟩ := cell_has (n := s.heap.objs.size + 1) k
      refine .inr ⟨.inl k, c, e, ?_⟩
      have q := x.cell y c e
      rw [bindC_get ndP hp hu (by show scope.names.lookup y ≠ _; rw [k]; decide)] at q
      exact q
  · exact e0.hok.fresh (Nat.le_of_lt (x.above y c (PySem.mem_of_lookup h)))
  · unfold start
    show _ = N.length
    rw [List.length_append, List.length_map, List.length_replicate]
    omega
theorem fn_of {CX : CXT} {P : Program} {w : World} {K : PySem.W.Frag} {mg : Str → Option Value} {base : Heap} {k : Nat} {f : Addr} {name qual : Str} {params : Arguments} {body : List Stmt} {scope : Scope} {dV kV doc pm cdv ct oc : Value} {an od : Option Addr}
    {osl : Array (Option Value)} {N ps : List Str} {sp : Sp} (lk : K.lookup f = some ⟨oc, od, .func (PySem.W.fnOf name qual params body scope dV kV doc pm an cdv ct), osl⟩) (hcd : PySem.W.codeIn K cdv qual = true) (S : FnScope N ps scope)
    (len : ∀ vs H Q E, sp vs H Q E → vs.length = ps.length)
    (hbody : ∀ (A : Around) (outer : List Env) (s : Shared) (H : Hp) (vs : List V) (Q : VK) (E : XK), Room k (A.deeper (envOfC qual scope s.heap.objs.size f cdv)) → sp vs H Q E →
      ∃ t, PSs (cxOf CX P w K mg base N qual scope f cdv A outer s H E) body t ∧ t { nx := fun _ H' => Q .non H', rt := Q } (start N vs) H) :
    FnOk P w K mg base CX (k + 1) f (PySem.W.fnOf name qual params body scope dV kV doc pm an cdv ct) ps sp := by
  refine ⟨len, fun A outer s H args us vs Q E hr e0 hb r hsp => ?_⟩
  have hl := len _ _ _ _ hsp
  have KX : K.In s.heap := e0.mod.kin.keeps fun b o e => (e0.bs b o e).1
  have lim : s.heap.NoLimit := e0.mod.nolimit.keeps fun b o e => (e0.bs b o e).1
  have hkind : ∀ y ∈ ps.zip us, scope.names.lookup y.1 = some .local ∨ (scope.names.lookup y.1 = some .cell ∧ ((cellsFrom (s.heap.objs.size + 1) scope.names []).lookup y.1).isSome = true) := fun ⟨n, v⟩ hy => by
    rcases S.par n (List.of_mem_zip hy).1 with q | q
    · exact .inl q
    · exact .inr ⟨q, PySem.W.cellsFrom_some _ _ _ (.inl q)⟩
  refine codeAny_call_function hr.depth (KX _ _ lk) rfl S.co S.gen rfl (PySem.W.codeRec_of KX hcd) (hb _ _ _ _ ?_)
  refine wpAny_newFunctionEnv_cells S.kind hkind fun env he s1 x => ?_
  subst he
  refine ⟨lim.keeps x.toInCall.keep, codeAny_func ?_⟩
  obtain ⟨t, ht, hq⟩ := hbody A outer s H vs Q E (hr.deeper _) hsp
  have I : Inv (cxOf CX P w K mg base N qual scope f cdv A outer s H E) [] (start N vs) H s1 := inv_start S hr.hd e0 hl r x
  refine wpAny_mono (ht [] s1 (start N vs) H _ I hq) (fun fl s' hs => ?_) fun e s' hs => hs
  have fin : ∀ {σ' : St} {H' : Hp} {v : V} {u : Value}, Inv (cxOf CX P w K mg base N qual scope f cdv A outer s H E) [] σ' H' s' → RelV v u → Q v H' → CE outer P w H s Q u s' :=
    fun {σ' H' v u} J rv q => ⟨v, H', J.os, J.bare, J.base, J.hok, rv, q⟩
  cases fl with
  | ret u =>
    obtain ⟨v, σ', H', J, rv, q⟩ := hs
    exact fin J rv q
  | next =>
    obtain ⟨σ', H', J, q⟩ := hs
    exact fin (v := V.non) (u := Value.none) J rfl q
  | brk =>
    obtain ⟨_, _, _, q⟩ := hs
    exact False.elim q
  | cont =>
    obtain ⟨_, _, _, q⟩ := hs
    exact False.elim q
end L2
namespace L2
open PySem PySem.Spec PyProof.Rows
section
variable {X : Cx} {x : Str} {p pos : Pos} {e : Expr} {es : List Expr} {t : TA} {id T : String} {r : List V → Hp → VK → Prop}
def tCB (r : List V → Hp → VK → Prop) (t : TA) : TE := fun σ H Q => t σ H fun vs H1 => r vs H1 Q
theorem pe_callB (hc : CallR X (.builtin id) r) (hg : Gl X x) (hm : X.mg x = none) (hv : bootBuiltins x = some (.builtin id)) (ha : PA X (e :: es) t) (hn : x ≠ "__name__" := by decide) (hdb : (x == ("__debug__" : Str)) = false := by decide)
    (he : starEach (e :: es) X.env = (false, eval e X.env) :: starEach es X.env := by rfl) (hpl : (backTo pos (starEach es X.env)).any (·.1) = false := by rfl) : PE X (.Call (.Name x p) (e :: es) [] pos) (tCB r t) := by
  intro pins s σ H Q I h
  refine wpAny_Call_Name_kw (ld_blt I hg hm hv ?_ hn hdb)
  exact PyProof.Rows.callWith_builtin1 (thn (ha pos pins s σ H _ I h) fun us s1 ⟨vs, H1, I1, r1, q1⟩ => hc pins s1 σ H1 vs us Q I1 r1 q1) he hpl
theorem pe_callTy (hc : CallR X (.type T) r) (hg : Gl X x) (hm : X.mg x = none) (hv : bootBuiltins x = some (.type T)) (ha : PA X (e :: es) t) (hn : x ≠ "__name__" := by decide) (hdb : (x == ("__debug__" : Str)) = false := by decide)
    (he : starEach (e :: es) X.env = (false, eval e X.env) :: starEach es X.env := by rfl) (hpl : (backTo pos (starEach es X.env)).any (·.1) = false := by rfl) : PE X (.Call (.Name x p) (e :: es) [] pos) (tCB r t) := by
  intro pins s σ H Q I h
  refine wpAny_Call_Name_kw (ld_blt I hg hm hv ?_ hn hdb)
  exact PyProof.Rows.callWith_type1 (thn (ha pos pins s σ H _ I h) fun us s1 ⟨vs, H1, I1, r1, q1⟩ => hc pins s1 σ H1 vs us Q I1 r1 q1) he hpl
end
end L2
namespace HT
open PySem PyProof.Rows
section
variable {prog : Program} {w : World} {A : Around} {E : Value → Shared → Prop} {s : Shared}
def sIx (n d : Nat) : Option Int → Nat
  | none => d
  | some v => if v < 0 then (v + (n : Int)).toNat else min v.toNat n
theorem sIx_nat (n d k : Nat) : sIx n d (some (k : Int)) = min k n := by
  show (if (k : Int) < 0 then ((k : Int) + (n : Int)).toNat else min (k : Int).toNat n) = min k n
  rw [if_neg (by omega), Int.toNat_natCast]
end
end HT
namespace L2
open PySem PySem.Spec PyProof.Rows
abbrev TO := St → Hp → (Option Int → Hp → Prop) → Prop
def PO (X : Cx) (e : Option Expr) (t : TO) : Prop :=
  ∀ (pins : List (Addr × Obj)) (s : Shared) (σ : St) (H : Hp) (Q : Option Int → Hp → Prop), Inv X pins σ H s → t σ H Q →
    wpAny (model X.prog X.w) X.A (evalPart e X.env) (fun u s' => ∃ o H', Inv X pins σ H' s' ∧ IsPart u o ∧ Q o H') X.xe s
def tPart (t : TE) : TO := fun σ H Q => t σ H fun x H1 => ∃ i, x = .int i ∧ Q (some i) H1
theorem intsAre_of {ns : List Int} : ∀ {us : List Value}, Vals (ns.map V.int) us → IntsAre us ns := by
  induction ns with
  | nil => intro us r; rw [List.map_nil] at r; cases r; exact .nil
  | cons n ns ih =>
    intro us r
    rw [List.map_cons] at r
    cases r with
    | cons r1 r2 =>
      obtain ⟨t, e⟩ := r1
      subst e
      exact .cons n t (ih r2)
section
variable {X : Cx} {e : Expr} {te : TE} {lo hi : Option Expr} {tl th : TO} {pos p2 : Pos}
theorem po_some (h : PE X e te) : PO X (some e) (tPart te) := by
  intro pins s σ H Q I hw
  rw [evalPart_some]
  refine thn (h pins s σ H _ I hw) fun u s1 ⟨x, H1, I1, r1, q1⟩ => ?_
  obtain ⟨i, rfl, q⟩ := q1
  obtain ⟨t, rfl⟩ := r1
  exact ⟨some i, H1, I1, .int i t, q⟩
def SlR (X : Cx) (r : V → Option Int → Option Int → Hp → VK → Prop) : Prop :=
  ∀ (pins : List (Addr × Obj)) (s : Shared) (σ : St) (H : Hp) (x : V) (v vl vu : Value) (lo hi : Option Int) (sl : Addr) (Q : VK), Inv X pins σ H s → RelV x v → s.heap.IsSliceOf sl vl vu .none → IsPart vl lo → IsPart vu hi → r x lo hi H Q →
    ∃ T id, typeLookup (.type T) "__getitem__" = pure (some (.builtin id)) ∧ s.TypeIs v T ∧ wpAny (model X.prog X.w) X.A (getItem v (.ref sl)) (EP X pins σ Q) X.xe s
def tSl (r : V → Option Int → Option Int → Hp → VK → Prop) (te : TE) (tl th : TO) : TE := fun σ H Q => te σ H fun x H1 => tl σ H1 fun l H2 => th σ H2 fun u H3 => r x l u H3 Q
theorem pe_slice {r : V → Option Int → Option Int → Hp → VK → Prop} (hr : SlR X r) (he : PE X e te) (hl : PO X lo tl) (hu : PO X hi th) : PE X (.Subscript e (.Slice lo hi none p2) pos) (tSl r te tl th) := by
  intro pins s σ H Q I h
  refine Subscript_ (thn (he pins s σ H _ I h) fun v s1 ⟨x, H1, I1, r1, q1⟩ => ?_)
  refine wpAny_Slice (thn (hl pins s1 σ H1 _ I1 q1) fun vl s2 ⟨l, H2, I2, pl, q2⟩ => thn (hu pins s2 σ H2 _ I2 q2) fun vu s3 ⟨u, H3, I3, pu, q3⟩ => ?_)
  rw [evalPart_none]
  refine wpAny_pure ?_
  have I4 : Inv X pins σ H3 { s3 with heap := s3.heap.push { cls := .type "slice", data := .fields #[vl, vu, .none] } } := I3.kept (t' := s3.toks) fun b ob q => Heap.get?_push_of_some _ q
  obtain ⟨T, id, hT, ht, hg⟩ := hr pins { s3 with heap := s3.heap.push { cls := .type "slice", data := .fields #[vl, vu, .none] } } σ H3 x v vl vu l u s3.heap.objs.size Q I4 r1 (Heap.IsSliceOf.new ..) pl pu q3
  show wpAny (model X.prog X.w) X.A (subscriptTail e (.Slice lo hi none p2) v (.ref s3.heap.objs.size)) (EP X pins σ Q) X.xe { s3 with heap := s3.heap.push { cls := .type "slice", data := .fields #[vl, vu, .none] } }
  exact tail_any (ops := [.ref s3.heap.objs.size, v]) ht hT hg (by with_unfolding_all rfl)
def cutV (xs : List V) (lo hi : Option Int) : List V := (xs.drop (HT.sIx xs.length 0 lo)).take (HT.sIx xs.length xs.length hi - HT.sIx xs.length 0 lo)
theorem cutV_length (xs : List V) (lo hi : Option Int) : (cutV xs lo hi).length ≤ xs.length := by
  unfold cutV
  rw [List.length_take, List.length_drop]
  omega
end
end L2
namespace L2
open PySem PySem.Spec PyProof.Rows
def ixN (n : Nat) (i : Int) : Option Nat := if 0 ≤ i then (if i < n then some i.toNat else none) else if -(n : Int) ≤ i then some (i + n).toNat else none
def atI {α : Type} (xs : List α) (i : Int) : Option α := (ixN xs.length i).bind fun j => xs[j]?
theorem ixN_seq {n : Nat} {i : Int} {j : Nat} (h : ixN n i = some j) : seqIndex? i n = some j ∧ j < n ∧ -(n : Int) ≤ i ∧ i < n := by
  unfold ixN at h
  by_cases h0 : 0 ≤ i
  · rw [if_pos h0] at h
    by_cases h1 : i < n
    · rw [if_pos h1] at h
      have e : i.toNat = j := Option.some.inj h
      exact ⟨by rw [seqIndex_of h0 h1, e], by omega, by omega, h1⟩
    · rw [if_neg h1] at h; cases h
  · rw [if_neg h0] at h
    by_cases h1 : -(n : Int) ≤ i
    · rw [if_pos h1] at h
      have e : (i + n).toNat = j := Option.some.inj h
      exact ⟨by rw [seqIndex_neg (by omega) h1, e], by omega, h1, by omega⟩
    · rw [if_neg h1] at h; cases h
theorem atI_get {α : Type} {xs : List α} {i : Int} {v : α} (h : atI xs i = some v) : ∃ j, seqIndex? i xs.length = some j ∧ xs[j]? = some v ∧ j < xs.length ∧ -(xs.length : Int) ≤ i ∧ i < xs.length := by
  unfold atI at h
  cases e : ixN xs.length i with
  | none => rw [e] at h; cases h
  | some j =>
    rw [e] at h
    obtain ⟨h1, h2, h3, h4⟩ := ixN_seq e
    exact ⟨j, h1, h, h2, h3, h4⟩
theorem atI_nat {α : Type} {xs : List α} {j : Nat} {v : α} (h : xs[j]? = some v) : atI xs (j : Int) = some v := by
  have hj : j < xs.length := (List.getElem?_eq_some_iff.mp h).1
  have e : ixN xs.length (j : Int) = some j := by
    unfold ixN
    rw [if_pos (by omega), if_pos (by omega)]; simp
  unfold atI; rw [e]; exact h
def PlainIx (b : Expr) : Prop := ∀ o i, subscripted b false o i = operate [o, i] (getItem o i)
def IxR (X : Cx) (r : R2) : Prop :=
  ∀ (value slice : Expr) (pins : List (Addr × Obj)) (s : Shared) (σ : St) (H : Hp) (x y : V) (v u : Value) (Q : VK), Inv X pins σ H s → RelV x v → RelV y u → r x y H Q →
    subscripted slice false v u = operate [v, u] (getItem v u) → wpAny (model X.prog X.w) X.A (subscriptTail value slice v u) (EP X pins σ Q) X.xe s
def MtR (X : Cx) (id : String) (r : V → List V → Hp → VK → Prop) : Prop :=
  ∀ (pins : List (Addr × Obj)) (s : Shared) (σ : St) (H : Hp) (x : V) (xs : List V) (v : Value) (us : List Value) (Q : VK), Inv X pins σ H s → RelV x v → Vals xs us → r x xs H Q →
    wpAny (model X.prog X.w) X.A (call (.builtin id) (v :: us)) (EP X pins σ Q) X.xe s
section
variable {X : Cx} {a b : Expr} {ta tb : TE} {pos : Pos}
theorem pe_ix {r : R2} (hr : IxR X r) (ha : PE X a ta) (hb : PE X b tb) (hs : PlainIx b) : PE X (.Subscript a b pos) (tOp r ta tb) := by
  intro pins s σ H Q I h
  exact Subscript_ (binT ha hb I h fun v u s2 x y H2 I2 rx ry q => hr a b pins s2 σ H2 x y v u Q I2 rx ry q (hs _ _))
def rIxL (K : PySem.W.Frag) : R2 := fun x y H Q => ∃ p xs i v, x = .ref p ∧ y = .int i ∧ SqL K H p xs ∧ atI xs i = some v ∧ Q v H
def rIxT (K : PySem.W.Frag) : R2 := fun x y H Q => ∃ p xs i v, x = .ref p ∧ y = .int i ∧ SqT K H p xs ∧ atI xs i = some v ∧ Q v H
theorem ix_list : IxR X (rIxL X.K) := by
  intro value slice pins s σ H x y v u Q I rx ry h hs
  obtain ⟨p, xs, i, z, rfl, rfl, hq, he, q⟩ := h
  cases rx
  obtain ⟨t, rfl⟩ := ry
  obtain ⟨its, r, pl, hz⟩ := I.list hq
  obtain ⟨j, h1, h2, h3, h4, h5⟩ := atI_get he
  obtain ⟨w, ew, rw'⟩ := r.get h2
  have hl := r.length
  have hn := line63
  have fin : EP X pins σ Q w s := ⟨z, H, I, rw', q⟩
  by_cases h0 : 0 ≤ i
  · have hj : i.toNat = j := by
      rw [seqIndex_of h0 h5] at h1
      exact Option.some.inj h1
    exact item_listR pl.isList h0 (by omega) (by rw [hj]; simpa using ew) fin hs
  · have hj : (i + (its.toArray.size : Int)).toNat = j := by
      rw [seqIndex_neg (by omega) h4] at h1
      rw [List.size_toArray, ← hl]
      exact Option.some.inj h1
    exact subscriptTail_builtinR (x := w) pl.isList.typeIs slot_list_getitem.lookup
      (wpAny_getItem_list_neg (Q := fun r s' => r = w ∧ EP X pins σ Q r s') pl.isList (by omega) (by rw [List.size_toArray] <;> omega) (by omega) (by rw [hj]; simpa using ew) ⟨rfl, fin⟩) hs
theorem ix_tup : IxR X (rIxT X.K) := by
  intro value slice pins s σ H x y v u Q I rx ry h hs
  obtain ⟨p, xs, i, z, rfl, rfl, hq, he, q⟩ := h
  cases rx
  obtain ⟨t, rfl⟩ := ry
  obtain ⟨its, r, pl, hz⟩ := I.tuple hq
  obtain ⟨j, h1, h2, h3, h4, h5⟩ := atI_get he
  obtain ⟨w, ew, rw'⟩ := r.get h2
  have hl := r.length
  have hn := line63
  have fin : EP X pins σ Q w s := ⟨z, H, I, rw', q⟩
  exact subscriptTail_builtinR (x := w) pl.typeIs slot_tuple_getitem.lookup
    (getItem_tuple (j := j) (Q := fun r s' => r = w ∧ EP X pins σ Q r s') pl (by omega) (by omega) (by rw [List.size_toArray, ← hl]; exact h1) (by simpa using ew) ⟨rfl, fin⟩) hs
theorem mapSeq_set (its : List Value) (n j : Nat) (u : Value) : Obj.mapSeq (·.setIfInBounds j u) { cls := .type "list", data := .seq its.toArray n } = { cls := .type "list", data := .seq (its.set j u).toArray n } := by
  simp [Obj.mapSeq]
theorem Inv.lst {pins : List (Addr × Obj)} {σ : St} {H : Hp} {s : Shared} {p : Addr} {xs : List V} (I : Inv X pins σ H s) (h : H p = some (.lst xs)) :
    ∃ (its : List Value) (n : Nat), Vals xs its ∧ s.heap.get? p = some { cls := .type "list", data := .seq its.toArray n } ∧ xs.length ≤ sizeLine := by
  obtain ⟨z, its, n, r, e⟩ := I.hok p _ h
  exact ⟨its, n, r, e, z⟩
theorem Inv.lstUpd {pins : List (Addr × Obj)} {σ : St} {H : Hp} {s : Shared} {p : Addr} {xs ys : List V} {its its' : List Value} {n n' : Nat} {f : Obj → Obj} (I : Inv X pins σ H s) (h : H p = some (.lst xs))
    (ho : s.heap.get? p = some { cls := .type "list", data := .seq its.toArray n }) (hf : f { cls := .type "list", data := .seq its.toArray n } = { cls := .type "list", data := .seq its'.toArray n' }) (r : Vals ys its') (hz : ys.length ≤ sizeLine) (t : Nat) :
    Inv X pins σ (upd H p (.lst ys)) { s with heap := s.heap.update p f, toks := t } := by
  have e : (s.heap.update p f).get? p = some { cls := .type "list", data := .seq its'.toArray n' } := by
    rw [Heap.get?_update_self f ho (by rw [hf] <;> rfl), hf]
  refine I.write (x := p) (e := p) (by rw [h]; trivial) (.inl rfl) (fun b u hb q => (Heap.get?_update_other _ _ (Ne.symm hb)).trans q) ⟨_, e⟩ ?_
  exact ⟨hz, its', n', r, e⟩
def rSetL : V → V → V → Hp → (Hp → Prop) → Prop := fun o i v H Q => ∃ p xs k j, o = .ref p ∧ i = .int k ∧ H p = some (.lst xs) ∧ ixN xs.length k = some j ∧ Q (upd H p (.lst (xs.set j v)))
theorem set_list : PSet X rSetL := by
  intro pins s σ H o i v ov iv u Q I ro ri rv h
  obtain ⟨p, xs, k, j, rfl, rfl, hp, hj, q⟩ := h
  cases ro
  obtain ⟨t, rfl⟩ := ri
  obtain ⟨its, n, r, ho, hz⟩ := I.lst hp
  obtain ⟨h1, h2, h3, h4⟩ := ixN_seq hj
  have hl := r.length
  have hn := line63
  have I' : Inv X pins σ (upd H p (.lst (xs.set j v))) { s with heap := s.heap.update p (Obj.mapSeq (·.setIfInBounds j u)) } :=
    I.lstUpd hp ho (mapSeq_set its n j u) (r.set rv j) (by rw [List.length_set]; exact hz) s.toks
  by_cases h0 : 0 ≤ k
  · have hk : k.toNat = j := by
      rw [seqIndex_of h0 h4] at h1
      exact Option.some.inj h1
    exact PySem.W.ki_setAt ho h0 (by omega) (by rw [List.size_toArray, ← hl]; exact h4) (by rw [hk]; exact ⟨_, I', q⟩)
  · have hk : (k + (its.toArray.size : Int)).toNat = j := by
      rw [seqIndex_neg (by omega) h3] at h1
      rw [List.size_toArray, ← hl]
      exact Option.some.inj h1
    exact PySem.W.ki_setBack ho (by omega) (by rw [List.size_toArray, ← hl]; exact h3) (by omega) (by rw [hk]; exact ⟨_, I', q⟩)
theorem slice_bounds (lo hi : Option Int) (n : Nat) : (sliceBounds lo hi none n).1 = ((HT.sIx n 0 lo : Nat) : Int) ∧ (sliceBounds lo hi none n).2.1 = ((HT.sIx n n hi : Nat) : Int) ∧ (sliceBounds lo hi none n).2.2 = 1 := by
  refine ⟨?_, ?_, rfl⟩
  · cases lo with
    | none => simp [sliceBounds, HT.sIx]
    | some i =>
      simp only [sliceBounds, HT.sIx, Option.getD_none, show (1 : Int) > 0 by decide, if_true]
      by_cases h : i < 0
      · simp only [h, if_true] <;> omega
      · simp only [h, if_false] <;> omega
  · cases hi with
    | none => simp [sliceBounds, HT.sIx]
    | some i =>
      simp only [sliceBounds, HT.sIx, Option.getD_none, show (1 : Int) > 0 by decide, if_true]
      by_cases h : i < 0
      · simp only [h, if_true] <;> omega
      · simp only [h, if_false] <;> omega
theorem slicePick_cut (its : List Value) (lo hi : Option Int) : slicePick its.toArray lo hi none = ((its.drop (HT.sIx its.length 0 lo)).take (HT.sIx its.length its.length hi - HT.sIx its.length 0 lo)).toArray := by
  obtain ⟨h1, h2, h3⟩ := slice_bounds lo hi its.toArray.size
  unfold slicePick
  rw [h1, h2, h3]
  simp only [sliceRange_one, pick_run, List.size_toArray] <;> rfl
def rSlL (K : PySem.W.Frag) : V → Option Int → Option Int → Hp → VK → Prop := fun x lo hi H Q => ∃ a xs, x = .ref a ∧ SqL K H a xs ∧ ∀ p, H p = none → Q (.ref p) (upd H p (.lst (cutV xs lo hi)))
theorem sl_list : SlR X (rSlL X.K) := by
  intro pins s σ H x v vl vu lo hi sl Q I rx hs pl pu h
  obtain ⟨a, xs, rfl, hx, q⟩ := h
  cases rx
  obtain ⟨its, r, ht, hz⟩ := I.list hx
  have hlen := r.length
  refine ⟨"list", _, slot_list_getitem.lookup, ht.isList.typeIs, ?_⟩
  refine wpAny_getItem_list_slice ht.isList hs pl pu .none (by simp) ?_ (by rw [List.size_toArray] <;> omega)
  rw [slicePick_cut, ← hlen]
  refine ⟨.ref s.heap.objs.size, _, I.laid (t' := s.toks) (o := .lst (cutV xs lo hi)) (fun b ob q => Heap.get?_push_of_some _ q) (Nat.le_refl _) ?_, rfl, q _ (I.hok.fresh (Nat.le_refl _))⟩
  exact ⟨Nat.le_trans (cutV_length xs lo hi) hz, _, 0, (r.drop (HT.sIx xs.length 0 lo)).take (HT.sIx xs.length xs.length hi - HT.sIx xs.length 0 lo), Heap.get?_push_size _ rfl⟩
def flatV : V → Bool
  | .non => true
  | .bl _ => true
  | .int _ => true
  | .str _ => true
  | _ => false
def eqV : V → V → Bool
  | .non, .non => true
  | .bl a, .bl b => a == b
  | .bl a, .int b => (if a then 1 else 0) == b
  | .int a, .bl b => a == (if b then 1 else 0)
  | .int a, .int b => a == b
  | .str a, .str b => a == b
  | _, _ => false
theorem eqAt_V {A : Around} {s : Shared} {y x : V} {u v : Value} (ry : RelV y u) (rx : RelV x v) (fy : flatV y = true) (fx : flatV x = true) : SeqAt.EqAt A s u v (eqV y x) := by
  cases y with
  | non =>
    cases ry
    cases x with
    | non => cases rx; exact SeqAt.EqAt.same _
    | bl b => cases rx; exact SeqAt.EqAt.none_bool b
    | int b => obtain ⟨t, rfl⟩ := rx; exact SeqAt.EqAt.none_int b t
    | str b => obtain ⟨t, rfl⟩ := rx; exact SeqAt.EqAt.none_str b t
    | _ => exact absurd (show false = true from fx) Bool.false_ne_true
  | bl a =>
    cases ry
    cases x with
    | non => cases rx; exact SeqAt.EqAt.bool_none a
    | bl b => cases rx; exact SeqAt.EqAt.bool_bool a b
    | int b => obtain ⟨t, rfl⟩ := rx; exact SeqAt.EqAt.bool_int a b t
    | str b => obtain ⟨t, rfl⟩ := rx; exact SeqAt.EqAt.bool_str a b t
    | _ => exact absurd (show false = true from fx) Bool.false_ne_true
  | int a =>
    obtain ⟨t', rfl⟩ := ry
    cases x with
    | non => cases rx; exact SeqAt.EqAt.int_none a t'
    | bl b => cases rx; exact SeqAt.EqAt.int_bool a t' b
    | int b => obtain ⟨t, rfl⟩ := rx; exact SeqAt.EqAt.int_int a t' b t
    | str b => obtain ⟨t, rfl⟩ := rx; exact SeqAt.EqAt.int_str a t' b t
    | _ => exact absurd (show false = true from fx) Bool.false_ne_true
  | str a =>
    obtain ⟨t', rfl⟩ := ry
    cases x with
    | non => cases rx; exact SeqAt.EqAt.str_none a t'
    | bl b => cases rx; exact SeqAt.EqAt.str_bool a t' b
    | int b => obtain ⟨t, rfl⟩ := rx; exact SeqAt.EqAt.str_int a t' b t
    | str b => obtain ⟨t, rfl⟩ := rx; exact SeqAt.EqAt.str_str a t' b t
    | _ => exact absurd (show false = true from fx) Bool.false_ne_true
  | _ => exact absurd (show false = true from fy) Bool.false_ne_true
def eqU (x : V) (u : Value) : Bool := match u with
  | .none => eqV .non x
  | .bool b => eqV (.bl b) x
  | .int i _ => eqV (.int i) x
  | .str z _ => eqV (.str z) x
  | _ => false
theorem eqU_of {x y : V} {u : Value} (r : RelV y u) (f : flatV y = true) : eqU x u = eqV y x := by
  cases y with
  | non => cases r; rfl
  | bl b => cases r; rfl
  | int i => obtain ⟨t, rfl⟩ := r; rfl
  | str z => obtain ⟨t, rfl⟩ := r; rfl
  | _ => exact absurd (show false = true from f) Bool.false_ne_true
theorem any_eqU {x : V} : ∀ {xs : List V} {us : List Value}, Vals xs us → xs.all flatV = true → us.any (eqU x) = xs.any fun y => eqV y x
  | _, _, .nil, _ => rfl
  | y :: xs, u :: us, .cons r t, f => by
    rw [List.all_cons, Bool.and_eq_true] at f
    rw [List.any_cons, List.any_cons, eqU_of r f.1, any_eqU t f.2]
theorem mem_eqAt {A : Around} {s : Shared} {x : V} {v : Value} (rx : RelV x v) (fx : flatV x = true) : ∀ {xs : List V} {us : List Value}, Vals xs us → xs.all flatV = true → ∀ u ∈ us, SeqAt.EqAt A s u v (eqU x u)
  | _, _, .nil, _ => fun u hu => by cases hu
  | y :: xs, u :: us, .cons r t, f => fun u' hu => by
    rw [List.all_cons, Bool.and_eq_true] at f
    rcases List.mem_cons.mp hu with rfl | hu
    · rw [eqU_of r f.1]; exact eqAt_V r rx f.1 fx
    · exact mem_eqAt rx fx t f.2 u' hu
def inV (x : V) (xs : List V) : Bool := xs.any fun y => eqV y x
def rIn (K : PySem.W.Frag) (neg : Bool) : R2 := fun x y H Q => ∃ p xs, y = .ref p ∧ (SqL K H p xs ∨ SqT K H p xs) ∧ flatV x = true ∧ xs.all flatV = true ∧ Q (.bl (if neg then !inV x xs else inV x xs)) H
theorem op_in_seq : OpR X (compareOp .In) (rIn X.K false) := by
  intro pins s σ H x y v u Q I rx ry h
  obtain ⟨p, xs, rfl, hq, fx, fs, q⟩ := h
  cases ry
  rcases hq with hq | hq
  · obtain ⟨its, r, pl, hz⟩ := I.list hq
    refine SeqAt.in_listAt (eqU x) pl.isList (fun w hw => mem_eqAt rx fx r fs w (by simpa using hw)) ⟨.bl _, H, I, rfl, ?_⟩
    rw [show its.toArray.any (eqU x) = its.any (eqU x) by simp, any_eqU r fs]
    exact q
  · obtain ⟨its, r, pl, hz⟩ := I.tuple hq
    refine SeqAt.in_tupleAt (eqU x) pl (fun w hw => mem_eqAt rx fx r fs w (by simpa using hw)) ⟨.bl _, H, I, rfl, ?_⟩
    rw [show its.toArray.any (eqU x) = its.any (eqU x) by simp, any_eqU r fs]
    exact q
theorem op_notIn_seq : OpR X (compareOp .NotIn) (rIn X.K true) := by
  intro pins s σ H x y v u Q I rx ry h
  obtain ⟨p, xs, rfl, hq, fx, fs, q⟩ := h
  cases ry
  rcases hq with hq | hq
  · obtain ⟨its, r, pl, hz⟩ := I.list hq
    refine SeqAt.notIn_listAt (eqU x) pl.isList (fun w hw => mem_eqAt rx fx r fs w (by simpa using hw)) ⟨.bl _, H, I, rfl, ?_⟩
    rw [show its.toArray.any (eqU x) = its.any (eqU x) by simp, any_eqU r fs]
    exact q
  · obtain ⟨its, r, pl, hz⟩ := I.tuple hq
    refine SeqAt.notIn_tupleAt (eqU x) pl (fun w hw => mem_eqAt rx fx r fs w (by simpa using hw)) ⟨.bl _, H, I, rfl, ?_⟩
    rw [show its.toArray.any (eqU x) = its.any (eqU x) by simp, any_eqU r fs]
    exact q
theorem call_len_seq : CallR X (.builtin "len") (fun xs H Q => ∃ p ys, xs = [.ref p] ∧ (SqL X.K H p ys ∨ SqT X.K H p ys) ∧ Q (.int ys.length) H) := by
  intro pins s σ H xs us Q I r h
  obtain ⟨p, ys, rfl, hq, q⟩ := h
  obtain ⟨u, rfl, rx⟩ := vals1 r
  cases rx
  have hn := line63
  rcases hq with hq | hq
  · obtain ⟨its, r', pl, hz⟩ := I.list hq
    have hlen := r'.length
    exact Calls.call_len_list pl.isList (by simp only [List.size_toArray] <;> omega) ⟨.int ys.length, H, I.tok _, ⟨s.toks + 1, by rw [List.size_toArray, hlen]⟩, q⟩
  · obtain ⟨its, r', pl, hz⟩ := I.tuple hq
    have hlen := r'.length
    exact len_tuple pl (by simp only [List.size_toArray] <;> omega) ⟨.int ys.length, H, I.tok _, ⟨s.toks + 1, by rw [List.size_toArray, hlen]⟩, q⟩
theorem call_list_of : CallR X (.type "list") (fun xs H Q => ∃ p ys, xs = [.ref p] ∧ (SqL X.K H p ys ∨ SqT X.K H p ys) ∧ ∀ l, H l = none → Q (.ref l) (upd H l (.lst ys))) := by
  intro pins s σ H xs us Q I r h
  obtain ⟨p, ys, rfl, hq, q⟩ := h
  obtain ⟨u, rfl, rx⟩ := vals1 r
  cases rx
  have fin : ∀ (its : List Value), Vals ys its → ys.length ≤ sizeLine → ∀ (h' : Heap) (c' : Nat), (∀ b o', s.heap.get? b = some o' → h'.get? b = some o') →
      h'.get? s.heap.objs.size = some { cls := .type "list", dict := none, data := .seq its.toArray c', slots := #[] } → EP X pins σ Q (.ref s.heap.objs.size) { s with heap := h' } := fun its r' hz h' c' kp e =>
    ⟨.ref s.heap.objs.size, _, I.laid (t' := s.toks) kp (Nat.le_refl _) (show ObjOk X.prog X.w _ h' _ (.lst ys) from ⟨hz, its, c', r', e⟩), rfl, q _ (I.hok.fresh (Nat.le_refl _))⟩
  rcases hq with hq | hq
  · obtain ⟨its, r', pl, hz⟩ := I.list hq
    have hlen := r'.length
    obtain ⟨o, ho, hc, n, hd⟩ := pl.isList
    exact call_list_seq p (.inl rfl) ho hc hd (fun h' c' kp e => fin its r' hz h' c' kp e) (by simp only [List.size_toArray] <;> omega)
  · obtain ⟨its, r', pl, hz⟩ := I.tuple hq
    have hlen := r'.length
    obtain ⟨o, ho, hc, n, hd⟩ := pl
    exact call_list_seq p (.inr rfl) ho hc hd (fun h' c' kp e => fin its r' hz h' c' kp e) (by simp only [List.size_toArray] <;> omega)
def tyV (K : PySem.W.Frag) (T : String) (x : V) (H : Hp) : Prop := match x with
  | .str _ => T = "str"
  | .int _ => T = "int"
  | .ref p => (T = "list" ∧ ∃ xs, SqL K H p xs) ∨ (T = "tuple" ∧ ∃ o, K.lookup p = some o ∧ o.cls = .type "tuple" ∧ o.dict = none) ∨
      (T = "dict" ∧ ((∃ kvs, H p = some (.dK kvs)) ∨ ∃ kvs, H p = some (.dT kvs))) ∨ (T = "set" ∧ ∃ S n, H p = some (.set S n))
  | _ => False
theorem tyV_is {pins : List (Addr × Obj)} {σ : St} {H : Hp} {s : Shared} {T : String} {x : V} {v : Value} (I : Inv X pins σ H s) (r : RelV x v) (ty : tyV X.K T x H) :
    s.TypeIs v T ∧ ∀ a, v = .ref a → ∃ ob, s.heap.get? a = some ob ∧ ob.dict = none := by
  cases x with
  | str z =>
    obtain ⟨t, rfl⟩ := r
    cases (show T = "str" from ty)
    exact ⟨typeIs_str s z t, fun _ e => nomatch e⟩
  | int i =>
    obtain ⟨t, rfl⟩ := r
    cases (show T = "int" from ty)
    exact ⟨typeIs_int s i t, fun _ e => nomatch e⟩
  | ref p =>
    cases r
    rcases ty with ⟨rfl, xs, hq⟩ | ⟨rfl, o, hk, hc, hd⟩ | ⟨rfl, hk⟩ | ⟨rfl, S, n, hk⟩
    · obtain ⟨its, _, pl, _⟩ := I.list hq
      refine ⟨pl.isList.typeIs, fun a e => ?_⟩
      cases e
      obtain ⟨o, n, e, c, hd, _⟩ := pl
      exact ⟨o, e, hd⟩
    · refine ⟨⟨o, I.kIn p o hk, hc⟩, fun a e => ?_⟩
      cases e
      exact ⟨o, I.kIn _ o hk, hd⟩
    · have z : ∃ o, s.heap.get? p = some o ∧ o.ExactDict := by
        rcases hk with ⟨kvs, hk⟩ | ⟨kvs, hk⟩
        · obtain ⟨_, _, _, _, o, _, _, e, ex, _⟩ := I.hok p _ hk
          exact ⟨o, e, ex⟩
        · obtain ⟨_, _, _, _, o, _, _, e, ex, _⟩ := I.hok p _ hk
          exact ⟨o, e, ex⟩
      obtain ⟨o, e, ex⟩ := z
      refine ⟨⟨o, e, ex.1⟩, fun a e2 => ?_⟩
      cases e2
      exact ⟨o, e, ex.2.1⟩
    · obtain ⟨o, _, _, _, e, ex, _⟩ := I.hok p _ hk
      refine ⟨⟨o, e, ex.1⟩, fun a e2 => ?_⟩
      cases e2
      exact ⟨o, e, ex.2.1⟩
  | _ => exact False.elim ty
def tBM0 (K : PySem.W.Frag) (T : String) (r : V → List V → Hp → VK → Prop) (to : TE) : TE := fun σ H Q => to σ H fun x H1 => tyV K T x H1 ∧ r x [] H1 Q
def tBM (K : PySem.W.Frag) (T : String) (r : V → List V → Hp → VK → Prop) (to : TE) (t : TA) : TE := fun σ H Q => to σ H fun x H1 => tyV K T x H1 ∧ t σ H1 fun xs H2 => r x xs H2 Q
variable {o e : Expr} {es : List Expr} {to : TE} {t : TA} {name : Str} {apos cpos : Pos} {T id : String} {r : V → List V → Hp → VK → Prop}
theorem pe_bm0 (pa : PlainAttrs T) (slot : Slot T name id) (hty : typeOf (.builtin id) = pure (.type "method_descriptor")) (hm : MtR X id r) (ho : PE X o to)
    (hbase : attributeBase o name X.env (eval o X.env) = eval o X.env := by rfl) (hline : (apos.endLine == cpos.line) = true := by rfl) : PE X (.Call (.Attribute o name apos) [] [] cpos) (tBM0 X.K T r to) := by
  intro pins s σ H Q I h
  refine wpAny_Call_method0_late hbase hline (thn (ho pins s σ H _ I h) fun v s1 ⟨x, H1, I1, r1, ty, q1⟩ => ?_)
  obtain ⟨h1, h2⟩ := tyV_is I1 r1 ty
  exact ⟨T, id, pa, slot, hty, h1, h2, Calls.callWith_builtin rfl (PySem.evalArgs_none (hm pins s1 σ H1 x [] v [] Q I1 r1 .nil q1))⟩
theorem pe_bm (pa : PlainAttrs T) (slot : Slot T name id) (hty : typeOf (.builtin id) = pure (.type "method_descriptor")) (hm : MtR X id r) (ho : PE X o to) (ha : PA X (e :: es) t)
    (hbase : attributeBase o name X.env (eval o X.env) = eval o X.env := by rfl)
    (hfew : ((backTo cpos (starEach (e :: es) X.env)).all (fun x => !x.1) && (backToKw cpos (keywordEach [] X.env)).all (fun x => x.1.isSome)
      && decide ((e :: es).length + ([] : List Keyword).length + (if ([] : List Keyword).isEmpty then 0 else 1) < 30)) = true := by rfl)
    (hline : (apos.endLine == cpos.line) = true := by rfl) (hs : starEach (e :: es) X.env = (false, eval e X.env) :: starEach es X.env := by rfl) (hplain : (backTo cpos (starEach es X.env)).any (·.1) = false := by rfl) :
    PE X (.Call (.Attribute o name apos) (e :: es) [] cpos) (tBM X.K T r to t) := by
  intro pins s σ H Q I h
  refine wpAny_Call_method_late hbase hfew hline rfl (thn (ho pins s σ H _ I h) fun v s1 ⟨x, H1, I1, r1, ty, q1⟩ => ?_)
  obtain ⟨h1, h2⟩ := tyV_is I1 r1 ty
  refine ⟨T, id, pa, slot, hty, h1, h2, ?_⟩
  have hA := ha cpos pins s1 σ H1 _ I1 q1
  rw [hs] at hA ⊢
  refine Calls.callWith_builtin (by show (false || (backTo cpos (starEach es X.env)).any (·.1)) = false; rw [hplain] <;> rfl) (Calls.evalArgs_plain ?_)
  exact thn hA fun us s2 ⟨vs, H2, I2, r2, q2⟩ => hm pins s2 σ H2 x vs v us Q I2 r1 r2 q2
end
end L2
namespace L2
open PySem PySem.Spec PyProof.Rows
def MtM (X : Cx) (id : String) (r : V → List V → Hp → VK → Prop) : Prop :=
  ∀ (pins : List (Addr × Obj)) (s : Shared) (σ : St) (H : Hp) (x : V) (xs : List V) (v : Value) (us : List Value) (Q : VK), Inv X pins σ H s → RelV x v → Vals xs us → r x xs H Q →
    wpAny (model X.prog X.w) X.A (call (.builtin id) (v :: us)) (EP X pins σ Q) X.xe s
theorem Vals.one : ∀ {x : V} {us : List Value}, Vals [x] us → ∃ u, us = [u] ∧ RelV x u
  | _, _, .cons r .nil => ⟨_, rfl, r⟩
theorem Vals.two : ∀ {x y : V} {us : List Value}, Vals [x, y] us → ∃ u v, us = [u, v] ∧ RelV x u ∧ RelV y v
  | _, _, _, .cons r (.cons q .nil) => ⟨_, _, rfl, r, q⟩
theorem Vals.zero : ∀ {us : List Value}, Vals [] us → us = []
  | _, .nil => rfl
theorem Vals.eraseIdx : ∀ {xs : List V} {us : List Value} (i : Nat), Vals xs us → Vals (xs.eraseIdx i) (us.eraseIdx i)
  | _, _, _, .nil => .nil
  | _, _, 0, .cons _ t => t
  | _, _, i + 1, .cons r t => .cons r (Vals.eraseIdx i t)
theorem len_erase {α : Type} : ∀ (l : List α) (i : Nat), (l.eraseIdx i).length ≤ l.length
  | [], _ => Nat.le_refl _
  | _ :: _, 0 => Nat.le_succ _
  | _ :: r, i + 1 => Nat.succ_le_succ (len_erase r i)
section
variable {X : Cx} {pins : List (Addr × Obj)} {σ : St} {H : Hp} {s : Shared} {l b : Addr} {xs ys zs : List V}
theorem Inv.lset {its its' : List Value} {n : Nat} {f : Array Value → Array Value} {t' : Nat} (I : Inv X pins σ H s) (hH : H l = some (.lst xs))
    (e : s.heap.get? l = some { cls := .type "list", data := .seq its.toArray n }) (hf : f its.toArray = its'.toArray) (hv : Vals ys its') (hz : ys.length ≤ sizeLine) :
    Inv X pins σ (upd H l (.lst ys)) { s with heap := s.heap.update l (Obj.mapSeq f), toks := t' } := by
  have q := PySem.IsL.update e f
  rw [hf] at q
  refine I.write (x := l) (e := l) (by rw [hH]; exact trivial) (.inl rfl) (fun b' u hb hu => (Heap.get?_update_other s.heap (Obj.mapSeq f) (Ne.symm hb)).trans hu) ⟨_, q⟩ ?_
  exact ⟨hz, its', _, hv, q⟩
theorem Inv.lnew {its : List Value} {t' : Nat} (I : Inv X pins σ H s) (hv : Vals ys its) (hz : ys.length ≤ sizeLine) :
    Inv X pins σ (upd H s.heap.objs.size (.lst ys)) { s with heap := s.heap.push { cls := .type "list", data := .seq its.toArray }, toks := t' } :=
  I.laid (fun _ _ q => Heap.get?_push_of_some _ q) (Nat.le_refl _) ⟨hz, its, 0, hv, Heap.get?_push_size _ rfl⟩
theorem Inv.fresh (I : Inv X pins σ H s) : H s.heap.objs.size = none := I.hok.fresh (Nat.le_refl _)
theorem Inv.lstM (I : Inv X pins σ H s) (hH : H l = some (.lst xs)) : xs.length ≤ sizeLine ∧ ∃ (its : List Value) (n : Nat), Vals xs its ∧ xs.length = its.length ∧ s.heap.get? l = some { cls := .type "list", data := .seq its.toArray n } := by
  obtain ⟨z, its, n, r, e⟩ := I.hok l _ hH
  exact ⟨z, its, n, r, r.length, e⟩
theorem notLongL {n : Nat} (h : n ≤ sizeLine) : Builtin.List.listTooLong n = false := by
  unfold Builtin.List.listTooLong
  exact decide_eq_false (by omega)
end
section
variable {X : Cx}
def rAppend : V → List V → Hp → VK → Prop := fun x vs H Q => ∃ l xs y, x = .ref l ∧ vs = [y] ∧ H l = some (.lst xs) ∧ xs.length < sizeLine ∧ Q .non (upd H l (.lst (xs ++ [y])))
theorem mt_append : MtM X "list.append" rAppend := by
  intro pins s σ H x vs v us Q I rx rv h
  obtain ⟨l, xs, y, rfl, rfl, hH, hz, q⟩ := h
  cases rx
  obtain ⟨u, rfl, ru⟩ := rv.one
  obtain ⟨z, its, n, r, hl, e⟩ := I.lstM hH
  refine call_meets F.slot_list_append ⟨_, e, rfl⟩ F.entry_list_append (F.args_list_append_2 _ _) (PySem.list_append l its.toArray n u (by rw [List.size_toArray]; omega)) ⟨e, ?_⟩
  refine ⟨.non, _, I.lset (its' := its ++ [u]) hH e (by simp) (r.append (.cons ru .nil)) ?_, rfl, q⟩
  rw [List.length_append, List.length_singleton]
  omega
def rExtend : V → List V → Hp → VK → Prop := fun x vs H Q => ∃ l b xs zs, x = .ref l ∧ vs = [.ref b] ∧ H l = some (.lst xs) ∧ H b = some (.lst zs) ∧ xs.length + zs.length ≤ sizeLine ∧ Q .non (upd H l (.lst (xs ++ zs)))
theorem mt_extend : MtM X "list.extend" rExtend := by
  intro pins s σ H x vs v us Q I rx rv h
  obtain ⟨l, b, xs, zs, rfl, rfl, hH, hB, hz, q⟩ := h
  cases rx
  obtain ⟨u, rfl, ru⟩ := rv.one
  cases ru
  obtain ⟨z, its, n, r, hl, e⟩ := I.lstM hH
  obtain ⟨z2, its2, n2, r2, hl2, e2⟩ := I.lstM hB
  have hsz : its.toArray.size + its2.toArray.size ≤ sizeLine := by rw [List.size_toArray, List.size_toArray]; omega
  have hlong : ¬ (!its.toArray.isEmpty && Builtin.List.listTooLong (its.toArray.size + its2.toArray.size)) = true := by
    rw [notLongL hsz, Bool.and_false]
    exact Bool.false_ne_true
  refine call_meets F.slot_list_extend ⟨_, e, rfl⟩ F.entry_list_extend (F.args_list_extend_2 _ _)
    (AutoSeq1.list_extend_list_list_0 l its.toArray n b its2.toArray n2 hlong (by rw [List.size_toArray]; omega) (by omega)) ⟨e, e2, ?_⟩
  refine ⟨.non, _, I.lset (its' := its ++ its2) hH e (by simp) (r.append r2) ?_, rfl, q⟩
  rw [List.length_append]
  omega
def rPopAt : V → List V → Hp → VK → Prop := fun x vs H Q => ∃ l xs i k y, x = .ref l ∧ vs = [.int i] ∧ H l = some (.lst xs) ∧ -(2 ^ 63) ≤ i ∧ i < 2 ^ 63 ∧ seqIndex? i xs.length = some k ∧ xs[k]? = some y ∧ Q y (upd H l (.lst (xs.eraseIdx k)))
theorem mt_popAt : MtM X "list.pop" rPopAt := by
  intro pins s σ H x vs v us Q I rx rv h
  obtain ⟨l, xs, i, k, y, rfl, rfl, hH, h1, h2, hk, hy, q⟩ := h
  cases rx
  obtain ⟨u, rfl, ru⟩ := rv.one
  obtain ⟨t, rfl⟩ := ru
  obtain ⟨z, its, n, r, hl, e⟩ := I.lstM hH
  obtain ⟨w, hw, rw'⟩ := r.get hy
  refine call_meets F.slot_list_pop ⟨_, e, rfl⟩ F.entry_list_pop (F.args_list_pop_2 _ _)
    (MeetsSeq.list_pop_at l its.toArray n i t k w (fitsIndex_both h1 h2) (by rw [List.size_toArray, ← hl]; exact hk) (by rw [← Array.getElem?_toList]; exact hw) (by rw [List.size_toArray]; omega)) ⟨e, ?_⟩
  refine ⟨y, _, I.lset (its' := its.eraseIdx k) hH e ?_ (r.eraseIdx k) ?_, rw', q⟩
  · show its.toArray.eraseIdxIfInBounds k = (its.eraseIdx k).toArray
    rw [List.eraseIdxIfInBounds_toArray]
  · have := len_erase xs k
    omega
def rClear : V → List V → Hp → VK → Prop := fun x vs H Q => ∃ l xs, x = .ref l ∧ vs = [] ∧ H l = some (.lst xs) ∧ Q .non (upd H l (.lst []))
theorem mt_clear : MtM X "list.clear" rClear := by
  intro pins s σ H x vs v us Q I rx rv h
  obtain ⟨l, xs, rfl, rfl, hH, q⟩ := h
  cases rx
  have hus := rv.zero
  subst hus
  obtain ⟨z, its, n, r, hl, e⟩ := I.lstM hH
  refine call_meets F.slot_list_clear ⟨_, e, rfl⟩ F.entry_list_clear (F.args_list_clear_1 _) (AutoSeq1.list_clear_list_0 l its.toArray n (by rw [List.size_toArray]; omega)) ⟨e, ?_⟩
  exact ⟨.non, _, I.lset (its' := []) (ys := []) hH e rfl .nil (Nat.zero_le _), rfl, q⟩
end
end L2
namespace Att
open PySem PySem.W PySem.Calls PyProof.Rows
theorem ints_of_wellAll {P : Params} {h : Heap} : ∀ (ns : List Int) (vs : List Value), WellAll P h vs (ns.map WData.int) → IntsAre vs ns := by
  intro ns
  induction ns with
  | nil =>
    intro vs w
    rw [List.map_nil] at w
    cases w
    exact .nil
  | cons n ns ih =>
    intro vs w
    rw [List.map_cons] at w
    cases w with
    | cons a b =>
      cases a
      exact .cons _ _ (ih _ b)
theorem script_of {l : OpenLaw} {n : Nat} (hn : l.most = some n) {P : Params} {h : Heap} {args : List WData} {vals : List Value}
    (hpre : l.row.toRowW.claim.pre args = true) (hwl : WellAll P h vals args) :
    ∃ a vs ns, vals = [Value.ref a] ∧ args = [WData.list (ns.map WData.int)] ∧ h.get? a = some { cls := .type "list", data := .seq vs.toArray } ∧ IntsAre vs ns ∧ ns.length ≤ n := by
  have hsh : WShape.hasAll [] args [.list .int] = true := (pre_splitW hpre).1
  have hc : l.pre.holds [] { args := args } = true := (pre_splitW hpre).2
  obtain ⟨d, r, rfl, h1, h2⟩ := hasAllW_cons hsh
  obtain rfl := hasAllW_nil h2
  obtain ⟨xs, rfl, h3⟩ := hasW_list h1
  obtain ⟨ns, rfl⟩ := items_int h3
  have hlen : ns.length ≤ n := by
    unfold OpenLaw.pre at hc
    have h4 : (WTm.not (.lt (.lit (.int (n : Int))) (.len (.arg 0)))).holds [] { args := [.list (ns.map .int)] } = true := by
      have h4 := (holds_andW hc).1
      rw [hn] at h4
      exact h4
    have h5 := condW_of h4 (w_not (w_lt w_lit (w_len_list (w_arg rfl))))
    rw [List.length_map] at h5
    refine Nat.le_of_not_lt fun q => ?_
    have q' : (n : Int) < ((ns.length : Nat) : Int) := by omega
    first
      | (rw [decide_eq_true q'] at h5; exact absurd h5 (by decide))
      | (simp at h5; omega)
  cases hwl with
  | cons w1 w2 =>
    cases w2
    cases w1 with
    | list ho hall => exact ⟨_, _, ns, rfl, rfl, ho, ints_of_wellAll ns _ hall, hlen⟩
theorem post_true (l : OpenLaw) (args : List WData) : l.row.toRowW.claim.post args (.bool true) args = true :=
  postW_of (r := l.row.toRowW) (X := (true == true))
    (show WShape.has [] (.bool true) .bool = true by first | rfl | decide | simp [WShape.has, WShape.arms, WShape.armsAll])
    (show (WTm.eq .res (.lit (.bool true))).value [] { args := args, res := some (.bool true), after := args } = some (.bool (true == true)) from w_eq_bool (w_res rfl) w_lit) rfl
theorem attach_call {l : OpenLaw} {n : Nat} {q : Program} {loose : List Str} {XP : (Str → Option Value) → Heap → Prop} {YP : World → Heap → Prop} {d : DefRec}
    (hn : l.most = some n) (hdf : d.params.defaults = [])
    (call : ∀ (w : World) (s₀ s₁ : Shared) (mg mb : Str → Option Value) (fa : Addr) (o : Obj) (pm cd doc : Value) (a : Addr) (vs : List Value) (ns : List Int),
      Ground q loose [] XP w s₀ mg mb s₁.heap → YP w s₁.heap →
      s₁.heap.get? fa = some o → o.data = .func (docDef d.name d.params d.body d.scope pm cd doc) → s₁.heap.CodeRec cd d.name → mg d.name = some (.ref fa) →
      s₁.heap.get? a = some { cls := .type "list", data := .seq vs.toArray } → IntsAre vs ns → ns.length ≤ n → s₁.gens = #[] →
      codeAny (model l.prog w) callerA (.call (.ref fa) ⟨[.ref a], []⟩) (fun r s' => r = .ok (.ret (.bool true)) ∧ OldK s₁.heap s'.heap ∧ s'.os = s₁.os ∧ AllBare s'.gens) s₁) :
    WalkO q loose XP YP l.row.toRowW d [] (fun f vs => PySem.call f vs) := by
  intro w s₀ s₁ mg mb G Y fa o pm cd doc dV kV ho hd hcd hD hmg hg args vals as hpre hlay hrd hwl hlo
  obtain rfl : dV = .none := Dflts.none hD hdf
  obtain rfl : kV = .none := Dflts.noKw hD
  obtain ⟨a, vs, ns, rfl, rfl, hobj, hints, hlen⟩ := script_of hn hpre hwl
  refine enter_call (codeAny_mono (call w s₀ s₁ mg mb fa o pm cd doc a vs ns G Y ho (fd_plain hd) hcd hmg hobj hints hlen hg) fun r s' hq => ?_)
  obtain ⟨rfl, h2, h3, h4⟩ := hq
  exact ⟨.inl ⟨.bool true, .bool true, [], rfl, fun _ => rfl, .bool true, post_true l _, fun _ => ⟨List.Pairwise.nil, fun _ hm => (nomatch hm)⟩⟩, h2, h3, h4⟩
end Att
namespace L2
open PySem PySem.Spec PyProof.Rows
theorem vals_ints : ∀ {vs : List Value} {ns : List Int}, IntsAre vs ns → Vals (ns.map V.int) vs
  | _, _, .nil => .nil
  | _, _, .cons n t h => .cons ⟨t, rfl⟩ (vals_ints h)
def Only (H : Hp) : Prop := ∀ b, H b = none ∨ ∃ o xs, H b = some (.frz o (.lst xs))
theorem law_call {P : Program} {w : World} {K : PySem.W.Frag} {mg mb : Str → Option Value} {CX : CXT} {k : Nat} {fa a : Addr} {fd : FuncData} {x : Str} {sp : Sp} {s₁ : Shared} {vs : List Value} {ns : List Int}
    (KX : K.In s₁.heap) (hns : s₁.heap.Ns mainGlobals mg) (hb : s₁.heap.Ns builtinsNs mb) (hbb : ∀ x : Str, x ≠ "__name__" → mb x = bootBuiltins x) (hlim : s₁.heap.NoLimit) (hg : s₁.gens = #[])
    (ha : s₁.heap.get? a = some { cls := .type "list", data := .seq vs.toArray }) (hi : IntsAre vs ns) (hl : ns.length ≤ sizeLine) (hr : Room k callerA)
    (F : ∀ base : Heap, K.In base → base.Ns mainGlobals mg → FnOk P w K mg base CX k fa fd [x] sp) (hbind : ∀ (s : Shared) (u : Value), BindsTo s fd ⟨[u], []⟩ [(x, u)])
    (hsp : ∀ H : Hp, Only H → SqL K H a (ns.map V.int) → sp [.ref a] H (fun v _ => v = .bl true) fun _ _ _ => False)
    (hCX : ∀ H e s', CX [] H s₁ (fun _ _ _ => False) e s' → False) :
    codeAny (model P w) callerA (.call (.ref fa) ⟨[.ref a], []⟩) (fun r s' => r = .ok (.ret (.bool true)) ∧ OldK s₁.heap s'.heap ∧ s'.os = s₁.os ∧ AllBare s'.gens) s₁ := by
  have rv := vals_ints hi
  have lenV := hi.length
  have core : ∀ H : Hp, Only H → SqL K H a (ns.map V.int) → HOk P w H s₁.heap → (∀ b, H b ≠ none → b = a) → (H a ≠ none → K.lookup a = none) →
      codeAny (model P w) callerA (.call (.ref fa) ⟨[.ref a], []⟩) (fun r s' => r = .ok (.ret (.bool true)) ∧ OldK s₁.heap s'.heap ∧ s'.os = s₁.os ∧ AllBare s'.gens) s₁ := by
    intro H hO hS hok hA hK
    have base_of : ∀ {b : Addr} {o : Obj}, s₁.heap.get? b = some o → H b = none → (hidT s₁.heap H).get? b = some o := fun e n => hidT_get e n
    have noA : ∀ {b : Addr} {o : Obj} {es : Array DictEntry} {ep : Nat}, s₁.heap.get? b = some o → o.data = .dict es ep → H b = none := fun {b o es ep} e d => by
      cases q : H b with
      | none => rfl
      | some u =>
        have e' : b = a := hA b (by rw [q]; simp)
        subst e'
        rw [ha] at e; cases e
        have d' : Data.seq vs.toArray _ = Data.dict es ep := d
        cases d'
    have nsK : ∀ {b : Addr} {m : Str → Option Value}, s₁.heap.Ns b m → (hidT s₁.heap H).Ns b m := fun {b m} ⟨o, es, ep, e, d, r⟩ => ⟨o, es, ep, base_of e (noA e d), d, r⟩
    have hKb : K.In (hidT s₁.heap H) := fun b o e => base_of (KX b o e) (by
      cases q : H b with
      | none => rfl
      | some u =>
        have e' : b = a := hA b (by rw [q]; simp)
        subst e'
        rw [hK (by rw [q]; simp)] at e; cases e)
    have hM : Mod K mg (hidT s₁.heap H) := ⟨hKb, nsK hns, ⟨mb, nsK hb, hbb⟩, let ⟨mc, h1, h2⟩ := hlim; ⟨mc, nsK h1, h2⟩⟩
    have e0 : Env0 P w K mg (hidT s₁.heap H) callerA [] s₁ H := ⟨rfl, hM, fun b o e => of_hidT e, Nat.le_of_eq (hidT_size _ _), trivial, fun b hb => absurd (show b ∈ ([] : List Addr) from hb) (by simp), hok, .of_eq hg⟩
    refine codeAny_mono ((F _ hKb (nsK hns)).run callerA [] s₁ H ⟨[.ref a], []⟩ [.ref a] [.ref a] _ _ hr e0 (hbind s₁ (.ref a)) (.cons rfl .nil) (hsp H hO hS)) fun r s' h => ?_
    cases r with
    | error e => exact (hCX H e s' h).elim
    | ok fl =>
      cases fl with
      | next => exact False.elim h
      | brk => exact False.elim h
      | cont => exact False.elim h
      | ret u =>
        obtain ⟨v, H', os, bare, un, hok', r', q⟩ := h
        have q' : v = .bl true := q
        subst q'
        obtain rfl : u = Value.bool true := r'
        refine ⟨rfl, OldK.of_keep fun b o e => ?_, os, bare⟩
        cases q : H b with
        | none => exact un.keep b o e q (by intro z; exact absurd (show b ∈ ([] : List Addr) from z) (by simp)) (by simp)
        | some u =>
          rcases hO b with z | ⟨ob, xs, z⟩
          · rw [q] at z; cases z
          · have z2 := un.frzs b ob _ z
            obtain ⟨e1, _⟩ := hok b _ z
            obtain ⟨e2, _⟩ := hok' b _ z2
            rw [e] at e1; cases e1
            exact e2
  cases hk : K.lookup a with
  | some o =>
    have e := KX a o hk
    rw [ha] at e
    cases e
    refine core (fun _ => none) (fun _ => .inl rfl) (.inr ⟨_, vs.toArray, _, hk, rfl, rfl, rfl, by rw [List.size_toArray, lenV]; exact hl, by simpa using rv⟩) (fun b u z => by have z' : (none : Option HO) = some u := z; cases z') (fun b z => absurd rfl z) fun z => absurd rfl z
  | none =>
    refine core (fun b => if b = a then some (.frz { cls := .type "list", data := .seq vs.toArray } (.lst (ns.map V.int))) else none) (fun b => ?_) (.inl (.inr ⟨{ cls := .type "list", data := .seq vs.toArray }, if_pos rfl⟩)) (fun b u z => ?_) (fun b z => ?_) fun _ => hk
    · by_cases hb : b = a
      · exact .inr ⟨_, _, if_pos hb⟩
      · exact .inl (if_neg hb)
    · by_cases hb : b = a
      · have z' := (if_pos hb).symm.trans z
        cases z'
        subst hb
        exact ⟨ha, by rw [List.length_map]; exact hl, vs, _, rv, ha⟩
      · have z' := (if_neg hb).symm.trans z
        cases z'
    · by_cases hb : b = a
      · exact hb
      · exact absurd (if_neg hb) z
end L2
namespace L2
open PySem PySem.Spec PyProof.Rows
theorem walk_of {l : PySem.W.OpenLaw} {n k : Nat} {q : Program} {loose : List Str} {XP : (Str → Option Value) → Heap → Prop} {YP : World → Heap → Prop} {d : DefRec} {K : Params → PySem.W.Frag} {CX : World → CXT} {sp : World → Sp} {x : Str}
    (hn : l.most = some n) (hn2 : n ≤ sizeLine) (hdf : d.params.defaults = []) (hr : Room k callerA)
    (hY : ∀ (w : World) (h : Heap), YP w h → (K w.params).In h)
    (F : ∀ (w : World) (mg : Str → Option Value) (fa : Addr) (h : Heap), (K w.params).In h → h.Ns mainGlobals mg → mg d.name = some (.ref fa) →
      ∃ fd : FuncData, (∀ (s : Shared) (u : Value), BindsTo s fd ⟨[u], []⟩ [(x, u)]) ∧
        ∀ base : Heap, (K w.params).In base → base.Ns mainGlobals mg → FnOk l.prog w (K w.params) mg base (CX w) k fa fd [x] (sp w))
    (hsp : ∀ (w : World) (H : Hp) (a : Addr) (ns : List Int), ns.length ≤ n → Only H → SqL (K w.params) H a (ns.map V.int) → sp w [.ref a] H (fun v _ => v = .bl true) fun _ _ _ => False)
    (hCX : ∀ (w : World) (H : Hp) (s : Shared) (e : Value) (s' : Shared), CX w [] H s (fun _ _ _ => False) e s' → False) :
    PySem.W.WalkO q loose XP YP l.row.toRowW d [] (fun f vs => PySem.call f vs) := by
  refine Att.attach_call hn hdf fun w s₀ s₁ mg mb fa o pm cd doc a vs ns G Y ho hd hcd hmg hobj hints hlen hg => ?_
  have KX := hY w _ Y
  obtain ⟨fd, hb, hF⟩ := F w mg fa _ KX G.T.g hmg
  exact law_call KX G.T.g G.T.b G.T.builtins G.T.nolimit hg hobj hints (Nat.le_trans hlen hn2) hr hF hb (fun H hO hS => hsp w H a ns hlen hO hS) fun H e s' => hCX w H s₁ e s'
end L2
namespace L2
open PySem PySem.Spec PyProof.Rows
def defArgs (s : Stmt) : Arguments := match s with
  | .FunctionDef _ a _ _ _ _ _ _ _ _ => a
  | _ => { posonlyargs := [], args := [], vararg := none, kwonlyargs := [], kw_defaults := [], kwarg := none, defaults := [] }
def defBody (s : Stmt) : List Stmt := match s with
  | .FunctionDef _ _ b _ _ _ _ _ _ _ => b
  | _ => []
def defScope (s : Stmt) : Scope := match s with
  | .FunctionDef _ _ _ _ _ _ sc _ _ _ => sc
  | _ => { kind := .function, names := [], isGenerator := false, isCoroutine := false }
abbrev CX0 : CXT := fun _ _ _ _ _ _ => False
abbrev E0 : XK := fun _ _ _ => False
theorem pass0 {X : Cx} : Passes CX0 X E0 := fun _ _ _ _ _ _ _ h => h.elim
structure Fun (K : PySem.W.Frag) (x qual : Str) (st : Stmt) (f : Addr) (fd : FuncData) : Prop where
  ex : ∃ (oc : Value) (od : Option Addr) (kV doc pm : Value) (an : Option Addr) (cdv ct : Value) (osl : Array (Option Value)),
    fd = PySem.W.fnOf x qual (defArgs st) (defBody st) (defScope st) .none kV doc pm an cdv ct ∧ K.lookup f = some ⟨oc, od, .func fd, osl⟩ ∧ PySem.W.codeIn K cdv qual = true
  kp : PySem.W.keepIn K (.ref f) = true
section
variable {P : Program} {w : World} {K : PySem.W.Frag} {mg : Str → Option Value} {base : Heap}
theorem Fun.binds {x qual : Str} {st : Stmt} {f : Addr} {fd : FuncData} {ps : List Str} (F : Fun K x qual st f fd)
    (h : ∀ (kV doc pm : Value) (an : Option Addr) (cdv ct : Value) (us : List Value), us.length = ps.length → bindArgs (PySem.W.fnOf x qual (defArgs st) (defBody st) (defScope st) .none kV doc pm an cdv ct) ⟨us, []⟩ = pure (ps.zip us)) : Binds K fd ps [] := by
  obtain ⟨oc, od, kV, doc, pm, an, cdv, ct, osl, rfl, lk, hcd⟩ := F.ex
  exact .all (h kV doc pm an cdv ct)
theorem fun_mk {x qual : Str} {st : Stmt} {f : Addr} {oc : Value} {od an : Option Addr} {osl : Array (Option Value)} {kV doc pm cdv ct : Value} (l : K.lookup f = some ⟨oc, od, .func (PySem.W.fnOf x qual (defArgs st) (defBody st) (defScope st) .none kV doc pm an cdv ct), osl⟩)
    (c : PySem.W.codeIn K cdv qual = true) (k : PySem.W.keepIn K (.ref f) = true) : Fun K x qual st f (PySem.W.fnOf x qual (defArgs st) (defBody st) (defScope st) .none kV doc pm an cdv ct) := ⟨⟨oc, od, kV, doc, pm, an, cdv, ct, osl, rfl, l, c⟩, k⟩
end
section
variable {X : Cx}
theorem pv (i : Nat) {x : Str} {pos : Pos} (hN : X.N[i]? = some x := by rfl) (hv : Vis X.env.scope x := by first | exact Or.inl rfl | exact Or.inr (Or.inl rfl) | exact Or.inr (Or.inr rfl)) (hd : (x == ("__debug__" : Str)) = false := by decide)
    (hcd : (x == ("__classdict__" : Str)) = false := by decide) : PE X (.Name x pos) (tVar i) := pe_var hN hv hd hcd
end
theorem iteF {A B : Prop} (h : B) : if false = true then A else B := by
  rw [if_neg Bool.false_ne_true]
  exact h
theorem iteT {A B : Prop} (h : A) : if true = true then A else B := by
  rw [if_pos rfl]
  exact h
def Same (H H' : Hp) : Prop := ∀ b o, H b = some o → H' b = some o
theorem Same.refl (H : Hp) : Same H H := fun _ _ h => h
theorem Same.trans {H H1 H2 : Hp} (a : Same H H1) (b : Same H1 H2) : Same H H2 := fun c o h => b c o (a c o h)
theorem Same.free {H H' : Hp} (e : Same H H') {l : Addr} (h : H' l = Option.none) : H l = Option.none := by
  cases q : H l with
  | none => rfl
  | some o =>
    rw [e l o q] at h
    cases h
theorem Same.seq {K : PySem.W.Frag} {H H' : Hp} {a : Addr} {xs : List V} (e : Same H H') (h : SqL K H a xs) : SqL K H' a xs := by
  rcases h with (h | ⟨o, h⟩) | h
  · exact .inl (.inl (e _ _ h))
  · exact .inl (.inr ⟨o, e _ _ h⟩)
  · exact .inr h
end L2
namespace L2
open PySem PySem.Spec PyProof.Rows
abbrev NoX : Value → Shared → Prop := fun _ _ => False
theorem noX {α : Type} {M : Model} {A : Around} {m : Sem α} {Q : α → Shared → Prop} {E : Value → Shared → Prop} {s : Shared} (h : wpAny M A m Q NoX s) : wpAny M A m Q E s :=
  wpAny_mono h (fun _ _ q => q) fun _ _ z => z.elim
abbrev lcTests (ifs : List Expr) (env : Env) : Sem Bool :=
  forIn ifs true fun c r => if r = true then do let ok ← isTrue c env (eval c env); pure (ForInStep.yield ok) else pure (ForInStep.yield r)
theorem lcLoop {P : Program} {w : World} {A : Around} {R : Result → Shared → Prop} {s : Shared} {elt tg iter : Expr} {ifs : List Expr} {sc : Scope} {pos : Pos} {it acc : Value} {env : Env} (I : Nat → Shared → Prop)
    (turn : ∀ n s, I n s → wpAny (model P w) A (pyNext it) (fun r s1 => match r with
      | none => R (.ok .next) s1
      | some v => wpAny (model P w) A (letOwnedTupleGo tg it v) (fun _ s2 => wpAny (model P w) A (assign tg env v) (fun _ s3 =>
          wpAny (model P w) A (lcTests ifs env) (fun ok s4 => if ok = true then wpAny (model P w) A (eval elt env) (fun x s5 =>
              wpAny (model P w) A (call (.builtin "list.append") [acc, x]) (fun _ s6 => ∃ m, m < n ∧ I m s6) NoX s5) NoX s4
            else ∃ m, m < n ∧ I m s4) NoX s3) NoX s2) NoX s1) NoX s)
    (n : Nat) (h : I n s) : codeAny (model P w) A (.compLoop (.ListComp elt [⟨tg, iter, ifs, 0⟩] sc pos) 0 it acc env) R s := by
  refine codeAny_loop rfl I (fun n s hI => ?_) n h
  show wpAny (model P w) A ((compTurn (.ListComp elt [⟨tg, iter, ifs, 0⟩] sc pos) 0 it acc env).onRaise (fun x => do noteFrame x env; theTreesLotGoes x)) _ _ s
  refine wpAny_noted (noX ?_)
  rw [compTurn_list]
  refine wpAny_bind (wpAny_standAt (wpAny_bind (thn (turn n s hI) fun r s1 h1 => ?_)))
  cases r with
  | none => exact wpAny_pure h1
  | some v =>
    refine wpAny_bind (thn h1 fun _ s2 h2 => wpAny_bind (thn h2 fun _ s3 h3 => wpAny_bind (thn h3 fun ok s4 h4 => ?_)))
    cases ok with
    | false => exact wpAny_pure ⟨rfl, h4⟩
    | true => exact wpAny_bind (wpAny_bind (thn h4 fun x s5 h5 => wpAny_bind (thn h5 fun _ s6 h6 => wpAny_pure (wpAny_pure ⟨rfl, h6⟩))))
theorem cf_some : ∀ (names : List (Str × NameKind)) (n : Nat) (acc : List (Str × Addr)) (y : Str), (∃ c, acc.lookup y = some c) → ∃ c, (cellsFrom n names acc).lookup y = some c
  | [], _, _, _, h => h
  | (name, kind) :: r, n, acc, y, ⟨c, h⟩ => by
    unfold cellsFrom
    split
    · refine cf_some r _ _ y ?_
      rw [List.lookup_cons]
      split
      · exact ⟨_, rfl⟩
      · exact ⟨c, h⟩
    · exact cf_some r _ _ y ⟨c, h⟩
theorem cf_has : ∀ (names : List (Str × NameKind)) (n : Nat) (acc : List (Str × Addr)) (y : Str), (y, NameKind.cell) ∈ names → ∃ c, (cellsFrom n names acc).lookup y = some c
  | [], _, _, _, h => nomatch h
  | (name, kind) :: r, n, acc, y, h => by
    unfold cellsFrom
    rcases List.mem_cons.mp h with e | h
    · cases e
      rw [if_pos (by decide)]
      exact cf_some r _ _ _ ⟨n, by rw [List.lookup_cons_self]⟩
    · split
      · exact cf_has r _ _ y h
      · exact cf_has r _ _ y h
theorem cf_lookup : ∀ (names : List (Str × NameKind)) (n : Nat) (acc : List (Str × Addr)) (y : Str) (c : Addr), (cellsFrom n names acc).lookup y = some c → acc.lookup y = some c ∨ (n ≤ c ∧ (y, NameKind.cell) ∈ names)
  | [], _, _, _, _, h => .inl h
  | (name, kind) :: r, n, acc, y, c, h => by
    unfold cellsFrom at h
    split at h
    · rename_i hk
      rcases cf_lookup r _ _ y c h with q | ⟨q1, q2⟩
      · rw [List.lookup_cons] at q
        split at q
        · rename_i hy
          cases q
          rw [beq_iff_eq.mp hy, ← beq_iff_eq.mp hk]
          exact .inr ⟨Nat.le_refl _, .head _⟩
        · exact .inl q
      · exact .inr ⟨Nat.le_of_succ_le q1, .tail _ q2⟩
    · rcases cf_lookup r _ _ y c h with q | ⟨q1, q2⟩
      · exact .inl q
      · exact .inr ⟨q1, .tail _ q2⟩
theorem cf_old : ∀ (names : List (Str × NameKind)) (n : Nat) (acc : List (Str × Addr)) (y : Str), (y, NameKind.cell) ∉ names → (cellsFrom n names acc).lookup y = acc.lookup y
  | [], _, _, _, _ => rfl
  | (name, kind) :: r, n, acc, y, h => by
    unfold cellsFrom
    have hr : (y, NameKind.cell) ∉ r := fun z => h (.tail _ z)
    split
    · rename_i hk
      rw [cf_old r _ _ y hr, List.lookup_cons]
      split
      · rename_i hy
        exact absurd (show (y, NameKind.cell) ∈ (name, kind) :: r by rw [beq_iff_eq.mp hy, ← beq_iff_eq.mp hk]; exact .head _) h
      · rfl
    · exact cf_old r _ _ y hr
theorem cf_inj : ∀ (names : List (Str × NameKind)) (n : Nat) (acc : List (Str × Addr)), (∀ y c, acc.lookup y = some c → c < n) → (∀ y z c, acc.lookup y = some c → acc.lookup z = some c → y = z) →
    ∀ y z c, (cellsFrom n names acc).lookup y = some c → (cellsFrom n names acc).lookup z = some c → y = z
  | [], _, _, _, h => h
  | (name, kind) :: r, n, acc, h1, h2 => by
    unfold cellsFrom
    split
    · refine cf_inj r _ _ (fun y c e => ?_) fun y z c e e' => ?_
      · rw [List.lookup_cons] at e
        split at e
        · cases e; exact Nat.lt_succ_self _
        · exact Nat.lt_succ_of_lt (h1 y c e)
      · rw [List.lookup_cons] at e e'
        split at e
        · rename_i hy
          cases e
          split at e'
          · rename_i hz
            rw [beq_iff_eq.mp hy, beq_iff_eq.mp hz]
          · exact absurd (h1 z _ e') (Nat.lt_irrefl _)
        · split at e'
          · cases e'
            exact absurd (h1 y _ e) (Nat.lt_irrefl _)
          · exact h2 y z c e e'
    · exact cf_inj r _ _ h1 h2
theorem cf_cell : ∀ (names : List (Str × NameKind)) (h : Heap) (acc : List (Str × Addr)) (y : Str) (c : Addr), (cellsFrom h.objs.size names acc).lookup y = some c → acc.lookup y = some c ∨ (pushCells h names).IsCell c none
  | [], _, _, _, _, e => .inl e
  | (name, kind) :: r, h, acc, y, c, e => by
    unfold cellsFrom at e
    unfold pushCells
    split
    · rename_i hk
      rw [if_pos hk] at e
      rw [show h.objs.size + 1 = (h.push { cls := .type "cell", data := .cell none }).objs.size from (Heap.size_push ..).symm] at e
      rcases cf_cell r _ _ y c e with q | q
      · rw [List.lookup_cons] at q
        split at q
        · cases q
          exact .inr (Heap.IsCell.keeps ⟨_, Heap.get?_push_size _ rfl, rfl⟩ (pushCells_keeps r _))
        · exact .inl q
      · exact .inr q
    · rename_i hk
      rw [if_neg hk] at e
      exact cf_cell r _ _ y c e
theorem newEnv_cells {M : Model} {A : Around} {E : Value → Shared → Prop} {s : Shared} {scope : Scope} {globals : Addr} {cl : List (Str × Addr)} {qual : Str} {func : Option Addr} {code : Value} {env : Env} {builtins : Addr} {Q : Env → Shared → Prop}
    (hQ : Q (newEnv scope s.heap.objs.size globals (cellsFrom (s.heap.objs.size + 1) scope.names cl) qual func code (some env) builtins) { s with heap := pushCells (s.heap.push { cls := .type "dict", data := .dict #[] }) scope.names }) :
    wpAny M A (newFunctionEnv scope globals cl [] qual func code (some env) builtins) Q E s := by
  simp only [newFunctionEnv, Option.isSome_some, if_true]
  refine wpAny_bind (wpAny_alloc ?_)
  refine wpAny_bind (wpAny_layCells _ (fun name kind cells => by cases hkc : kind == NameKind.cell <;> simp [hkc]) _ _ _ _ ?_)
  rw [show ({ s with heap := s.heap.push { cls := .type "dict", data := .dict #[] } } : Shared).heap.objs.size = s.heap.objs.size + 1 from Heap.size_push ..]
  rw [List.forIn_nil]
  exact wpAny_bind (wpAny_pure (wpAny_pure hQ))
def cxLc (X : Cx) (own : List Str) (fr : List Nat) (sc : Scope) (cl : List (Str × Addr)) (C : Addr) (s : Shared) (H : Hp) (ex : List Addr) (pn : List (Addr × Obj)) : Cx where
  prog := X.prog
  w := X.w
  K := X.K
  mg := X.mg
  base := X.base
  A := X.A
  N := own ++ fr.map fun j => X.N.getD j ""
  s₀ := s
  H₀ := H
  env := compEnvC sc (cellsFrom (C + 1) sc.names cl) C X.env
  outer := X.stack
  stack := X.stack
  ex := ex
  fn := fun y => (cl.lookup y).isNone
  calm := X.calm
  pn := pn
  xe := NoX
def lcStart (own : List Str) (fr : List Nat) (σ : St) : St := own.map (fun _ => none) ++ fr.map fun j => (σ[j]?).join
structure LcScope (X : Cx) (sc : Scope) (cl : List (Str × Addr)) (fr : List Nat) : Prop where
  clos : closureFor sc X.env = pure cl
  kind : sc.kind = .function
  cells : ∀ y, (y, NameKind.cell) ∈ sc.names → cl.lookup y = none
  names : ∀ y ∈ sc.names, y.2 = .local → sc.names.lookup y.1 = some .local
  sub : ∀ y c, cl.lookup y = some c → X.env.cells.lookup y = some c
  has : ∀ y, ((relabel sc X.env).names.lookup y = some .cell ∨ (relabel sc X.env).names.lookup y = some .free) → (∃ c, cl.lookup y = some c) ∨ (y, NameKind.cell) ∈ sc.names
  frN : ∀ j ∈ fr, ∃ y, X.N[j]? = some y ∧ ((relabel sc X.env).names.lookup y = some .cell ∨ (relabel sc X.env).names.lookup y = some .free) ∧ Vis X.env.scope y ∧ X.env.scope.names.lookup y ≠ some .local ∧ ∃ c, cl.lookup y = some c
def tLc (wi : TI) (g : TG) (tt : TT) (te : TE) (own : List Str) (fr : List Nat) : TE := fun σ H Q => wi σ H fun J H1 => ∀ acc, H1 acc = none →
  ∃ W : Nat → Nat → List V → St → Hp → Prop, (∃ m, W 0 m [] (lcStart own fr σ) (upd H1 acc (.lst []))) ∧ ∀ i m ys σ1 H2, W i m ys σ1 H2 → H2 acc = some (.lst ys) ∧ ys.length < sizeLine ∧
    ((J.stop i H2 ∧ Q (.ref acc) H2) ∨ (J.go i H2 ∧ ∃ N : List V → St → Hp → Prop, (∀ zs σ2 H3, N zs σ2 H3 → ∃ m', m' < m ∧ W (i + 1) m' zs σ2 H3) ∧
      ∀ x H3, J.yld i H2 x H3 → g x σ1 H3 fun σ2 H4 => tt σ2 H4 fun b H5 => if b = true then te σ2 H5 (fun y H6 => H6 acc = some (.lst ys) ∧ N (ys ++ [y]) σ2 (upd H6 acc (.lst (ys ++ [y])))) else N ys σ2 H5))
theorem getD_of {N : List Str} {j : Nat} {y : Str} (h : N[j]? = some y) : N.getD j "" = y := by rw [List.getD_eq_getElem?_getD, h]; rfl
theorem lcInv {X : Cx} {pins : List (Addr × Obj)} {σ : St} {H : Hp} {s : Shared} {sc : Scope} {cl : List (Str × Addr)} {own : List Str} {fr : List Nat} {fp : List Addr} {h4 : Heap} {tk : Nat}
    (L : LcScope X sc cl fr) (I : Inv X pins σ H s) (hfp : ∀ b ∈ fp, FpOk X pins H b) (hlt : ∀ b ∈ fp, b < s.heap.objs.size) (hns : h4.Ns s.heap.objs.size fun _ => none)
    (kp : ∀ b o, s.heap.get? b = some o → h4.get? b = some o) (ncl : ∀ y c, (cellsFrom (s.heap.objs.size + 1) sc.names cl).lookup y = some c → cl.lookup y = some c ∨ h4.IsCell c none) : Inv (cxLc X own fr sc cl s.heap.objs.size s H fp (X.pn ++ pins)) [] (lcStart own fr σ) H { s with heap := h4, toks := tk } := by
  have noL : ∀ {b : Addr} {o : Obj}, s.heap.get? b = some o → b ≠ s.heap.objs.size := fun e => Nat.ne_of_lt (Heap.lt_size e)
  have hex : ∀ b ∈ (cxLc X own fr sc cl s.heap.objs.size s H fp (X.pn ++ pins)).ex, b ∈ fp := fun b z => z
  have stk : ∀ b, b ≠ X.env.locals → b ∉ X.fs → b ∉ frs X.stack := fun b h1 h2 z => (List.mem_cons.mp (I.stkSub b z)).elim h1 h2
  have cellLt : ∀ y c, cl.lookup y = some c → ∃ v, s.heap.IsCell c v := fun y c e => I.cell y c (L.sub y c e)
  have split : ∀ y c, (cellsFrom (s.heap.objs.size + 1) sc.names cl).lookup y = some c → cl.lookup y = some c ∨ s.heap.objs.size + 1 ≤ c := fun y c e => (cf_lookup _ _ _ y c e).imp id And.left
  refine ⟨⟨I.ok.mod, L.kind, I.ok.glob, I.ok.blt, Nat.le_refl _, cf_inj _ _ _ (fun y c e => by obtain ⟨v, q⟩ := cellLt y c e; exact Nat.lt_succ_of_lt q.lt) (fun y z c h1 h2 => I.ok.inj y z c (L.sub y c h1) (L.sub z c h2)), fun y hy => (L.has y hy).elim (cf_some _ _ _ y) (cf_has _ _ _ y), fun y c hy e => ?_, I.ok.hd, I.ok.frames, .inl rfl,
      fun b hb => ⟨Nat.ne_of_lt (hlt b (hex b hb)), fun y c e => (split y c e).elim (fun q => (hfp b (hex b hb)).2.2.2.2.1 y c (L.sub y c q)) fun q => Nat.ne_of_gt (Nat.lt_of_lt_of_le (hlt b (hex b hb)) (Nat.le_of_succ_le q))⟩, I.bs, Nat.le_trans I.ok.bsz I.sz, fun b o e z => ?_, fun b z => ?_, I.stack, I.stkFree⟩,
    rfl, I.bare, Un.kept kp, ⟨_, hns, fun i y v h1 h2 h3 => ?_⟩, fun y c e => ?_, I.hok.fresh (Nat.le_refl _), fun y c e => (split y c e).elim (fun q => I.freeC y c (L.sub y c q)) fun q => I.hok.fresh (Nat.le_of_succ_le q), fun p hp => ?_, I.hok.kept kp, ?_⟩
  · have hy' : (cl.lookup y).isNone = true := hy
    rcases split y c e with q | q
    · rw [q] at hy'
      cases hy'
    · exact Nat.le_of_succ_le q
  · rcases (hfp b (hex b z)).2.2.2.1 with q | q
    · exact I.ok.noex b o e q
    · exact absurd (Nat.lt_of_lt_of_le (Heap.lt_size (I.ok.bs b o e).1) q) (Nat.lt_irrefl _)
  · exact stk b (hfp b (hex b z)).2.1 (hfp b (hex b z)).2.2.1
  · have h1' : (own ++ fr.map fun j => X.N.getD j "")[i]? = some y := h1
    have h2' : (own.map (fun _ => none) ++ fr.map fun j => (σ[j]?).join)[i]? = some (some v) := h2
    by_cases hi : i < own.length
    · rw [List.getElem?_append_left (by simpa using hi), List.getElem?_map] at h2'
      cases q : own[i]? with
      | none => rw [q] at h2'; cases h2'
      | some z => rw [q] at h2'; cases h2'
    · rw [List.getElem?_append_right (by omega), List.getElem?_map] at h1'
      rw [List.getElem?_append_right (by simpa using hi), List.getElem?_map, List.length_map] at h2'
      cases q : fr[i - own.length]? with
      | none => rw [q] at h1'; cases h1'
      | some j =>
        rw [q] at h1' h2'
        obtain ⟨y', n1, n2, n3, n4, c', e'⟩ := L.frN j (List.mem_of_getElem? q)
        have ey : y' = y := by
          have this : X.N.getD j "" = y := Option.some.inj h1'
          rw [getD_of n1] at this
          exact this
        subst ey
        have ev : σ[j]? = some (some v) := by
          have z : (σ[j]?).join = some v := Option.some.inj h2'
          cases q2 : σ[j]? with
          | none => rw [q2] at z; cases z
          | some o => rw [q2] at z; exact congrArg some z
        obtain ⟨m, _, hl⟩ := I.loc
        obtain ⟨u, r, l⟩ := hl j y' v n1 ev n3
        refine ⟨u, r, .inr ⟨n2, ?_⟩⟩
        rcases l with ⟨k, _⟩ | ⟨_, c, e, z⟩
        · exact absurd k n4
        · have := L.sub y' c' e'
          rw [e] at this
          cases this
          obtain ⟨o, ho, hd⟩ := z
          exact ⟨_, (cf_old _ _ _ y' fun z => by rw [L.cells y' z] at e'; cases e').trans e', o, kp _ o ho, hd⟩
  · rcases ncl y c e with q | q
    · obtain ⟨v, o, ho, hd⟩ := cellLt y c q
      exact ⟨v, o, kp c o ho, hd⟩
    · exact ⟨none, q⟩
  · have hp' : p ∈ X.pn ++ pins := by
      have z : p ∈ (X.pn ++ pins) ++ [] := hp
      simpa using z
    obtain ⟨e, n, ne, nf, d⟩ := I.pin p hp'
    exact ⟨kp _ _ e, n, noL e, stk _ ne nf, d⟩
  · show (own.map (fun _ => (none : Option V)) ++ fr.map fun j => (σ[j]?).join).length = (own ++ fr.map fun j => X.N.getD j "").length
    simp
theorem pe_lc {X : Cx} {elt tg iter : Expr} {ifs : List Expr} {sc : Scope} {cl : List (Str × Addr)} {own : List Str} {fr : List Nat} {pos : Pos} {wi : TI} {g : TG} {tt : TT} {te : TE}
    (L : LcScope X sc cl fr) (hc : X.calm = true) (hi : PI X tg iter wi)
    (hg : ∀ C s H ex pn, PG (cxLc X own fr sc cl C s H ex pn) tg g)
    (ht : ∀ C s H ex pn (pins : List (Addr × Obj)) (s1 : Shared) (σ1 : St) (H1 : Hp) (Q : Bool → Hp → Prop), Inv (cxLc X own fr sc cl C s H ex pn) pins σ1 H1 s1 → tt σ1 H1 Q →
      wpAny (model X.prog X.w) X.A (lcTests ifs (compEnvC sc (cellsFrom (C + 1) sc.names cl) C X.env)) (TP (cxLc X own fr sc cl C s H ex pn) pins σ1 Q) NoX s1)
    (he : ∀ C s H ex pn, PE (cxLc X own fr sc cl C s H ex pn) elt te) (hs : ∀ x, foldedSetIterable iter X.env x = pure x := by intro _; rfl) :
    PE X (.ListComp elt [⟨tg, iter, ifs, 0⟩] sc pos) (tLc wi g tt te own fr) := by
  intro pins s σ H Q I h
  rw [eval_ListComp]
  refine wpAny_comprehension_free (use := none) rfl hs L.clos L.kind L.names (thn (hi pins s σ H _ I h) fun v s1 h1 => thn h1 fun itv s2 h2 => ?_)
  obtain ⟨it, fp, tn, J, H2, e, I2, T, st2, f2, h2⟩ := h2
  subst e
  refine wpAny_newObj_type ?_
  have I3 : Inv X pins σ (upd H2 s2.heap.objs.size (.lst [])) { s2 with heap := s2.heap.push { cls := .type "list", data := .seq ([] : List Value).toArray } } := I2.lnew (t' := s2.toks) .nil (Nat.zero_le _)
  have n2 : H2 s2.heap.objs.size = none := I2.fresh
  obtain ⟨W, ⟨m0, w0⟩, turn⟩ := h2 _ n2
  have lt2 : ∀ b ∈ fp, b < s2.heap.objs.size := fun b hb => by
    obtain ⟨o, eo, _⟩ := T.obj 0 _ st2 b hb
    exact Heap.lt_size eo
  have fp3 : ∀ b ∈ fp, FpOk X pins (upd H2 s2.heap.objs.size (.lst [])) b := fun b hb => ⟨by rw [upd_ne (Nat.ne_of_lt (lt2 b hb))]; exact (f2 b hb).1, (f2 b hb).2⟩
  generalize hs3 : ({ s2 with heap := s2.heap.push { cls := .type "list", data := .seq ([] : List Value).toArray } } : Shared) = s3 at I3
  have st3 : tn 0 s3.heap := by
    rw [← hs3]
    exact T.keep 0 _ _ st2 fun b hb o eo => Heap.get?_push_of_some _ eo
  have lt3 : ∀ b ∈ fp, b < s3.heap.objs.size := fun b hb => by
    obtain ⟨o, eo, _⟩ := T.obj 0 _ st3 b hb
    exact Heap.lt_size eo
  generalize hH3 : upd H2 s2.heap.objs.size (.lst []) = H3 at I3 fp3 w0
  generalize s2.heap.objs.size = acc at turn w0 hH3 ⊢
  refine newEnv_cells ?_
  have hns : (pushCells (s3.heap.push { cls := .type "dict", data := .dict #[] }) sc.names).Ns s3.heap.objs.size fun _ => none := (Heap.Ns.new s3.heap (.type "dict")).keeps (pushCells_keeps _ _)
  have kp : ∀ b o, s3.heap.get? b = some o → (pushCells (s3.heap.push { cls := .type "dict", data := .dict #[] }) sc.names).get? b = some o := fun b o eo => pushCells_keeps _ _ b o (Heap.get?_push_of_some _ eo)
  have ncl : ∀ y c, (cellsFrom (s3.heap.objs.size + 1) sc.names cl).lookup y = some c → cl.lookup y = some c ∨ (pushCells (s3.heap.push { cls := .type "dict", data := .dict #[] }) sc.names).IsCell c none := fun y c e =>
    cf_cell sc.names (s3.heap.push { cls := .type "dict", data := .dict #[] }) cl y c (by rw [Heap.size_push]; exact e)
  generalize hh4 : pushCells (s3.heap.push { cls := .type "dict", data := .dict #[] }) sc.names = h4 at hns kp ncl
  have I4 := lcInv (own := own) (tk := s3.toks) L I3 fp3 lt3 hns kp ncl
  have st4 : tn 0 h4 := T.keep 0 _ _ st3 fun b hb o eo => kp b o eo
  have stat : ∀ {H' : Hp}, (∀ b ∈ fp, H' b = none) → ∀ b ∈ fp, FpOk (cxLc X own fr sc cl s3.heap.objs.size s3 H3 fp (X.pn ++ pins)) [] H' b := fun {H'} hn b hb =>
    ⟨hn b hb, Nat.ne_of_lt (lt3 b hb), fun z => (List.mem_cons.mp (I3.stkSub b z)).elim (fp3 b hb).2.1 (fp3 b hb).2.2.1, .inl hb, fun y c e => (cf_lookup _ _ _ y c e).elim (fun q => (fp3 b hb).2.2.2.2.1 y c (L.sub y c q)) fun q => Nat.ne_of_gt (Nat.lt_of_lt_of_le (lt3 b hb) (Nat.le_of_succ_le q.1)), fun p hp => (fp3 b hb).2.2.2.2.2 p (by
      have z : p ∈ (X.pn ++ pins) ++ [] := hp
      simpa using z)⟩
  have loop : codeAny (model X.prog X.w) X.A (.compLoop (.ListComp elt [⟨tg, iter, ifs, 0⟩] sc pos) 0 (.ref it) (.ref acc) (compEnvC sc (cellsFrom (s3.heap.objs.size + 1) sc.names cl) s3.heap.objs.size X.env))
      (compPost (model X.prog X.w) X.A X.xe none (EP X pins σ Q) (.ref acc) s3.heap.objs.size) { s3 with heap := h4, toks := s3.toks } := by
    refine lcLoop (fun n s' => ∃ i ys σ1 H1, Inv (cxLc X own fr sc cl s3.heap.objs.size s3 H3 fp (X.pn ++ pins)) [] σ1 H1 s' ∧ tn i s'.heap ∧ (∀ b ∈ fp, H1 b = none) ∧ W i n ys σ1 H1) ?_ m0 ⟨0, [], _, H3, I4, st4, fun b hb => (fp3 b hb).1, w0⟩
    rintro n s5 ⟨i, ys, σ5, H5, I5, st5, fr5, w5⟩
    obtain ⟨hacc, hlen, hh⟩ := turn i n ys σ5 H5 w5
    rcases hh with ⟨stop, qn⟩ | ⟨go, N, hN, step⟩
    · refine thn (T.done (cxLc X own fr sc cl s3.heap.objs.size s3 H3 fp (X.pn ++ pins)) rfl rfl rfl hc i [] s5 σ5 H5 NoX I5 (stat fr5) st5 stop) fun r s6 ⟨hr, I6⟩ => ?_
      subst hr
      obtain ⟨m6, ns6, _⟩ := id I6.loc
      refine ⟨m6, ns6, fun h7 sb7 => ⟨.ref acc, H5, ?_, rfl, qn⟩⟩
      have old : ∀ b o, s3.heap.get? b = some o → b ≠ s3.heap.objs.size := fun b o eo => Nat.ne_of_lt (Heap.lt_size eo)
      have u6 : Un (frs X.stack) fp H3 H5 s3.heap s6.heap := I6.base
      have u7 : Un (frs X.stack) fp H3 H5 s3.heap h7 :=
        ⟨fun b o eo nn hb hx => (sb7.2 b (old b o eo)).trans (u6.keep b o eo nn hb hx), fun b o eo nn hb hx => by
          obtain ⟨sl, q⟩ := u6.slot b o eo nn hb hx
          exact ⟨sl, (sb7.2 b (old b o eo)).trans q⟩, u6.free, fun b o eo hx => by
          obtain ⟨o', q⟩ := u6.there b o eo hx
          exact ⟨o', (sb7.2 b (old b o eo)).trans q⟩, u6.tups, u6.frzs, u6.tbls⟩
      have fC : H5 s3.heap.objs.size = none := I6.free
      have hok7 : HOk X.prog X.w H5 h7 := fun b ob eb => by
        refine (I6.hok b ob eb).stay (fun c w' hc' q => (sb7.2 c ?_).trans q) (fun _ q => q) fun _ _ q => q
        rintro rfl
        rcases hc' with z | z
        · rw [← z, fC] at eb; cases eb
        · rw [fC] at z; cases z
      exact I3.call' (s' := { s6 with heap := h7 }) I6.os u7 hok7 I6.bare fun b hb => ⟨(fp3 b hb).2.2.2.1, (fp3 b hb).2.1, (fp3 b hb).2.2.2.2.1, (fp3 b hb).2.2.2.2.2⟩
    · refine thn (T.item (cxLc X own fr sc cl s3.heap.objs.size s3 H3 fp (X.pn ++ pins)) rfl rfl rfl hc i [] s5 σ5 H5 NoX I5 (stat fr5) st5 go) fun r s6 ⟨u, hr, h6⟩ => ?_
      subst hr
      refine thn h6 fun _ s7 ⟨x, H7, I7, r7, y7, st7, fr7⟩ => ?_
      have I7' := I7.pinned (stat fr7) (T.obj _ _ st7)
      refine thn (hg _ _ _ _ _ _ s7 σ5 H7 x u _ I7' r7 (step x H7 y7)) fun _ s8 ⟨σ8, H8, I8, q8⟩ => ?_
      have again : ∀ {zs : List V} {σ9 : St} {H9 : Hp} {s9 : Shared}, Inv (cxLc X own fr sc cl s3.heap.objs.size s3 H3 fp (X.pn ++ pins)) ([] ++ pinsAt fp s7.heap) σ9 H9 s9 → N zs σ9 H9 →
          ∃ m, m < n ∧ ∃ i ys σ1 H1, Inv (cxLc X own fr sc cl s3.heap.objs.size s3 H3 fp (X.pn ++ pins)) [] σ1 H1 s9 ∧ tn i s9.heap ∧ (∀ b ∈ fp, H1 b = none) ∧ W i m ys σ1 H1 := fun {zs σ9 H9 s9} I9 n9 => by
        obtain ⟨m', hm, w9⟩ := hN zs σ9 H9 n9
        refine ⟨m', hm, i + 1, zs, σ9, H9, I9.unpinned, T.keep _ _ _ st7 fun b hb o e => (I9.pin (b, o) (List.mem_append_right _ (List.mem_append_right _ (mem_pinsAt hb e)))).1, fun b hb => ?_, w9⟩
        obtain ⟨o, e, d⟩ := T.obj _ _ st7 b hb
        exact (I9.pin (b, o) (List.mem_append_right _ (List.mem_append_right _ (mem_pinsAt hb e)))).2.1
      refine thn (ht _ _ _ _ _ _ s8 σ8 H8 _ I8 q8) fun ok s9 ⟨H9, I9, q9⟩ => ?_
      cases ok with
      | false => exact again I9 (by simpa using q9)
      | true =>
        refine thn (he _ _ _ _ _ _ s9 σ8 H9 _ I9 q9) fun z s10 ⟨y, H10, I10, r10, a10, q10⟩ => ?_
        refine thn (mt_append _ s10 σ8 H10 (.ref acc) [y] (.ref acc) [z] (fun _ H' => N (ys ++ [y]) σ8 H') I10 rfl (.cons r10 .nil) ⟨acc, ys, y, rfl, rfl, a10, hlen, q10⟩) fun _ s11 ⟨_, H11, I11, _, q11⟩ => again I11 q11
  rw [← hs3] at loop ⊢
  exact codeAny_compStart_list loop (noX (T.self _ 0 _ _ _ st4 (by rw [hs3]; rw [hs3] at loop; exact loop)))
end L2
namespace L2
open PySem PySem.Spec PyProof.Rows
theorem log2_of {n : Int} {k : Nat} (h : n.natAbs < 2 ^ k) (hk : 0 < k) : n.natAbs.log2 < k := by
  by_cases z : n.natAbs = 0
  · rw [z]
    show Nat.log2 0 < k
    rw [Nat.log2_zero]
    exact hk
  · exact (Nat.log2_lt z).mpr h
section
variable {X : Cx}
def CMulB (i j : Int) : Prop := i.natAbs < 2 ^ 8000 ∧ j.natAbs < 2 ^ 8000
theorem op_mulB : OpR X (binaryOp .Mult) (rI CMulB fun i j => .int (i * j)) := opI fun _ _ _ _ _ _ _ hc q =>
  mul_int q (IntMulOk.of_le (intBits_le_iff.mpr hc.1) (intBits_le_iff.mpr hc.2) (by decide))
def CDivB (_ j : Int) : Prop := 0 < j ∧ j.natAbs < 2 ^ 8000
theorem op_fdivB : OpR X (binaryOp .FloorDiv) (rI CDivB fun i j => .int (i / j)) := opI fun i j _ _ _ _ _ hc q => by
  have h1 : (0 : Int) < j := hc.1
  refine floordiv_int (by omega) (by rw [Int.fdiv_eq_ediv_of_nonneg i (by omega)]; exact q) (.inl (PyProof.noPylong_of_log2 ?_))
  exact Nat.lt_trans (log2_of hc.2 (by decide)) (by decide)
theorem step_small {hi c : Int} (h0 : 0 ≤ hi) (h1 : hi < 2 ^ 30) (c0 : 0 < c) (c1 : c < 2 ^ 30) : Builtin.Range.small 0 hi c = true := by
  unfold Builtin.Range.small
  rw [rangeSize_pos (by omega) h0]
  have a0 : 0 ≤ (hi + c - 1) / c := Int.ediv_nonneg (by omega) (by omega)
  have a1 : (hi + c - 1) / c * c ≤ hi + c - 1 := Int.ediv_mul_le _ (by omega)
  have a2 : (hi + c - 1) / c ≤ hi + c - 1 := Int.ediv_le_self _ (by omega)
  have a3 : (0 : Int) ≤ (hi + c - 1) / c * c := Int.mul_nonneg a0 (by omega)
  have cc : c > 0 := c0
  simp only [Builtin.Range.rangeFitsLong, Bool.and_eq_true, Bool.or_eq_true, decide_eq_true_eq, beq_iff_eq, cc, if_true]
  generalize (hi + c - 1) / c * c = p at *
  generalize (hi + c - 1) / c = q at *
  omega
end
end L2
namespace L2
open PySem PySem.Spec PyProof.Rows
inductive Dv where
  | fl (v : V)
  | lst (ds : List Dv)
  | tup (ds : List Dv)
mutual
def eqD : Dv → Dv → Bool
  | .fl x, .fl y => eqV x y
  | .lst a, .lst b => eqDs a b
  | .tup a, .tup b => eqDs a b
  | _, _ => false
def eqDs : List Dv → List Dv → Bool
  | [], [] => true
  | x :: r, y :: q => eqD x y && eqDs r q
  | _, _ => false
end
mutual
def dpD : Dv → Nat
  | .fl _ => 0
  | .lst a => dpDs a + 1
  | .tup a => dpDs a + 1
def dpDs : List Dv → Nat
  | [] => 0
  | x :: r => max (dpD x) (dpDs r)
end
mutual
def Hv (K : PySem.W.Frag) (H : Hp) : Dv → V → Prop
  | .fl v, x => x = v ∧ flatV v = true
  | .lst ds, x => ∃ a xs, x = .ref a ∧ SqL K H a xs ∧ HvL K H ds xs
  | .tup ds, x => ∃ a xs, x = .ref a ∧ SqT K H a xs ∧ HvL K H ds xs
def HvL (K : PySem.W.Frag) (H : Hp) : List Dv → List V → Prop
  | [], xs => xs = []
  | d :: ds, xs => ∃ x r, xs = x :: r ∧ Hv K H d x ∧ HvL K H ds r
end
theorem eqV_refl {v : V} (h : flatV v = true) : eqV v v = true := by
  cases v <;> first | rfl | (simp [eqV]; done) | (exact absurd h (by decide)) | (cases h)
section
variable {X : Cx} {pins : List (Addr × Obj)} {σ : St} {H : Hp} {s : Shared}
theorem not_both (I : Inv X pins σ H s) {a : Addr} {xs ys : List V} (h1 : SqL X.K H a xs) (h2 : SqT X.K H a ys) : False := by
  obtain ⟨i1, _, p1, _⟩ := I.list h1
  obtain ⟨i2, _, p2, _⟩ := I.tuple h2
  exact SeqAt.ne_of_list_tuple p1.isList p2 rfl
mutual
theorem same_eq (I : Inv X pins σ H s) : ∀ (d e : Dv) (x : V), Hv X.K H d x → Hv X.K H e x → eqD d e = true
  | .fl v, .fl w, x, h1, h2 => by
    obtain ⟨rfl, f⟩ := h1
    obtain ⟨rfl, _⟩ := h2
    exact eqV_refl f
  | .fl v, .lst es, x, h1, h2 => by
    obtain ⟨rfl, f⟩ := h1
    obtain ⟨a, xs, rfl, _⟩ := h2
    cases f
  | .fl v, .tup es, x, h1, h2 => by
    obtain ⟨rfl, f⟩ := h1
    obtain ⟨a, xs, rfl, _⟩ := h2
    cases f
  | .lst ds, .fl v, x, h2, h1 => by
    obtain ⟨rfl, f⟩ := h1
    obtain ⟨a, xs, rfl, _⟩ := h2
    cases f
  | .tup ds, .fl v, x, h2, h1 => by
    obtain ⟨rfl, f⟩ := h1
    obtain ⟨a, xs, rfl, _⟩ := h2
    cases f
  | .lst ds, .lst es, x, h1, h2 => by
    obtain ⟨a, xs, rfl, q, r⟩ := h1
    obtain ⟨b, ys, e, q', r'⟩ := h2
    cases e
    have := I.list_inj q q'
    subst this
    exact same_eqs I ds es xs r r'
  | .tup ds, .tup es, x, h1, h2 => by
    obtain ⟨a, xs, rfl, q, r⟩ := h1
    obtain ⟨b, ys, e, q', r'⟩ := h2
    cases e
    have := I.tuple_inj q q'
    subst this
    exact same_eqs I ds es xs r r'
  | .lst ds, .tup es, x, h1, h2 => by
    obtain ⟨a, xs, rfl, q, r⟩ := h1
    obtain ⟨b, ys, e, q', r'⟩ := h2
    cases e
    exact (not_both I q q').elim
  | .tup ds, .lst es, x, h1, h2 => by
    obtain ⟨a, xs, rfl, q, r⟩ := h1
    obtain ⟨b, ys, e, q', r'⟩ := h2
    cases e
    exact (not_both I q' q).elim
theorem same_eqs (I : Inv X pins σ H s) : ∀ (ds es : List Dv) (xs : List V), HvL X.K H ds xs → HvL X.K H es xs → eqDs ds es = true
  | [], [], _, _, _ => rfl
  | [], e :: es, xs, h1, h2 => by
    obtain rfl : xs = [] := h1
    obtain ⟨x, r, z, _⟩ := h2
    cases z
  | d :: ds, [], xs, h1, h2 => by
    obtain rfl : xs = [] := h2
    obtain ⟨x, r, z, _⟩ := h1
    cases z
  | d :: ds, e :: es, xs, h1, h2 => by
    obtain ⟨x, r, rfl, a, b⟩ := h1
    obtain ⟨x', r', z, a', b'⟩ := h2
    cases z
    show (eqD d e && eqDs ds es) = true
    rw [same_eq I d e x a a', same_eqs I ds es r b b']
    rfl
end
theorem HvL.length {K : PySem.W.Frag} {H : Hp} : ∀ {ds : List Dv} {xs : List V}, HvL K H ds xs → ds.length = xs.length
  | [], xs, h => by
    obtain rfl : xs = [] := h
    rfl
  | d :: ds, xs, h => by
    obtain ⟨x, r, rfl, _, b⟩ := h
    rw [List.length_cons, List.length_cons, HvL.length b]
theorem eqDs_len : ∀ {ds es : List Dv}, ds.length ≠ es.length → eqDs ds es = false
  | [], [], h => absurd rfl h
  | [], _ :: _, _ => rfl
  | _ :: _, [], _ => rfl
  | d :: ds, e :: es, h => by
    show (eqD d e && eqDs ds es) = false
    rw [eqDs_len (ds := ds) (es := es) (by simpa using h), Bool.and_false]
def eqAtI (ds es : List Dv) (j : Nat) : Bool := match ds[j]?, es[j]? with
  | some d, some e => eqD d e
  | _, _ => false
theorem all_eqAtI : ∀ {ds es : List Dv}, ds.length = es.length → (List.range ds.length).all (eqAtI ds es) = eqDs ds es
  | [], [], _ => rfl
  | [], _ :: _, h => by cases h
  | _ :: _, [], h => by cases h
  | d :: ds, e :: es, h => by
    rw [List.length_cons, List.range_succ_eq_map, List.all_cons, List.all_map]
    show (eqD d e && (List.range ds.length).all (eqAtI (d :: ds) (e :: es) ∘ Nat.succ)) = (eqD d e && eqDs ds es)
    congr 1
    exact all_eqAtI (ds := ds) (es := es) (by simpa using h)
mutual
theorem eqAt_D (I : Inv X pins σ H s) : ∀ (d e : Dv) (A : Around) (x y : V) (u v : Value), A.units + dpD d < cLine → Hv X.K H d x → Hv X.K H e y → RelV x u → RelV y v → SeqAt.EqAt A s u v (eqD d e)
  | .fl a, .fl b, A, x, y, u, v, hu, h1, h2, rx, ry => by
    obtain ⟨rfl, f1⟩ := h1
    obtain ⟨rfl, f2⟩ := h2
    exact eqAt_V rx ry f1 f2
  | .fl a, .lst es, A, x, y, u, v, hu, h1, h2, rx, ry => by
    obtain ⟨rfl, f1⟩ := h1
    obtain ⟨b, ys, rfl, q, r⟩ := h2
    cases ry
    obtain ⟨its, _, pl, _⟩ := I.list q
    have hu' : A.units < cLine := hu
    cases x with
    | non => cases rx; exact SeqAt.EqAt.none_list pl.isList hu'
    | bl c => cases rx; exact SeqAt.EqAt.bool_list c pl.isList hu'
    | int c => obtain ⟨t, rfl⟩ := rx; exact SeqAt.EqAt.int_list c t pl.isList hu'
    | str c => obtain ⟨t, rfl⟩ := rx; exact SeqAt.EqAt.str_list c t pl.isList hu'
    | _ => cases f1
  | .fl a, .tup es, A, x, y, u, v, hu, h1, h2, rx, ry => by
    obtain ⟨rfl, f1⟩ := h1
    obtain ⟨b, ys, rfl, q, r⟩ := h2
    cases ry
    obtain ⟨its, _, pl, _⟩ := I.tuple q
    have hu' : A.units < cLine := hu
    cases x with
    | non => cases rx; exact SeqAt.EqAt.none_tuple pl hu'
    | bl c => cases rx; exact SeqAt.EqAt.bool_tuple c pl hu'
    | int c => obtain ⟨t, rfl⟩ := rx; exact SeqAt.EqAt.int_tuple c t pl hu'
    | str c => obtain ⟨t, rfl⟩ := rx; exact SeqAt.EqAt.str_tuple c t pl hu'
    | _ => cases f1
  | .lst ds, .fl b, A, x, y, u, v, hu, h1, h2, rx, ry => by
    obtain ⟨rfl, f2⟩ := h2
    obtain ⟨a, xs, rfl, q, r⟩ := h1
    cases rx
    obtain ⟨its, _, pl, _⟩ := I.list q
    have hu' : A.units < cLine := Nat.lt_of_le_of_lt (Nat.le_add_right _ _) hu
    cases y with
    | non => cases ry; exact SeqAt.EqAt.list_none pl.isList hu'
    | bl c => cases ry; exact SeqAt.EqAt.list_bool c pl.isList hu'
    | int c => obtain ⟨t, rfl⟩ := ry; exact SeqAt.EqAt.list_int c t pl.isList hu'
    | str c => obtain ⟨t, rfl⟩ := ry; exact SeqAt.EqAt.list_str c t pl.isList hu'
    | _ => cases f2
  | .tup ds, .fl b, A, x, y, u, v, hu, h1, h2, rx, ry => by
    obtain ⟨rfl, f2⟩ := h2
    obtain ⟨a, xs, rfl, q, r⟩ := h1
    cases rx
    obtain ⟨its, _, pl, _⟩ := I.tuple q
    have hu' : A.units < cLine := Nat.lt_of_le_of_lt (Nat.le_add_right _ _) hu
    cases y with
    | non => cases ry; exact SeqAt.EqAt.tuple_none pl hu'
    | bl c => cases ry; exact SeqAt.EqAt.tuple_bool c pl hu'
    | int c => obtain ⟨t, rfl⟩ := ry; exact SeqAt.EqAt.tuple_int c t pl hu'
    | str c => obtain ⟨t, rfl⟩ := ry; exact SeqAt.EqAt.tuple_str c t pl hu'
    | _ => cases f2
  | .lst ds, .tup es, A, x, y, u, v, hu, h1, h2, rx, ry => by
    obtain ⟨a, xs, rfl, q, r⟩ := h1
    obtain ⟨b, ys, rfl, q', r'⟩ := h2
    cases rx
    cases ry
    obtain ⟨_, _, p1, _⟩ := I.list q
    obtain ⟨_, _, p2, _⟩ := I.tuple q'
    exact SeqAt.EqAt.list_tuple p1.isList p2 (Nat.lt_of_le_of_lt (Nat.le_add_right _ _) hu)
  | .tup ds, .lst es, A, x, y, u, v, hu, h1, h2, rx, ry => by
    obtain ⟨a, xs, rfl, q, r⟩ := h1
    obtain ⟨b, ys, rfl, q', r'⟩ := h2
    cases rx
    cases ry
    obtain ⟨_, _, p1, _⟩ := I.tuple q
    obtain ⟨_, _, p2, _⟩ := I.list q'
    exact SeqAt.EqAt.tuple_list p1 p2.isList (Nat.lt_of_le_of_lt (Nat.le_add_right _ _) hu)
  | .lst ds, .lst es, A, x, y, u, v, hu, h1, h2, rx, ry => by
    obtain ⟨a, xs, rfl, q, r⟩ := id h1
    obtain ⟨b, ys, rfl, q', r'⟩ := id h2
    cases rx
    cases ry
    by_cases hab : a = b
    · subst hab
      rw [same_eq I _ _ _ h1 h2]
      exact SeqAt.EqAt.same _
    obtain ⟨i1, v1, p1, _⟩ := I.list q
    obtain ⟨i2, v2, p2, _⟩ := I.list q'
    have hu' : A.units < cLine := Nat.lt_of_le_of_lt (Nat.le_add_right _ _) hu
    have l1 := r.length
    have l2 := r'.length
    have m1 := v1.length
    have m2 := v2.length
    refine .of_refs hab ?_
    show SeqAt.RcAt A s (.ref a) (.ref b) (eqDs ds es)
    by_cases hl : ds.length = es.length
    · have z := SeqAt.RcAt.lists (e := eqAtI ds es) p1.isList p2.isList (by simp; omega) hu' (fun j g1 g2 => eqAt_Ds I ds es A.in1 xs ys i1 i2 (by show A.units + 1 + dpDs ds < cLine; have : A.units + (dpDs ds + 1) < cLine := hu; omega) r r' v1 v2 j (by simpa using g1) (by simpa using g2))
      rw [List.size_toArray, ← m1, ← l1, all_eqAtI hl] at z
      exact z
    · rw [eqDs_len hl]
      exact .lists_lengths p1.isList p2.isList (by simp; omega) hu'
  | .tup ds, .tup es, A, x, y, u, v, hu, h1, h2, rx, ry => by
    obtain ⟨a, xs, rfl, q, r⟩ := id h1
    obtain ⟨b, ys, rfl, q', r'⟩ := id h2
    cases rx
    cases ry
    by_cases hab : a = b
    · subst hab
      rw [same_eq I _ _ _ h1 h2]
      exact SeqAt.EqAt.same _
    obtain ⟨i1, v1, p1, _⟩ := I.tuple q
    obtain ⟨i2, v2, p2, _⟩ := I.tuple q'
    have hu' : A.units < cLine := Nat.lt_of_le_of_lt (Nat.le_add_right _ _) hu
    have l1 := r.length
    have l2 := r'.length
    have m1 := v1.length
    have m2 := v2.length
    refine .of_refs hab ?_
    show SeqAt.RcAt A s (.ref a) (.ref b) (eqDs ds es)
    have z := SeqAt.RcAt.tuples (e := eqAtI ds es) p1 p2 hu' (fun j g1 g2 => eqAt_Ds I ds es A.in1 xs ys i1 i2 (by show A.units + 1 + dpDs ds < cLine; have : A.units + (dpDs ds + 1) < cLine := hu; omega) r r' v1 v2 j (by simpa using g1) (by simpa using g2))
    have zz : ((List.range (min i1.toArray.size i2.toArray.size)).all (eqAtI ds es) && i1.toArray.size == i2.toArray.size) = eqDs ds es := by
      rw [List.size_toArray, List.size_toArray, ← m1, ← m2, ← l1, ← l2]
      by_cases hl : ds.length = es.length
      · rw [hl, Nat.min_self, ← hl, all_eqAtI hl]; simp [hl]
      · rw [eqDs_len hl, beq_eq_false_iff_ne.mpr hl, Bool.and_false]
    rw [zz] at z
    exact z
theorem eqAt_Ds (I : Inv X pins σ H s) : ∀ (ds es : List Dv) (A : Around) (xs ys : List V) (us vs : List Value), A.units + dpDs ds < cLine → HvL X.K H ds xs → HvL X.K H es ys → Vals xs us → Vals ys vs →
    ∀ (j : Nat) (h1 : j < us.length) (h2 : j < vs.length), SeqAt.EqAt A s us[j] vs[j] (eqAtI ds es j)
  | [], es, A, xs, ys, us, vs, hu, h1, h2, r1, r2, j, g1, g2 => by
    obtain rfl : xs = [] := h1
    cases r1
    exact absurd g1 (Nat.not_lt_zero _)
  | d :: ds, [], A, xs, ys, us, vs, hu, h1, h2, r1, r2, j, g1, g2 => by
    obtain rfl : ys = [] := h2
    cases r2
    exact absurd g2 (Nat.not_lt_zero _)
  | d :: ds, e :: es, A, xs, ys, us, vs, hu, h1, h2, r1, r2, j, g1, g2 => by
    obtain ⟨x, r, rfl, a, b⟩ := h1
    obtain ⟨y, q, rfl, a', b'⟩ := h2
    cases r1 with
    | cons c1 t1 => cases r2 with
      | cons c2 t2 =>
        have hm : dpDs (d :: ds) = max (dpD d) (dpDs ds) := rfl
        rw [hm] at hu
        cases j with
        | zero => exact eqAt_D I d e A x y _ _ (Nat.lt_of_le_of_lt (Nat.add_le_add_left (Nat.le_max_left _ _) _) hu) a a' c1 c2
        | succ j => exact eqAt_Ds I ds es A r q _ _ (Nat.lt_of_le_of_lt (Nat.add_le_add_left (Nat.le_max_right _ _) _) hu) b b' t1 t2 j (by simpa using g1) (by simpa using g2)
end
def rEqS (K : PySem.W.Frag) (neg : Bool) : R2 := fun x y H Q => ∃ d e, ((∃ ds es, d = .lst ds ∧ e = .lst es) ∨ ∃ ds es, d = .tup ds ∧ e = .tup es) ∧ Hv K H d x ∧ Hv K H e y ∧ dpD d ≤ 50 ∧ Q (.bl (if neg then !eqD d e else eqD d e)) H
theorem op_eqS (hr : X.A.units + 64 < cLine) : OpR X (compareOp .Eq) (rEqS X.K false) := by
  intro pins s σ H x y v u Q I rx ry h
  obtain ⟨d, e, hk, h1, h2, hd, q⟩ := h
  have hu' : X.A.units < cLine := by omega
  rcases hk with ⟨ds, es, rfl, rfl⟩ | ⟨ds, es, rfl, rfl⟩
  · obtain ⟨a, xs, rfl, q1, r⟩ := h1
    obtain ⟨b, ys, rfl, q2, r'⟩ := h2
    cases rx
    cases ry
    obtain ⟨i1, v1, p1, _⟩ := I.list q1
    obtain ⟨i2, v2, p2, _⟩ := I.list q2
    have l1 := r.length
    have l2 := r'.length
    have m1 := v1.length
    have m2 := v2.length
    have hd' : dpDs ds + 1 ≤ 50 := hd
    by_cases hl : ds.length = es.length
    · refine SeqAt.eq_listAt (e := eqAtI ds es) p1.isList p2.isList (by simp; omega) hu' (fun j g1 g2 => eqAt_Ds I ds es X.A.in1 xs ys i1 i2 (by show X.A.units + 1 + dpDs ds < cLine; omega) r r' v1 v2 j (by simpa using g1) (by simpa using g2)) ?_
      rw [List.size_toArray, ← m1, ← l1, all_eqAtI hl]
      exact ⟨.bl _, H, I, rfl, q⟩
    · refine SeqAt.eq_list_lengthsAt p1.isList p2.isList (by simp; omega) hu' ⟨.bl _, H, I, rfl, ?_⟩
      have z : eqD (.lst ds) (.lst es) = false := eqDs_len hl
      rw [z] at q
      exact q
  · obtain ⟨a, xs, rfl, q1, r⟩ := h1
    obtain ⟨b, ys, rfl, q2, r'⟩ := h2
    cases rx
    cases ry
    obtain ⟨i1, v1, p1, _⟩ := I.tuple q1
    obtain ⟨i2, v2, p2, _⟩ := I.tuple q2
    have l1 := r.length
    have l2 := r'.length
    have m1 := v1.length
    have m2 := v2.length
    have hd' : dpDs ds + 1 ≤ 50 := hd
    refine SeqAt.eq_tupleAt (e := eqAtI ds es) p1 p2 hu' (fun j g1 g2 => eqAt_Ds I ds es X.A.in1 xs ys i1 i2 (by show X.A.units + 1 + dpDs ds < cLine; omega) r r' v1 v2 j (by simpa using g1) (by simpa using g2)) ⟨.bl _, H, I, rfl, ?_⟩
    have zz : ((List.range (min i1.toArray.size i2.toArray.size)).all (eqAtI ds es) && i1.toArray.size == i2.toArray.size) = eqDs ds es := by
      rw [List.size_toArray, List.size_toArray, ← m1, ← m2, ← l1, ← l2]
      by_cases hl : ds.length = es.length
      · rw [hl, Nat.min_self, ← hl, all_eqAtI hl]; simp [hl]
      · rw [eqDs_len hl, beq_eq_false_iff_ne.mpr hl, Bool.and_false]
    rw [zz]
    exact q
theorem op_neS (hr : X.A.units + 64 < cLine) : OpR X (compareOp .NotEq) (rEqS X.K true) := by
  intro pins s σ H x y v u Q I rx ry h
  obtain ⟨d, e, hk, h1, h2, hd, q⟩ := h
  have hu' : X.A.units < cLine := by omega
  rcases hk with ⟨ds, es, rfl, rfl⟩ | ⟨ds, es, rfl, rfl⟩
  · obtain ⟨a, xs, rfl, q1, r⟩ := h1
    obtain ⟨b, ys, rfl, q2, r'⟩ := h2
    cases rx
    cases ry
    obtain ⟨i1, v1, p1, _⟩ := I.list q1
    obtain ⟨i2, v2, p2, _⟩ := I.list q2
    have l1 := r.length
    have l2 := r'.length
    have m1 := v1.length
    have m2 := v2.length
    have hd' : dpDs ds + 1 ≤ 50 := hd
    by_cases hl : ds.length = es.length
    · refine SeqAt.RcNeAt.lists (e := eqAtI ds es) p1.isList p2.isList (by simp; omega) hu' (fun j g1 g2 => eqAt_Ds I ds es X.A.in1 xs ys i1 i2 (by show X.A.units + 1 + dpDs ds < cLine; omega) r r' v1 v2 j (by simpa using g1) (by simpa using g2)) _ _ _ _ ?_
      rw [List.size_toArray, ← m1, ← l1, all_eqAtI hl]
      exact ⟨.bl _, H, I, rfl, q⟩
    · refine SeqAt.RcNeAt.lists_lengths p1.isList p2.isList (by simp; omega) hu' _ _ _ _ ⟨.bl _, H, I, rfl, ?_⟩
      have z : eqD (.lst ds) (.lst es) = false := eqDs_len hl
      rw [z] at q
      exact q
  · obtain ⟨a, xs, rfl, q1, r⟩ := h1
    obtain ⟨b, ys, rfl, q2, r'⟩ := h2
    cases rx
    cases ry
    obtain ⟨i1, v1, p1, _⟩ := I.tuple q1
    obtain ⟨i2, v2, p2, _⟩ := I.tuple q2
    have l1 := r.length
    have l2 := r'.length
    have m1 := v1.length
    have m2 := v2.length
    have hd' : dpDs ds + 1 ≤ 50 := hd
    refine SeqAt.RcNeAt.tuples (e := eqAtI ds es) p1 p2 hu' (fun j g1 g2 => eqAt_Ds I ds es X.A.in1 xs ys i1 i2 (by show X.A.units + 1 + dpDs ds < cLine; omega) r r' v1 v2 j (by simpa using g1) (by simpa using g2)) _ _ _ _ ⟨.bl _, H, I, rfl, ?_⟩
    have zz : ((List.range (min i1.toArray.size i2.toArray.size)).all (eqAtI ds es) && i1.toArray.size == i2.toArray.size) = eqDs ds es := by
      rw [List.size_toArray, List.size_toArray, ← m1, ← m2, ← l1, ← l2]
      by_cases hl : ds.length = es.length
      · rw [hl, Nat.min_self, ← hl, all_eqAtI hl]; simp [hl]
      · rw [eqDs_len hl, beq_eq_false_iff_ne.mpr hl, Bool.and_false]
    rw [zz]
    exact q
end
end L2
namespace L2
open PySem PySem.Spec PyProof.Rows
structure FunD (K : PySem.W.Frag) (x qual : Str) (st : Stmt) (dV : Value) (f : Addr) (fd : FuncData) : Prop where
  ex : ∃ (oc : Value) (od : Option Addr) (kV doc pm : Value) (an : Option Addr) (cdv ct : Value) (osl : Array (Option Value)),
    fd = PySem.W.fnOf x qual (defArgs st) (defBody st) (defScope st) dV kV doc pm an cdv ct ∧ K.lookup f = some ⟨oc, od, .func fd, osl⟩ ∧ PySem.W.codeIn K cdv qual = true
  kp : PySem.W.keepIn K (.ref f) = true
structure Kn (P : Program) (w : World) (K : PySem.W.Frag) (mg : Str → Option Value) (base : Heap) (CX : CXT) (k : Nat) (x : Str) (f : Addr) (fd : FuncData) (ps : List Str) (sp : Sp) : Prop where
  ok : FnOk P w K mg base CX k f fd ps sp
  mgx : mg x = some (.ref f)
  kp : PySem.W.keepIn K (.ref f) = true
  bd : Binds K fd ps []
section
variable {P : Program} {w : World} {K : PySem.W.Frag} {mg : Str → Option Value} {base : Heap}
theorem FunD.ok {x qual : Str} {st : Stmt} {dV : Value} {f : Addr} {fd : FuncData} {N ps : List Str} {k : Nat} {sp : Sp} (F : FunD K x qual st dV f fd) (S : FnScope N ps (defScope st)) (len : ∀ vs H Q E, sp vs H Q E → vs.length = ps.length)
    (hbody : ∀ (cdv : Value) (A : Around) (outer : List Env) (s : Shared) (H : Hp) (vs : List V) (Q : VK) (E : XK), Room k (A.deeper (envOfC qual (defScope st) s.heap.objs.size f cdv)) → sp vs H Q E →
      ∃ t, PSs (cxOf CX0 P w K mg base N qual (defScope st) f cdv A outer s H E).nox (defBody st) t ∧ t { nx := fun _ H' => Q .non H', rt := Q } (start N vs) H) : FnOk P w K mg base CX0 (k + 1) f fd ps sp := by
  obtain ⟨oc, od, kV, doc, pm, an, cdv, ct, osl, rfl, lk, hcd⟩ := F.ex
  refine fn_of lk hcd S len fun A outer s H vs Q E hr hsp => ?_
  obtain ⟨t, h, q⟩ := hbody cdv A outer s H vs Q E hr hsp
  exact ⟨t, h.nox, q⟩
theorem funD_mk {x qual : Str} {st : Stmt} {dV : Value} {f : Addr} {oc : Value} {od an : Option Addr} {osl : Array (Option Value)} {kV doc pm cdv ct : Value} (l : K.lookup f = some ⟨oc, od, .func (PySem.W.fnOf x qual (defArgs st) (defBody st) (defScope st) dV kV doc pm an cdv ct), osl⟩)
    (c : PySem.W.codeIn K cdv qual = true) (k : PySem.W.keepIn K (.ref f) = true) : FunD K x qual st dV f (PySem.W.fnOf x qual (defArgs st) (defBody st) (defScope st) dV kV doc pm an cdv ct) := ⟨⟨oc, od, kV, doc, pm, an, cdv, ct, osl, rfl, l, c⟩, k⟩
end
section
variable {X : Cx} {CX : CXT} {k : Nat} {f : Addr} {fd : FuncData} {ps : List Str} {sp : Sp} {E : XK} {x : Str} {p pos : Pos} {e : Expr} {es : List Expr} {t : TA}
theorem pe_kn (F : Kn X.prog X.w X.K X.mg X.base CX0 k x f fd ps sp) (hr : Room k X.A) (hg : Gl X x) (ha : PA X (e :: es) t) (hdb : (x == ("__debug__" : Str)) = false := by decide)
    (he : starEach (e :: es) X.env = (false, eval e X.env) :: starEach es X.env := by rfl) (hpl : (backTo pos (starEach es X.env)).any (·.1) = false := by rfl) :
    PE X (.Call (.Name x p) (e :: es) [] pos) (tCall sp [] E0 t) := pe_call F.ok hr hg F.mgx F.kp F.bd .nil pass0 ha hdb he hpl
end
def rCatL (K : PySem.W.Frag) : R2 := fun x y H Q => ∃ l b xs zs, x = .ref l ∧ y = .ref b ∧ SqL K H l xs ∧ SqL K H b zs ∧ xs.length + zs.length ≤ sizeLine ∧ ∀ p, H p = none → Q (.ref p) (upd H p (.lst (xs ++ zs)))
end L2
namespace L2
open PySem PySem.Spec PyProof.Rows
section
variable {Y : Cx} {c : Expr} {tt : TT}
theorem lc_t0 (pins : List (Addr × Obj)) (s1 : Shared) (σ1 : St) (H1 : Hp) (Q : Bool → Hp → Prop) (I : Inv Y pins σ1 H1 s1) (h : Q true H1) : wpAny (model Y.prog Y.w) Y.A (lcTests [] Y.env) (TP Y pins σ1 Q) NoX s1 :=
  wpAny_pure ⟨H1, I, h⟩
theorem lc_t1 (ht : PT Y c tt) (hx : Y.xe = NoX) (pins : List (Addr × Obj)) (s1 : Shared) (σ1 : St) (H1 : Hp) (Q : Bool → Hp → Prop) (I : Inv Y pins σ1 H1 s1) (h : tt σ1 H1 Q) : wpAny (model Y.prog Y.w) Y.A (lcTests [c] Y.env) (TP Y pins σ1 Q) NoX s1 := by
  have z := ht pins s1 σ1 H1 Q I h
  rw [hx] at z
  unfold lcTests
  rw [List.forIn_cons]
  simp only [if_true]
  refine wpAny_bind (wpAny_bind (thn z fun b s2 q => wpAny_pure ?_))
  exact wpAny_pure q
end
def tNoTest : TT := fun _ H Q => Q true H
section
variable {X : Cx}
theorem op_catL : OpR X (binaryOp .Add) (rCatL X.K) := by
  intro pins s σ H x y v u Q I rx ry h
  obtain ⟨l, b, xs, zs, rfl, rfl, hH, hB, hz, q⟩ := h
  cases rx
  cases ry
  obtain ⟨its, r, ⟨⟨cl, dd, da, sl⟩, n, e, c1, c2, d1⟩, z⟩ := I.list hH
  obtain ⟨its2, r2, ⟨⟨cl2, dd2, da2, sl2⟩, n2, e2, c3, c4, d2⟩, z2⟩ := I.list hB
  simp only at c1 d1 c3 d2
  subst c1 d1 c3 d2
  have l1 := r.length
  have l2 := r2.length
  refine concat_meets ⟨_, e, rfl⟩ ⟨_, e2, rfl⟩ noFill_list_add seq_list_add PySem.F.slot_list_add PySem.F.entry_list_add (PySem.F.args_list_add_2 _ _) (list_addW l b its.toArray its2.toArray n n2 dd dd2 sl sl2 (by simp; omega)) ⟨e, e2, ?_⟩
  have ea : its.toArray ++ its2.toArray = (its ++ its2).toArray := by simp
  rw [ea]
  exact ⟨.ref _, _, I.lnew (t' := s.toks) (r.append r2) (by rw [List.length_append]; omega), rfl, q _ I.fresh⟩
end
end L2
namespace L2
open PySem
theorem bt_isinstance : bootBuiltins "isinstance" = some (.builtin "isinstance") := by decide +kernel
theorem bt_abs : bootBuiltins "abs" = some (.builtin "abs") := by decide +kernel
theorem bt_len : bootBuiltins "len" = some (.builtin "len") := by decide +kernel
theorem bt_all : bootBuiltins "all" = some (.builtin "all") := by decide +kernel
theorem bt_any : bootBuiltins "any" = some (.builtin "any") := by decide +kernel
theorem bt_int : bootBuiltins "int" = some (.type "int") := by decide +kernel
theorem bt_bool : bootBuiltins "bool" = some (.type "bool") := by decide +kernel
theorem bt_str : bootBuiltins "str" = some (.type "str") := by decide +kernel
theorem bt_list : bootBuiltins "list" = some (.type "list") := by decide +kernel
theorem bt_tuple : bootBuiltins "tuple" = some (.type "tuple") := by decide +kernel
theorem bt_zip : bootBuiltins "zip" = some (.type "zip") := by decide +kernel
theorem bt_enumerate : bootBuiltins "enumerate" = some (.type "enumerate") := by decide +kernel
end L2
namespace L2
open PySem PySem.Spec PyProof.Rows
def closF (cells : List (Str × Addr)) : List (Str × NameKind) → List (Str × Addr) → List (Str × Addr)
  | [], cs => cs
  | (n, k) :: r, cs => closF cells r (if k == .free then (n, (cells.lookup n).getD 0) :: cs else cs)
theorem clos_eq {sc : Scope} {env : Env} (h : ∀ p ∈ sc.names, p.2 = .free → ∃ c, env.cells.lookup p.1 = some c) : closureFor sc env = pure (closF env.cells sc.names []) := by
  have key : ∀ (names : List (Str × NameKind)) (cs : List (Str × Addr)), (∀ p ∈ names, p.2 = .free → ∃ c, env.cells.lookup p.1 = some c) →
      (forIn names cs fun x t => match x with
        | (name, kind) => if (kind == NameKind.free) = true then do
              let a ← cellOf env name
              pure (ForInStep.yield ((name, a) :: t))
            else pure (ForInStep.yield t)) = (pure (closF env.cells names cs) : Sem (List (Str × Addr))) := by
    intro names
    induction names with
    | nil => intro cs _; rfl
    | cons p r ih =>
      intro cs hp
      obtain ⟨n, k⟩ := p
      rw [List.forIn_cons]
      cases hk : k == NameKind.free with
      | true =>
        obtain ⟨c, hc⟩ := hp (n, k) (.head _) (beq_iff_eq.mp hk)
        have hc' : env.cells.lookup n = some c := hc
        have e1 : cellOf env n = pure c := by unfold cellOf; rw [hc']
        have e2 : closF env.cells ((n, k) :: r) cs = closF env.cells r ((n, c) :: cs) := by
          show closF env.cells r (if (k == NameKind.free) = true then _ else _) = _
          rw [hk, hc', if_pos rfl]
          rfl
        rw [e2, ← ih ((n, c) :: cs) fun q hq => hp q (.tail _ hq)]
        simp only [hk, if_true, e1]
        rfl
      | false =>
        have e2 : closF env.cells ((n, k) :: r) cs = closF env.cells r cs := by
          show closF env.cells r (if (k == NameKind.free) = true then _ else _) = _
          rw [hk, if_neg (by decide)]
        rw [e2, ← ih cs fun q hq => hp q (.tail _ hq)]
        simp only [hk, Bool.false_eq_true, if_false]
        rfl
  simp only [closureFor]
  rw [key sc.names [] h]
  rfl
theorem closF_sub {cells : List (Str × Addr)} : ∀ (names : List (Str × NameKind)) (cs : List (Str × Addr)), (∀ p ∈ names, p.2 = .free → ∃ c, cells.lookup p.1 = some c) → (∀ y c, cs.lookup y = some c → cells.lookup y = some c) →
    ∀ y c, (closF cells names cs).lookup y = some c → cells.lookup y = some c
  | [], _, _, h => h
  | (n, k) :: r, cs, hp, h => by
    refine closF_sub r _ (fun q hq => hp q (.tail _ hq)) fun y c e => ?_
    split at e
    · rename_i hk
      obtain ⟨c0, hc⟩ := hp (n, k) (.head _) (beq_iff_eq.mp hk)
      have hc' : cells.lookup n = some c0 := hc
      rw [List.lookup_cons] at e
      split at e
      · rename_i hy
        have : y = n := beq_iff_eq.mp hy
        subst this
        rw [hc'] at e
        cases e
        exact hc'
      · exact h y c e
    · exact h y c e
theorem closF_keep {cells : List (Str × Addr)} : ∀ (names : List (Str × NameKind)) (cs : List (Str × Addr)) (y : Str), (∃ c, cs.lookup y = some c) → ∃ c, (closF cells names cs).lookup y = some c
  | [], _, _, h => h
  | (n, k) :: r, cs, y, ⟨c, h⟩ => by
    refine closF_keep r _ y ?_
    split
    · rw [List.lookup_cons]
      split
      · exact ⟨_, rfl⟩
      · exact ⟨c, h⟩
    · exact ⟨c, h⟩
theorem closF_has {cells : List (Str × Addr)} : ∀ (names : List (Str × NameKind)) (cs : List (Str × Addr)) (y : Str), (y, NameKind.free) ∈ names → ∃ c, (closF cells names cs).lookup y = some c
  | [], _, _, h => nomatch h
  | (n, k) :: r, cs, y, h => by
    rcases List.mem_cons.mp h with e | h
    · have e1 : y = n := congrArg (·.1) e
      have e2 : NameKind.free = k := congrArg (·.2) e
      subst e1 e2
      refine closF_keep r _ _ ?_
      rw [if_pos (by decide), List.lookup_cons_self]
      exact ⟨_, rfl⟩
    · exact closF_has r _ y h
theorem mem_of_lookup {κ β : Type} [BEq κ] [LawfulBEq κ] {l : List (κ × β)} {y : κ} {k : β} (h : l.lookup y = some k) : (y, k) ∈ l := by
  induction l with
  | nil => cases h
  | cons p r ih =>
    obtain ⟨n, b⟩ := p
    rw [List.lookup_cons] at h
    split at h
    · rename_i hy
      have : y = n := beq_iff_eq.mp hy
      subst this
      cases h
      exact .head _
    · exact .tail _ (ih h)
section
variable {CX : CXT} {P : Program} {w : World} {K : PySem.W.Frag} {mg : Str → Option Value} {base : Heap} {N : List Str} {qual : Str} {sc0 : Scope} {f : Addr} {cd : Value} {A : Around} {outer : List Env} {s : Shared} {H : Hp} {E : XK} {XE : Value → Shared → Prop}
structure LcNames (N : List Str) (sc0 sc : Scope) (fr : List Nat) : Prop where
  kind : sc.kind = .function
  kind0 : sc0.kind = .function
  nocell : ∀ y ∈ sc.names, y.2 ≠ .cell
  loc : ∀ y ∈ sc.names, y.2 = .local → sc.names.lookup y.1 = some .local
  fre : ∀ y ∈ sc.names, y.2 = .free → sc0.names.lookup y.1 = some .cell
  frs : ∀ j ∈ fr, sc.names.lookup (N.getD j "") = some .free ∧ j < N.length
theorem lookup_relabel {env : Env} : ∀ {names : List (Str × NameKind)} {y : Str} {k : NameKind}, (names.map fun (n, k) => if (k == NameKind.free && env.scope.kind == .function && env.kindOf n == some .cell) then (n, NameKind.cell) else (n, k)).lookup y = some k →
    ∃ k0, names.lookup y = some k0 ∧ (k = k0 ∨ (k = .cell ∧ k0 = .free))
  | [], _, _, h => by cases h
  | (n, k0) :: r, y, k, h => by
    rw [List.map_cons] at h
    simp only at h
    split at h
    · rename_i hc
      rw [List.lookup_cons] at h ⊢
      split at h
      · cases h
        simp only [Bool.and_eq_true, beq_iff_eq] at hc
        exact ⟨k0, rfl, .inr ⟨rfl, hc.1.1⟩⟩
      · exact lookup_relabel h
    · rw [List.lookup_cons] at h ⊢
      split at h
      · cases h
        exact ⟨k0, rfl, .inl rfl⟩
      · exact lookup_relabel h
theorem lookup_relabel_free {env : Env} : ∀ {names : List (Str × NameKind)} {y : Str}, names.lookup y = some .free →
    (names.map fun (n, k) => if (k == NameKind.free && env.scope.kind == .function && env.kindOf n == some .cell) then (n, NameKind.cell) else (n, k)).lookup y = some .cell ∨
    (names.map fun (n, k) => if (k == NameKind.free && env.scope.kind == .function && env.kindOf n == some .cell) then (n, NameKind.cell) else (n, k)).lookup y = some .free
  | [], _, h => by cases h
  | (n, k0) :: r, y, h => by
    rw [List.map_cons]
    rw [List.lookup_cons] at h
    simp only
    split at h
    · rename_i hy
      cases h
      split
      · left; rw [List.lookup_cons, hy]
      · right; rw [List.lookup_cons, hy]
    · rename_i hy
      split
      · rw [List.lookup_cons, hy]; exact lookup_relabel_free h
      · rw [List.lookup_cons, hy]; exact lookup_relabel_free h
structure LcNamesC (N : List Str) (sc0 sc : Scope) (fr : List Nat) : Prop where
  kind : sc.kind = .function
  kind0 : sc0.kind = .function
  own : ∀ y ∈ sc.names, y.2 = .cell → ∀ z ∈ sc.names, z.2 = .free → z.1 ≠ y.1
  loc : ∀ y ∈ sc.names, y.2 = .local → sc.names.lookup y.1 = some .local
  fre : ∀ y ∈ sc.names, y.2 = .free → sc0.names.lookup y.1 = some .cell
  frs : ∀ j ∈ fr, sc.names.lookup (N.getD j "") = some .free ∧ j < N.length
theorem closF_none {cells : List (Str × Addr)} : ∀ (names : List (Str × NameKind)) (cs : List (Str × Addr)) (y : Str), (∀ z ∈ names, z.2 = .free → z.1 ≠ y) → cs.lookup y = none → (closF cells names cs).lookup y = none
  | [], _, _, _, h => h
  | (n, k) :: r, cs, y, hn, h => by
    refine closF_none r _ y (fun z hz => hn z (.tail _ hz)) ?_
    split
    · rename_i hk
      have hne : n ≠ y := hn (n, k) (.head _) (beq_iff_eq.mp hk)
      have hb : (y == n) = false := beq_eq_false_iff_ne.mpr fun e => hne e.symm
      rw [List.lookup_cons, hb]
      exact h
    · exact h
theorem lookup_relabel_cell {env : Env} : ∀ {names : List (Str × NameKind)} {y : Str}, names.lookup y = some .cell →
    (names.map fun (n, k) => if (k == NameKind.free && env.scope.kind == .function && env.kindOf n == some .cell) then (n, NameKind.cell) else (n, k)).lookup y = some .cell
  | [], _, h => by cases h
  | (n, k0) :: r, y, h => by
    rw [List.map_cons]
    rw [List.lookup_cons] at h
    simp only
    split at h
    · rename_i hy
      cases h
      rw [if_neg (by intro z; rw [Bool.and_eq_true, Bool.and_eq_true] at z; exact absurd z.1.1 (by decide)), List.lookup_cons, hy]
    · rename_i hy
      split
      · rw [List.lookup_cons, hy]; exact lookup_relabel_cell h
      · rw [List.lookup_cons, hy]; exact lookup_relabel_cell h
theorem lcsC {sc : Scope} {fr : List Nat} (L : LcNamesC N sc0 sc fr) : LcScope ((cxOf CX P w K mg base N qual sc0 f cd A outer s H E).wish XE) sc (closF (cellsFrom (s.heap.objs.size + 1) sc0.names []) sc.names []) fr := by
  have hfree : ∀ p ∈ sc.names, p.2 = .free → ∃ c, (cellsFrom (s.heap.objs.size + 1) sc0.names []).lookup p.1 = some c := fun p hp e => cell_has (L.fre p hp e)
  refine ⟨clos_eq hfree, L.kind, fun y hy => closF_none _ _ y (L.own _ hy rfl) rfl, L.loc, closF_sub _ _ hfree (fun _ _ e => nomatch e), fun y hy => ?_, fun j hj => ?_⟩
  · have hk : sc.names.lookup y = some .free ∨ sc.names.lookup y = some .cell := by
      rcases hy with hy | hy
      · obtain ⟨k0, h1, h2⟩ := lookup_relabel hy
        rcases h2 with h2 | ⟨_, h2⟩
        · rw [← h2] at h1; exact .inr h1
        · rw [h2] at h1; exact .inl h1
      · obtain ⟨k0, h1, h2⟩ := lookup_relabel hy
        rcases h2 with h2 | ⟨h2, _⟩
        · rw [← h2] at h1; exact .inl h1
        · cases h2
    exact hk.imp (fun q => closF_has _ _ y (mem_of_lookup q)) mem_of_lookup
  · obtain ⟨h1, h2⟩ := L.frs j hj
    have hm := mem_of_lookup h1
    have h3 := L.fre _ hm rfl
    refine ⟨N.getD j "", ?_, ?_, .inr (.inl h3), ?_, closF_has _ _ _ hm⟩
    · show N[j]? = some (N.getD j "")
      rw [List.getD_eq_getElem?_getD, List.getElem?_eq_getElem h2]
      rfl
    · exact lookup_relabel_free h1
    · intro z
      have z' : sc0.names.lookup (N.getD j "") = some .local := z
      have h3' : sc0.names.lookup (N.getD j "") = some .cell := h3
      rw [h3'] at z'
      cases z'
theorem lcs {sc : Scope} {fr : List Nat} (L : LcNames N sc0 sc fr) : LcScope ((cxOf CX P w K mg base N qual sc0 f cd A outer s H E).wish XE) sc (closF (cellsFrom (s.heap.objs.size + 1) sc0.names []) sc.names []) fr :=
  lcsC ⟨L.kind, L.kind0, fun y hy e => absurd e (L.nocell y hy), L.loc, L.fre, L.frs⟩
end
structure LcNames2 (N : List Str) (sc0 sc : Scope) (fr : List Nat) : Prop where
  kind : sc.kind = .function
  own : ∀ y ∈ sc.names, y.2 = .cell → ∀ z ∈ sc.names, z.2 = .free → z.1 ≠ y.1
  loc : ∀ y ∈ sc.names, y.2 = .local → sc.names.lookup y.1 = some .local
  fre : ∀ y ∈ sc.names, y.2 = .free → sc0.names.lookup y.1 = some .cell ∨ sc0.names.lookup y.1 = some .free
  frs : ∀ j ∈ fr, sc.names.lookup (N.getD j "") = some .free ∧ j < N.length
theorem lcs2 {X : Cx} {own0 : List Str} {fr0 : List Nat} {sc0 : Scope} {cl0 : List (Str × Addr)} {C : Addr} {s : Shared} {H : Hp} {ex : List Addr} {pn : List (Addr × Obj)} {sc : Scope} {fr : List Nat}
    (L : LcNames2 (own0 ++ fr0.map fun j => X.N.getD j "") sc0 sc fr) (hcl : ∀ y, (y, NameKind.free) ∈ sc0.names → ∃ c, cl0.lookup y = some c) :
    LcScope (cxLc X own0 fr0 sc0 cl0 C s H ex pn) sc (closF (cellsFrom (C + 1) sc0.names cl0) sc.names []) fr := by
  have hfree : ∀ p ∈ sc.names, p.2 = .free → ∃ c, (cellsFrom (C + 1) sc0.names cl0).lookup p.1 = some c := fun p hp e => by
    rcases L.fre p hp e with q | q
    · exact cf_has _ _ _ _ (mem_of_lookup q)
    · exact cf_some _ _ _ _ (hcl _ (mem_of_lookup q))
  refine ⟨clos_eq hfree, L.kind, fun y hy => closF_none _ _ y (L.own _ hy rfl) rfl, L.loc, closF_sub _ _ hfree (fun _ _ e => nomatch e), fun y hy => ?_, fun j hj => ?_⟩
  · have hk : sc.names.lookup y = some .free ∨ sc.names.lookup y = some .cell := by
      rcases hy with hy | hy
      · obtain ⟨k0, h1, h2⟩ := lookup_relabel hy
        rcases h2 with h2 | ⟨_, h2⟩
        · rw [← h2] at h1; exact .inr h1
        · rw [h2] at h1; exact .inl h1
      · obtain ⟨k0, h1, h2⟩ := lookup_relabel hy
        rcases h2 with h2 | ⟨h2, _⟩
        · rw [← h2] at h1; exact .inl h1
        · cases h2
    exact hk.imp (fun q => closF_has _ _ y (mem_of_lookup q)) mem_of_lookup
  · obtain ⟨h1, h2⟩ := L.frs j hj
    have hm := mem_of_lookup h1
    have hv : (relabel sc0 X.env).names.lookup ((own0 ++ fr0.map fun j => X.N.getD j "").getD j "") = some .cell ∨ (relabel sc0 X.env).names.lookup ((own0 ++ fr0.map fun j => X.N.getD j "").getD j "") = some .free := by
      rcases L.fre _ hm rfl with q | q
      · exact .inl (lookup_relabel_cell q)
      · exact lookup_relabel_free q
    refine ⟨_, ?_, lookup_relabel_free h1, .inr hv, fun z => ?_, closF_has _ _ _ hm⟩
    · show (own0 ++ fr0.map fun j => X.N.getD j "")[j]? = some _
      rw [List.getD_eq_getElem?_getD, List.getElem?_eq_getElem h2]
      rfl
    · have z' : (relabel sc0 X.env).names.lookup ((own0 ++ fr0.map fun j => X.N.getD j "").getD j "") = some .local := z
      rcases hv with q | q <;> rw [q] at z' <;> cases z'
section
variable {g : TG} {tb : TS} {D : Ends} {σ : St} {H : Hp} {ta : TA}
theorem tFor_r1 {hi : Int} (n : Nat) (h : ∀ R : List V → Hp → Prop, R [.int hi] H → ta σ H R) (b : -(2 ^ 62) ≤ hi ∧ hi < 2 ^ 62) (hn : hi.toNat = n) (Pv : Nat → St → Hp → Prop) (hp : Pv 0 σ H)
    (hs : ∀ i σ H, i < n → Pv i σ H → g (.int (0 + i)) σ H fun σ2 H2 => tb { D with nx := Pv (i + 1), ct := Pv (i + 1), bk := D.nx } σ2 H2) (hd : ∀ σ H, Pv n σ H → D.nx σ H) : tFor (iRng1 ta) g tb D σ H :=
  h _ ⟨hi, rfl, b.1, b.2, by rw [hn]; exact for_range Pv hp hs hd⟩
end
section
variable {X : Cx} {K : PySem.W.Frag}
theorem ix_tupK (h : X.K = K) : IxR X (rIxT K) := h ▸ ix_tup
theorem ix_listK (h : X.K = K) : IxR X (rIxL K) := h ▸ ix_list
theorem call_lenK (h : X.K = K) : CallR X (.builtin "len") (fun xs H Q => ∃ p ys, xs = [.ref p] ∧ (SqL K H p ys ∨ SqT K H p ys) ∧ Q (.int ys.length) H) := h ▸ call_len_seq
end
end L2
namespace L2
open PySem PySem.Spec PyProof.Rows
theorem Same.tup {K : PySem.W.Frag} {H H' : Hp} {a : Addr} {xs : List V} (e : Same H H') (h : SqT K H a xs) : SqT K H' a xs := by
  rcases h with (h | ⟨o, h⟩) | h
  · exact .inl (.inl (e _ _ h))
  · exact .inl (.inr ⟨o, e _ _ h⟩)
  · exact .inr h
theorem Same.upd {H H' : Hp} {p : Addr} {o : HO} (e : Same H H') (hp : H p = none) : Same H (L2.upd H' p o) := fun b u h => by
  rw [upd_ne (ne_of_none h hp)]; exact e b u h
theorem Same.new {H : Hp} {p : Addr} {o : HO} (hp : H p = none) : Same H (L2.upd H p o) := (Same.refl H).upd hp
theorem small_lt {a : Int} (h0 : 0 ≤ a) (h : a < 2 ^ 60) : a.natAbs < 2 ^ 8000 := by
  have big : (2 : Nat) ^ 60 < 2 ^ 8000 := Nat.pow_lt_pow_right (by decide) (by decide)
  omega
section
variable {P : Program} {w : World} {K : PySem.W.Frag} {mg : Str → Option Value} {base : Heap}
theorem Fun.d {x qual : Str} {st : Stmt} {f : Addr} {fd : FuncData} (F : Fun K x qual st f fd) : FunD K x qual st .none f fd := ⟨F.ex, F.kp⟩
end
end L2
namespace L2
open PySem PySem.Spec PyProof.Rows
section
variable {X : Cx} {tg : Expr}
theorem boolsAre {bs : List Bool} {its : List Value} (r : Vals (bs.map V.bl) its) : PyProof.Rows.LSm.BoolsAre its bs := by
  induction bs generalizing its with
  | nil => cases r; exact .nil
  | cons y ys ih =>
    cases r with
    | cons r1 rr =>
      cases r1
      exact .cons _ (ih rr)
def rAll (K : PySem.W.Frag) : List V → Hp → VK → Prop := fun xs H Q => ∃ (p : Addr) (bs : List Bool), xs = [.ref p] ∧ SqL K H p (bs.map V.bl) ∧ Q (.bl (bs.all id)) H
theorem call_all (hc : X.calm = true) : CallR X (.builtin "all") (rAll X.K) := by
  intro pins s σ H xs us Q I r h
  obtain ⟨p, bs, rfl, hq, q⟩ := h
  cases r with
  | cons r1 rr =>
    cases rr
    cases r1
    obtain ⟨its, rv, pl, hz⟩ := I.list hq
    have hb := boolsAre rv
    have hl : s.heap.IsList p its.toArray := pl.isList
    have hlt : p < s.heap.objs.size := by obtain ⟨_, e, _⟩ := hl; exact Heap.lt_size e
    refine call_all_walk (wpAny_pyIter_list hl ?_)
    refine ⟨s.heap.objs.size, [s.heap.objs.size, p], [s.heap.objs.size], its.toArray.size, _, _, fun i => (bs[i]?).getD true, rfl, Walks.list (A := X.A.in1) (I.ok.hd hc) _ p (Nat.ne_of_lt hlt) its.toArray,
      ⟨⟨_, Heap.get?_push_size _ rfl, rfl, rfl⟩, hl.push _⟩, fun i v s' Q' E' hP hQ => ?_, fun h' tk hk => ?_⟩
    · obtain ⟨b, e, rfl⟩ := hb.get i v (by simpa using hP)
      simp only [e, Option.getD_some] at hQ
      exact wpAny_truthy_bool hQ
    · have e : ((List.range its.toArray.size).all fun i => (bs[i]?).getD true) = bs.all id := by
        rw [List.size_toArray, hb.length]; exact LSm.range_all bs
      rw [e]
      exact ⟨.bl _, H, I.kept (t' := tk) (LSm.kept_iter hk), rfl, q⟩
end
end L2
namespace L2
open PySem PySem.Spec PyProof.Rows
inductive Tr where
  | fz (d : Dv)
  | ow (ts : List Tr)
  | tp (ts : List Tr)
mutual
def Ow (K : PySem.W.Frag) (G H : Hp) : Tr → V → List Addr → Prop
  | .fz d, v, fp => fp = [] ∧ Hv K G d v
  | .ow ts, v, fp => ∃ a vs fq, v = .ref a ∧ H a = some (.lst vs) ∧ OwL K G H ts vs fq ∧ fp = a :: fq
  | .tp ts, v, fp => ∃ a vs fq, v = .ref a ∧ H a = some (.tup vs) ∧ OwL K G H ts vs fq ∧ fp = a :: fq
def OwL (K : PySem.W.Frag) (G H : Hp) : List Tr → List V → List Addr → Prop
  | [], vs, fp => vs = [] ∧ fp = []
  | t :: ts, vs, fp => ∃ v r f1 f2, vs = v :: r ∧ fp = f1 ++ f2 ∧ Ow K G H t v f1 ∧ OwL K G H ts r f2
end
mutual
def er : Tr → Dv
  | .fz d => d
  | .ow ts => .lst (ers ts)
  | .tp ts => .tup (ers ts)
def ers : List Tr → List Dv
  | [] => []
  | t :: ts => er t :: ers ts
end
theorem ers_map : ∀ ts : List Tr, ers ts = ts.map er
  | [] => rfl
  | t :: ts => by rw [ers, ers_map ts]; rfl
mutual
theorem Hv.mono {K : PySem.W.Frag} {G G' : Hp} (e : Same G G') : ∀ {d : Dv} {v : V}, Hv K G d v → Hv K G' d v
  | .fl _, _, h => h
  | .lst ds, _, ⟨a, xs, h1, h2, h3⟩ => ⟨a, xs, h1, e.seq h2, HvL.mono e h3⟩
  | .tup ds, _, ⟨a, xs, h1, h2, h3⟩ => ⟨a, xs, h1, e.tup h2, HvL.mono e h3⟩
theorem HvL.mono {K : PySem.W.Frag} {G G' : Hp} (e : Same G G') : ∀ {ds : List Dv} {vs : List V}, HvL K G ds vs → HvL K G' ds vs
  | [], _, h => h
  | _ :: _, _, ⟨x, r, h1, h2, h3⟩ => ⟨x, r, h1, h2.mono e, HvL.mono e h3⟩
end
mutual
theorem Ow.mono {K : PySem.W.Frag} {G G' H H' : Hp} (e : Same G G') (e' : Same H H') : ∀ {t : Tr} {v : V} {fp : List Addr}, Ow K G H t v fp → Ow K G' H' t v fp
  | .fz _, _, _, ⟨h1, h2⟩ => ⟨h1, h2.mono e⟩
  | .ow _, _, _, ⟨a, vs, fq, h1, h2, h3, h4⟩ => ⟨a, vs, fq, h1, e' _ _ h2, OwL.mono e e' h3, h4⟩
  | .tp _, _, _, ⟨a, vs, fq, h1, h2, h3, h4⟩ => ⟨a, vs, fq, h1, e' _ _ h2, OwL.mono e e' h3, h4⟩
theorem OwL.mono {K : PySem.W.Frag} {G G' H H' : Hp} (e : Same G G') (e' : Same H H') : ∀ {ts : List Tr} {vs : List V} {fp : List Addr}, OwL K G H ts vs fp → OwL K G' H' ts vs fp
  | [], _, _, h => h
  | _ :: _, _, _, ⟨v, r, f1, f2, h1, h2, h3, h4⟩ => ⟨v, r, f1, f2, h1, h2, h3.mono e e', OwL.mono e e' h4⟩
end
mutual
theorem Ow.frame {K : PySem.W.Frag} {G H : Hp} {a : Addr} {o : HO} : ∀ {t : Tr} {v : V} {fp : List Addr}, Ow K G H t v fp → a ∉ fp → Ow K G (upd H a o) t v fp
  | .fz _, _, _, h, _ => h
  | .ow _, _, _, ⟨b, vs, fq, h1, h2, h3, h4⟩, n => by
    subst h4
    refine ⟨b, vs, fq, h1, ?_, OwL.frame h3 fun z => n (.tail _ z), rfl⟩
    rw [upd_ne fun z => n (by rw [z]; exact .head _)]
    exact h2
  | .tp _, _, _, ⟨b, vs, fq, h1, h2, h3, h4⟩, n => by
    subst h4
    refine ⟨b, vs, fq, h1, ?_, OwL.frame h3 fun z => n (.tail _ z), rfl⟩
    rw [upd_ne fun z => n (by rw [z]; exact .head _)]
    exact h2
theorem OwL.frame {K : PySem.W.Frag} {G H : Hp} {a : Addr} {o : HO} : ∀ {ts : List Tr} {vs : List V} {fp : List Addr}, OwL K G H ts vs fp → a ∉ fp → OwL K G (upd H a o) ts vs fp
  | [], _, _, h, _ => h
  | _ :: _, _, _, ⟨v, r, f1, f2, h1, h2, h3, h4⟩, n => by
    subst h2
    exact ⟨v, r, f1, f2, h1, rfl, h3.frame fun z => n (List.mem_append_left _ z), OwL.frame h4 fun z => n (List.mem_append_right _ z)⟩
end
mutual
theorem Ow.there {K : PySem.W.Frag} {G H : Hp} : ∀ {t : Tr} {v : V} {fp : List Addr}, Ow K G H t v fp → ∀ a ∈ fp, ∃ o, H a = some o
  | .fz _, _, _, ⟨h, _⟩, a, ha => by subst h; cases ha
  | .ow _, _, _, ⟨b, vs, fq, h1, h2, h3, h4⟩, a, ha => by
    subst h4
    rcases List.mem_cons.mp ha with rfl | ha
    · exact ⟨_, h2⟩
    · exact OwL.there h3 a ha
  | .tp _, _, _, ⟨b, vs, fq, h1, h2, h3, h4⟩, a, ha => by
    subst h4
    rcases List.mem_cons.mp ha with rfl | ha
    · exact ⟨_, h2⟩
    · exact OwL.there h3 a ha
theorem OwL.there {K : PySem.W.Frag} {G H : Hp} : ∀ {ts : List Tr} {vs : List V} {fp : List Addr}, OwL K G H ts vs fp → ∀ a ∈ fp, ∃ o, H a = some o
  | [], _, _, ⟨_, h⟩, a, ha => by subst h; cases ha
  | _ :: _, _, _, ⟨v, r, f1, f2, h1, h2, h3, h4⟩, a, ha => by
    subst h2
    rcases List.mem_append.mp ha with ha | ha
    · exact h3.there a ha
    · exact OwL.there h4 a ha
end
mutual
theorem Ow.hv {K : PySem.W.Frag} {G H G' : Hp} (e : Same G G') : ∀ {t : Tr} {v : V} {fp : List Addr}, Ow K G H t v fp → (∀ a ∈ fp, G' a = H a) → Hv K G' (er t) v
  | .fz _, _, _, ⟨_, h⟩, _ => h.mono e
  | .ow _, _, _, ⟨b, vs, fq, h1, h2, h3, h4⟩, q => by
    subst h4
    exact ⟨b, vs, h1, SqL.of ((q b (.head _)).trans h2), OwL.hv e h3 fun a ha => q a (.tail _ ha)⟩
  | .tp _, _, _, ⟨b, vs, fq, h1, h2, h3, h4⟩, q => by
    subst h4
    exact ⟨b, vs, h1, SqT.of ((q b (.head _)).trans h2), OwL.hv e h3 fun a ha => q a (.tail _ ha)⟩
theorem OwL.hv {K : PySem.W.Frag} {G H G' : Hp} (e : Same G G') : ∀ {ts : List Tr} {vs : List V} {fp : List Addr}, OwL K G H ts vs fp → (∀ a ∈ fp, G' a = H a) → HvL K G' (ers ts) vs
  | [], _, _, ⟨h, _⟩, _ => h
  | _ :: _, _, _, ⟨v, r, f1, f2, h1, h2, h3, h4⟩, q => by
    subst h2
    exact ⟨v, r, h1, h3.hv e fun a ha => q a (List.mem_append_left _ ha), OwL.hv e h4 fun a ha => q a (List.mem_append_right _ ha)⟩
end
theorem OwL.length {K : PySem.W.Frag} {G H : Hp} : ∀ {ts : List Tr} {vs : List V} {fp : List Addr}, OwL K G H ts vs fp → ts.length = vs.length
  | [], _, _, ⟨h, _⟩ => by subst h; rfl
  | _ :: _, _, _, ⟨v, r, f1, f2, h1, h2, h3, h4⟩ => by subst h1; rw [List.length_cons, List.length_cons, OwL.length h4]
theorem OwL.append {K : PySem.W.Frag} {G H : Hp} : ∀ {ts us : List Tr} {vs ws : List V} {f1 f2 : List Addr}, OwL K G H ts vs f1 → OwL K G H us ws f2 → OwL K G H (ts ++ us) (vs ++ ws) (f1 ++ f2)
  | [], us, _, ws, _, f2, ⟨h, h'⟩, q => by subst h h'; exact q
  | _ :: _, us, _, ws, _, f2, ⟨v, r, g1, g2, h1, h2, h3, h4⟩, q => by
    subst h1 h2
    exact ⟨v, r ++ ws, g1, g2 ++ f2, rfl, by rw [List.append_assoc], h3, OwL.append h4 q⟩
theorem HvL.owl {K : PySem.W.Frag} {G H : Hp} : ∀ {ds : List Dv} {vs : List V}, HvL K G ds vs → OwL K G H (ds.map .fz) vs []
  | [], _, h => ⟨h, rfl⟩
  | _ :: _, _, ⟨x, r, h1, h2, h3⟩ => ⟨x, r, [], [], h1, rfl, ⟨rfl, h2⟩, HvL.owl h3⟩
structure Step (G H G' H' : Hp) : Prop where
  g : Same G G'
  h : Same H H'
  s : Same G' H'
  n : ∀ a, G a = none → G' a ≠ none → H a = none
theorem Step.refl {G H : Hp} (s : Same G H) : Step G H G H := ⟨Same.refl _, Same.refl _, s, fun a h h' => absurd h h'⟩
theorem Step.trans {G H G1 H1 G2 H2 : Hp} (a : Step G H G1 H1) (b : Step G1 H1 G2 H2) : Step G H G2 H2 :=
  ⟨a.g.trans b.g, a.h.trans b.h, b.s, fun x h h' => by
    cases q : G1 x with
    | none => exact a.h.free (b.n x q h')
    | some o => exact a.n x h (by rw [q]; exact fun z => nomatch z)⟩
theorem Same.upd2 {G H : Hp} {p : Addr} {o : HO} (s : Same G H) : Same (L2.upd G p o) (L2.upd H p o) := fun b u h => by
  unfold L2.upd at h ⊢
  split
  · rename_i e; rw [if_pos e] at h; exact h
  · rename_i e; rw [if_neg e] at h; exact s b u h
theorem Step.new {G H : Hp} {p : Addr} {o : HO} (s : Same G H) (hp : H p = none) : Step G H (upd G p o) (upd H p o) :=
  ⟨Same.new (s.free hp), Same.new hp, s.upd2, fun a h h' => by
    by_cases e : a = p
    · subst e; exact hp
    · rw [upd_ne e] at h'; exact absurd h h'⟩
theorem Step.newO {G H : Hp} {p : Addr} {o : HO} (s : Same G H) (hp : H p = none) : Step G H G (upd H p o) :=
  ⟨Same.refl _, Same.new hp, s.trans (Same.new hp), fun a h h' => absurd h h'⟩
structure Nw (H G' : Hp) (fq : List Addr) : Prop where
  n : ∀ a ∈ fq, H a = none
  g : ∀ a ∈ fq, G' a = none
  d : fq.Nodup
theorem Nw.nil {H G : Hp} : Nw H G [] := ⟨fun _ h => (nomatch h), fun _ h => (nomatch h), .nil⟩
def Kv (K : PySem.W.Frag) (G H : Hp) (t : Tr) (Q : VK) : Prop := ∀ v G' H' fq, Step G H G' H' → Ow K G' H' t v fq → Nw H G' fq → Q v H'
theorem Kv.step {K : PySem.W.Frag} {G H G1 H1 : Hp} {t : Tr} {Q : VK} (k : Kv K G H t Q) (e : Step G H G1 H1) : Kv K G1 H1 t Q := fun v G' H' fq st o w =>
  k v G' H' fq (e.trans st) o ⟨fun a ha => e.h.free (w.n a ha), w.g, w.d⟩
def frzd (G H : Hp) (fq : List Addr) : Hp := fun a => if a ∈ fq then H a else G a
theorem frzd_in {G H : Hp} {fq : List Addr} {a : Addr} (h : a ∈ fq) : frzd G H fq a = H a := by unfold frzd; rw [if_pos h]
theorem frzd_out {G H : Hp} {fq : List Addr} {a : Addr} (h : a ∉ fq) : frzd G H fq a = G a := by unfold frzd; rw [if_neg h]
theorem frzd_same {G H : Hp} {fq : List Addr} (h : ∀ a ∈ fq, G a = none) : Same G (frzd G H fq) := fun b o e => by
  by_cases q : b ∈ fq
  · rw [h b q] at e; cases e
  · rw [frzd_out q]; exact e
theorem frzd_sub {G H : Hp} {fq : List Addr} (s : Same G H) : Same (frzd G H fq) H := fun b o e => by
  by_cases q : b ∈ fq
  · rw [frzd_in q] at e; exact e
  · rw [frzd_out q] at e; exact s b o e
theorem Step.frz {G H G' H' : Hp} {fq : List Addr} (e : Step G H G' H') (w : Nw H G' fq) : Step G H (frzd G' H' fq) H' :=
  ⟨e.g.trans (frzd_same w.g), e.h, frzd_sub e.s, fun a h h' => by
    by_cases q : a ∈ fq
    · exact w.n a q
    · rw [frzd_out q] at h'; exact e.n a h h'⟩
structure Fam (ι : Type) where
  cx : ι → Cx
  P : Program
  w : World
  K : PySem.W.Frag
  mg : Str → Option Value
  base : Heap
  room : Nat
  hP : ∀ i, (cx i).prog = P
  hw : ∀ i, (cx i).w = w
  hK : ∀ i, (cx i).K = K
  hm : ∀ i, (cx i).mg = mg
  hb : ∀ i, (cx i).base = base
  hr : ∀ i, Room room (cx i).A
  calm : ∀ i, (cx i).calm = true
abbrev En := List (Option Tr)
def RpD (K : PySem.W.Frag) (G : Hp) (ρ : En) (σ : St) : Prop := ∀ (j : Nat) (d : Dv), ρ[j]? = some (some (Tr.fz d)) → ∃ v, σ[j]? = some (some v) ∧ Hv K G d v
theorem RpD.mono {K : PySem.W.Frag} {G G' : Hp} {ρ : En} {σ : St} (e : Same G G') (r : RpD K G ρ σ) : RpD K G' ρ σ := fun j d h => by
  obtain ⟨v, h1, h2⟩ := r j d h
  exact ⟨v, h1, h2.mono e⟩
section
variable {ι : Type}
def Ev (F : Fam ι) (e : Expr) (ρ : En) (t : Tr) : Prop := ∃ τ : TE, (∀ i, PE (F.cx i) e τ) ∧ ∀ σ G H Q, Same G H → RpD F.K G ρ σ → Kv F.K G H t Q → τ σ H Q
def Et (F : Fam ι) (e : Expr) (ρ : En) (b : Bool) : Prop := ∃ τ : TT, (∀ i, PT (F.cx i) e τ) ∧ ∀ σ G H Q, Same G H → RpD F.K G ρ σ → (∀ G' H', Step G H G' H' → Q b H') → τ σ H Q
def EvA (F : Fam ι) (es : List Expr) (ρ : En) (ts : List Tr) : Prop := ∃ τ : TA, (∀ i, PA (F.cx i) es τ) ∧ ∀ σ G H Q, Same G H → RpD F.K G ρ σ →
  (∀ vs G' H' fq, Step G H G' H' → OwL F.K G' H' ts vs fq → Nw H G' fq → Q vs H') → τ σ H Q
variable {F : Fam ι} {e a b : Expr} {es : List Expr} {ρ : En} {t ta tb : Tr} {ts : List Tr}
theorem Ev.use (h : Ev F e ρ t) : ∃ τ : TE, (∀ i, PE (F.cx i) e τ) ∧ ∀ σ G H (Q : VK), Same G H → RpD F.K G ρ σ → (∀ v G' H', Step G H G' H' → Hv F.K G' (er t) v → Q v H') → τ σ H Q := by
  obtain ⟨τ, p, q⟩ := h
  refine ⟨τ, p, fun σ G H Q s r k => q σ G H Q s r fun v G' H' fq st o w => ?_⟩
  exact k v (frzd G' H' fq) H' (st.frz w) (o.hv (frzd_same w.g) fun a ha => frzd_in ha)
theorem Ev.fz (h : Ev F e ρ t) : Ev F e ρ (.fz (er t)) := by
  obtain ⟨τ, p, q⟩ := h.use
  exact ⟨τ, p, fun σ G H Q s r k => q σ G H Q s r fun v G' H' st hv => k v G' H' [] st ⟨rfl, hv⟩ .nil⟩
theorem Ev.as {d : Dv} (h : Ev F e ρ t) (ed : er t = d) : Ev F e ρ (.fz d) := ed ▸ h.fz
theorem EvA.use (h : EvA F es ρ ts) : ∃ τ : TA, (∀ i, PA (F.cx i) es τ) ∧ ∀ σ G H (Q : List V → Hp → Prop), Same G H → RpD F.K G ρ σ → (∀ vs G' H', Step G H G' H' → HvL F.K G' (ers ts) vs → Q vs H') → τ σ H Q := by
  obtain ⟨τ, p, q⟩ := h
  refine ⟨τ, p, fun σ G H Q s r k => q σ G H Q s r fun v G' H' fq st o w => ?_⟩
  exact k v (frzd G' H' fq) H' (st.frz w) (o.hv (frzd_same w.g) fun a ha => frzd_in ha)
theorem eva_nil : EvA F [] ρ [] := ⟨tNil, fun i => pa_nil, fun σ G H Q s r k => k [] G H [] (.refl s) ⟨rfl, rfl⟩ .nil⟩
theorem Nw.app {H G1 H1 G2 : Hp} {f1 f2 : List Addr} (w1 : Nw H G1 f1) (w2 : Nw H1 G2 f2) (hh : Same H H1) (th : ∀ a ∈ f1, ∃ o, H1 a = some o) (hg : ∀ a, G1 a = none → G2 a ≠ none → H1 a = none) : Nw H G2 (f1 ++ f2) :=
  ⟨fun a ha => (List.mem_append.mp ha).elim (w1.n a) fun z => hh.free (w2.n a z), fun a ha => (List.mem_append.mp ha).elim (fun z => by
      cases q : G2 a with
      | none => rfl
      | some o =>
        obtain ⟨u, hu⟩ := th a z
        have := hg a (w1.g a z) (by rw [q]; exact fun z => nomatch z)
        rw [hu] at this; cases this) (w2.g a),
    List.nodup_append.mpr ⟨w1.d, w2.d, fun a ha b hb e => by
      subst e
      obtain ⟨u, hu⟩ := th a ha
      rw [w2.n a hb] at hu; cases hu⟩⟩
theorem eva_cons (ha : Ev F e ρ t) (hr : EvA F es ρ ts) (hs : ∀ i, starEach (e :: es) (F.cx i).env = (false, eval e (F.cx i).env) :: starEach es (F.cx i).env := by intro _; rfl) : EvA F (e :: es) ρ (t :: ts) := by
  obtain ⟨τ, p, q⟩ := ha
  obtain ⟨τ', p', q'⟩ := hr
  refine ⟨tCons τ τ', fun i => pa_cons (p i) (p' i) (hs i), fun σ G H Q s r k => ?_⟩
  refine q σ G H _ s r fun v G1 H1 f1 s1 o1 w1 => q' σ G1 H1 _ s1.s (r.mono s1.g) fun vs G2 H2 f2 s2 o2 w2 => ?_
  exact k (v :: vs) G2 H2 (f1 ++ f2) (s1.trans s2) ⟨v, vs, f1, f2, rfl, rfl, o1.mono s2.g s2.h, o2⟩ (w1.app w2 s1.h (fun a ha => o1.there a ha) s2.n)
end
end L2
namespace L2
open PySem PySem.Spec PyProof.Rows
abbrev di (n : Int) : Dv := .fl (.int n)
abbrev db (b : Bool) : Dv := .fl (.bl b)
abbrev dn : Dv := .fl .non
abbrev ds (x : Str) : Dv := .fl (.str x)
abbrev dis (ns : List Int) : Dv := .lst (ns.map di)
abbrev ti (n : Int) : Tr := .fz (di n)
abbrev tb (b : Bool) : Tr := .fz (db b)
abbrev tn : Tr := .fz dn
abbrev tx (x : Str) : Tr := .fz (ds x)
theorem Kv.sc {K : PySem.W.Frag} {G H : Hp} {v : V} {Q : VK} (k : Kv K G H (.fz (.fl v)) Q) (s : Same G H) (f : flatV v = true) : Q v H := k v G H [] (.refl s) ⟨rfl, rfl, f⟩ .nil
theorem Kv.dat {K : PySem.W.Frag} {G H : Hp} {d : Dv} {v : V} {Q : VK} (k : Kv K G H (.fz d) Q) (s : Same G H) (h : Hv K G d v) : Q v H := k v G H [] (.refl s) ⟨rfl, h⟩ .nil
theorem Kv.lst {K : PySem.W.Frag} {G H : Hp} {ts : List Tr} {vs : List V} {Q : VK} (k : Kv K G H (.ow ts) Q) (s : Same G H) (h : OwL K G H ts vs []) {p : Addr} (hp : H p = none) : Q (.ref p) (upd H p (.lst vs)) :=
  k (.ref p) G _ [p] (.newO s hp) ⟨p, vs, [], rfl, upd_same, h.mono (Same.refl _) (Same.new hp), rfl⟩ ⟨fun a ha => by rw [List.mem_singleton.mp ha]; exact hp, fun a ha => by rw [List.mem_singleton.mp ha]; exact s.free hp, by simp⟩
theorem hvi {K : PySem.W.Frag} {G : Hp} {v x : V} (h : Hv K G (.fl v) x) : x = v := h.1
section
variable {ι : Type} {F : Fam ι} {e a b c : Expr} {es : List Expr} {ρ : En} {t ta tb' : Tr} {ts : List Tr} {pos : Pos}
theorem ev_nm (j : Nat) {d : Dv} {x : Str} (h : ρ[j]? = some (some (.fz d))) (hN : ∀ i, (F.cx i).N[j]? = some x := by intro _; rfl)
    (hv : ∀ i, Vis (F.cx i).env.scope x := by intro _; first | exact Or.inl rfl | exact Or.inr (Or.inl rfl) | exact Or.inr (Or.inr rfl)) (hd : (x == ("__debug__" : Str)) = false := by decide) (hc : (x == ("__classdict__" : Str)) = false := by decide) : Ev F (.Name x pos) ρ (.fz d) :=
  ⟨tVar j, fun i => pe_var (hN i) (hv i) hd hc, fun σ G H Q s r k => by
    obtain ⟨v, h1, h2⟩ := r j d h
    exact ⟨v, h1, k.dat s h2⟩⟩
theorem ev_int {n : Int} {j : Nat} : Ev F (.Constant (.int n) j pos) ρ (ti n) := ⟨_, fun i => pe_int, fun σ G H Q s r k => k.sc s rfl⟩
theorem ev_bl {n : Bool} {j : Nat} : Ev F (.Constant (.bool n) j pos) ρ (tb n) := ⟨_, fun i => pe_bl, fun σ G H Q s r k => k.sc s rfl⟩
theorem ev_str {n : Str} {j : Nat} : Ev F (.Constant (.str n) j pos) ρ (tx n) := ⟨_, fun i => pe_str, fun σ G H Q s r k => k.sc s rfl⟩
theorem ev_glob {x : Str} {v : V} {u : Value} (hm : F.mg x = some u) (r : RelV v u) (f : flatV v = true) (hg : ∀ i, Gl (F.cx i) x := by intro _; rfl) (hd : (x == ("__debug__" : Str)) = false := by decide) : Ev F (.Name x pos) ρ (.fz (.fl v)) :=
  ⟨tC v, fun i => pe_glob (hg i) ((F.hm i).symm ▸ hm) r hd, fun σ G H Q s _ k => k.sc s f⟩
theorem ev_bin {op : Operator} {r : R2} (ho : ∀ i, OpR (F.cx i) (binaryOp op) r) (ha : Ev F a ρ ta) (hb : Ev F b ρ tb')
    (h : ∀ G H x y Q, Same G H → Hv F.K G (er ta) x → Hv F.K G (er tb') y → Kv F.K G H t Q → r x y H Q) : Ev F (.BinOp a op b pos) ρ t := by
  obtain ⟨τ, p, q⟩ := ha.use
  obtain ⟨τ', p', q'⟩ := hb.use
  refine ⟨tOp r τ τ', fun i => pe_op (ho i) (p i) (p' i), fun σ G H Q s rr k => ?_⟩
  refine q σ G H _ s rr fun x G1 H1 s1 hx => q' σ G1 H1 _ s1.s (rr.mono s1.g) fun y G2 H2 s2 hy => ?_
  exact h G2 H2 x y Q s2.s (hx.mono s2.g) hy (k.step (s1.trans s2))
theorem ev_add {i j : Int} (ha : Ev F a ρ (ti i)) (hb : Ev F b ρ (ti j)) : Ev F (.BinOp a .Add b pos) ρ (ti (i + j)) := ev_bin (fun _ => op_add) ha hb fun G H x y Q s hx hy k => ⟨i, j, hvi hx, hvi hy, k.sc s rfl⟩
theorem ev_sub {i j : Int} (ha : Ev F a ρ (ti i)) (hb : Ev F b ρ (ti j)) : Ev F (.BinOp a .Sub b pos) ρ (ti (i - j)) := ev_bin (fun _ => op_sub) ha hb fun G H x y Q s hx hy k => ⟨i, j, hvi hx, hvi hy, k.sc s rfl⟩
theorem ev_mul {i j : Int} (ha : Ev F a ρ (ti i)) (hb : Ev F b ρ (ti j)) (hc : CMulB i j) : Ev F (.BinOp a .Mult b pos) ρ (ti (i * j)) := ev_bin (fun _ => op_mulB) ha hb fun G H x y Q s hx hy k => ⟨i, j, hvi hx, hvi hy, hc, k.sc s rfl⟩
theorem ev_div {i j : Int} (ha : Ev F a ρ (ti i)) (hb : Ev F b ρ (ti j)) (hc : CDivB i j) : Ev F (.BinOp a .FloorDiv b pos) ρ (ti (i / j)) := ev_bin (fun _ => op_fdivB) ha hb fun G H x y Q s hx hy k => ⟨i, j, hvi hx, hvi hy, hc, k.sc s rfl⟩
theorem ev_mod {i j : Int} (ha : Ev F a ρ (ti i)) (hb : Ev F b ρ (ti j)) (hc : 0 < j) : Ev F (.BinOp a .Mod b pos) ρ (ti (i % j)) := ev_bin (fun _ => op_mod) ha hb fun G H x y Q s hx hy k => ⟨i, j, hvi hx, hvi hy, hc, k.sc s rfl⟩
theorem ev_cat {xs ys : List Dv} (ha : Ev F a ρ ta) (hb : Ev F b ρ tb') (ea : er ta = .lst xs) (eb : er tb' = .lst ys) (hz : xs.length + ys.length ≤ sizeLine) : Ev F (.BinOp a .Add b pos) ρ (.ow ((xs ++ ys).map .fz)) :=
  ev_bin (r := rCatL F.K) (fun i => F.hK i ▸ op_catL) ha hb fun G H x y Q s hx hy k => by
    rw [ea] at hx
    rw [eb] at hy
    obtain ⟨l, vs, rfl, h1, h2⟩ := hx
    obtain ⟨l', ws, rfl, h3, h4⟩ := hy
    refine ⟨l, l', vs, ws, rfl, rfl, s.seq h1, s.seq h3, by rw [← h2.length, ← h4.length]; exact hz, fun p hp => ?_⟩
    refine k.lst s ?_ hp
    rw [List.map_append]
    exact h2.owl.append h4.owl
theorem ev_cmp {op : CmpOp} {r : R2} {c : Bool} (ho : ∀ i, OpR (F.cx i) (compareOp op) r) (ha : Ev F a ρ ta) (hb : Ev F b ρ tb')
    (h : ∀ G H x y (Q : VK), Same G H → Hv F.K G (er ta) x → Hv F.K G (er tb') y → Q (.bl c) H → r x y H Q) (hm : behindInMarks op b = false) : Ev F (.Compare a [op] [b] pos) ρ (tb c) := by
  obtain ⟨τ, p, q⟩ := ha.use
  obtain ⟨τ', p', q'⟩ := hb.use
  refine ⟨tOp r τ τ', fun i => pe_cmpR (ho i) (p i) (p' i) hm, fun σ G H Q s rr k => ?_⟩
  refine q σ G H _ s rr fun x G1 H1 s1 hx => q' σ G1 H1 _ s1.s (rr.mono s1.g) fun y G2 H2 s2 hy => ?_
  exact h G2 H2 x y Q s2.s (hx.mono s2.g) hy ((k.step (s1.trans s2)).sc s2.s rfl)
theorem et_cmp {op : CmpOp} {r : R2} {c : Bool} (ho : ∀ i, OpR (F.cx i) (compareOp op) r) (ha : Ev F a ρ ta) (hb : Ev F b ρ tb')
    (h : ∀ G H x y (Q : VK), Same G H → Hv F.K G (er ta) x → Hv F.K G (er tb') y → Q (.bl c) H → r x y H Q) (hm : behindInMarks op b = false) : Et F (.Compare a [op] [b] pos) ρ c := by
  obtain ⟨τ, p, q⟩ := ha.use
  obtain ⟨τ', p', q'⟩ := hb.use
  refine ⟨tTest (tOp r τ τ'), fun i => pt_cmpR (ho i) (p i) (p' i) hm, fun σ G H Q s rr k => ?_⟩
  refine q σ G H _ s rr fun x G1 H1 s1 hx => q' σ G1 H1 _ s1.s (rr.mono s1.g) fun y G2 H2 s2 hy => ?_
  exact h G2 H2 x y _ s2.s (hx.mono s2.g) hy ⟨c, rfl, k G2 H2 (s1.trans s2)⟩
theorem et_lt {i j : Int} (ha : Ev F a ρ (ti i)) (hb : Ev F b ρ (ti j)) : Et F (.Compare a [.Lt] [b] pos) ρ (decide (i < j)) := et_cmp (fun _ => op_lt) ha hb (fun G H x y Q s hx hy k => ⟨i, j, hvi hx, hvi hy, k⟩) (nomark _)
theorem et_gt {i j : Int} (ha : Ev F a ρ (ti i)) (hb : Ev F b ρ (ti j)) : Et F (.Compare a [.Gt] [b] pos) ρ (decide (j < i)) := et_cmp (fun _ => op_gt) ha hb (fun G H x y Q s hx hy k => ⟨i, j, hvi hx, hvi hy, k⟩) (nomark _)
theorem et_ge {i j : Int} (ha : Ev F a ρ (ti i)) (hb : Ev F b ρ (ti j)) : Et F (.Compare a [.GtE] [b] pos) ρ (decide (j ≤ i)) := et_cmp (fun _ => op_ge) ha hb (fun G H x y Q s hx hy k => ⟨i, j, hvi hx, hvi hy, k⟩) (nomark _)
theorem et_eq {i j : Int} (ha : Ev F a ρ (ti i)) (hb : Ev F b ρ (ti j)) : Et F (.Compare a [.Eq] [b] pos) ρ (decide (i = j)) := et_cmp (fun _ => op_eq) ha hb (fun G H x y Q s hx hy k => by
  rw [hvi hx, hvi hy]; exact ⟨rfl, by simpa using k⟩) (nomark _)
theorem et_ne {i j : Int} (ha : Ev F a ρ (ti i)) (hb : Ev F b ρ (ti j)) : Et F (.Compare a [.NotEq] [b] pos) ρ (!decide (i = j)) := et_cmp (fun _ => op_ne) ha hb (fun G H x y Q s hx hy k => by
  rw [hvi hx, hvi hy]; exact ⟨rfl, by simpa using k⟩) (nomark _)
theorem ev_lt {i j : Int} (ha : Ev F a ρ (ti i)) (hb : Ev F b ρ (ti j)) : Ev F (.Compare a [.Lt] [b] pos) ρ (tb (decide (i < j))) := ev_cmp (fun _ => op_lt) ha hb (fun G H x y Q s hx hy k => ⟨i, j, hvi hx, hvi hy, k⟩) (nomark _)
theorem ev_gt {i j : Int} (ha : Ev F a ρ (ti i)) (hb : Ev F b ρ (ti j)) : Ev F (.Compare a [.Gt] [b] pos) ρ (tb (decide (j < i))) := ev_cmp (fun _ => op_gt) ha hb (fun G H x y Q s hx hy k => ⟨i, j, hvi hx, hvi hy, k⟩) (nomark _)
theorem ev_ge {i j : Int} (ha : Ev F a ρ (ti i)) (hb : Ev F b ρ (ti j)) : Ev F (.Compare a [.GtE] [b] pos) ρ (tb (decide (j ≤ i))) := ev_cmp (fun _ => op_ge) ha hb (fun G H x y Q s hx hy k => ⟨i, j, hvi hx, hvi hy, k⟩) (nomark _)
theorem ev_eq {i j : Int} (ha : Ev F a ρ (ti i)) (hb : Ev F b ρ (ti j)) : Ev F (.Compare a [.Eq] [b] pos) ρ (tb (decide (i = j))) := ev_cmp (fun _ => op_eq) ha hb (fun G H x y Q s hx hy k => by
  rw [hvi hx, hvi hy]; exact ⟨rfl, by simpa using k⟩) (nomark _)
def alikeD (d e : Dv) : Prop := (∃ xs ys, d = .lst xs ∧ e = .lst ys) ∨ ∃ xs ys, d = .tup xs ∧ e = .tup ys
theorem et_eqS (ha : Ev F a ρ ta) (hb : Ev F b ρ tb') (hk : alikeD (er ta) (er tb')) (hd : dpD (er ta) ≤ 50) : Et F (.Compare a [.Eq] [b] pos) ρ (eqD (er ta) (er tb')) :=
  et_cmp (r := rEqS F.K false) (fun i => F.hK i ▸ op_eqS (F.hr i).units) ha hb (fun G H x y Q s hx hy k => ⟨_, _, hk, hx.mono s, hy.mono s, hd, k⟩) (nomark _)
theorem et_neS (ha : Ev F a ρ ta) (hb : Ev F b ρ tb') (hk : alikeD (er ta) (er tb')) (hd : dpD (er ta) ≤ 50) : Et F (.Compare a [.NotEq] [b] pos) ρ (!eqD (er ta) (er tb')) :=
  et_cmp (r := rEqS F.K true) (fun i => F.hK i ▸ op_neS (F.hr i).units) ha hb (fun G H x y Q s hx hy k => ⟨_, _, hk, hx.mono s, hy.mono s, hd, k⟩) (nomark _)
theorem ev_eqS (ha : Ev F a ρ ta) (hb : Ev F b ρ tb') (hk : alikeD (er ta) (er tb')) (hd : dpD (er ta) ≤ 50) : Ev F (.Compare a [.Eq] [b] pos) ρ (tb (eqD (er ta) (er tb'))) :=
  ev_cmp (r := rEqS F.K false) (fun i => F.hK i ▸ op_eqS (F.hr i).units) ha hb (fun G H x y Q s hx hy k => ⟨_, _, hk, hx.mono s, hy.mono s, hd, k⟩) (nomark _)
theorem hvl_ints {K : PySem.W.Frag} {G : Hp} : ∀ {ns : List Int} {vs : List V}, HvL K G (ns.map di) vs → vs = ns.map V.int
  | [], _, h => h
  | _ :: _, _, ⟨x, r, h1, h2, h3⟩ => by subst h1; rw [hvi h2, hvl_ints h3]; rfl
theorem ints_hvl {K : PySem.W.Frag} {G : Hp} : ∀ {ns : List Int}, HvL K G (ns.map di) (ns.map V.int)
  | [] => rfl
  | _ :: _ => ⟨_, _, rfl, ⟨rfl, rfl⟩, ints_hvl⟩
theorem inV_ints (n : Int) : ∀ ns : List Int, inV (.int n) (ns.map V.int) = ns.any fun m => m == n
  | [] => rfl
  | m :: ms => by
    show (eqV (.int m) (.int n) || inV (.int n) (ms.map V.int)) = _
    rw [inV_ints n ms]; rfl
theorem flat_ints (ns : List Int) : (ns.map V.int).all flatV = true := by rw [List.all_map]; exact List.all_eq_true.mpr fun _ _ => rfl
theorem any_contains (n : Int) (ns : List Int) : (ns.any fun m => m == n) = ns.contains n := by
  induction ns with
  | nil => rfl
  | cons m ms ih => rw [List.any_cons, ih, List.contains_cons]; congr 1; exact Bool.beq_comm
theorem in_int {n : Int} {ns : List Int} {neg : Bool} (eb : er tb' = dis ns) {G H : Hp} {x y : V} {Q : VK} (s : Same G H) (hx : Hv F.K G (er (ti n)) x) (hy : Hv F.K G (er tb') y) (k : Q (.bl (if neg then !ns.contains n else ns.contains n)) H) : rIn F.K neg x y H Q := by
  rw [eb] at hy
  obtain ⟨l, vs, rfl, h1, h2⟩ := hy
  have := hvl_ints h2
  subst this
  rw [hvi hx]
  refine ⟨l, _, rfl, .inl (s.seq h1), rfl, flat_ints ns, ?_⟩
  rw [inV_ints, any_contains]
  exact k
theorem et_in {n : Int} {ns : List Int} (ha : Ev F a ρ (ti n)) (hb : Ev F b ρ tb') (eb : er tb' = dis ns) (hm : behindInMarks .In b = false) : Et F (.Compare a [.In] [b] pos) ρ (ns.contains n) :=
  et_cmp (r := rIn F.K false) (fun i => F.hK i ▸ op_in_seq) ha hb (fun G H x y Q s hx hy k => in_int eb s hx hy k) hm
theorem et_notin {n : Int} {ns : List Int} (ha : Ev F a ρ (ti n)) (hb : Ev F b ρ tb') (eb : er tb' = dis ns) (hm : behindInMarks .NotIn b = false) : Et F (.Compare a [.NotIn] [b] pos) ρ (!ns.contains n) :=
  et_cmp (r := rIn F.K true) (fun i => F.hK i ▸ op_notIn_seq) ha hb (fun G H x y Q s hx hy k => in_int eb s hx hy k) hm
theorem et_val {c : Bool} (h : Ev F e ρ (tb c)) (he : ∀ i whole, isTrue e (F.cx i).env whole = (do let v ← whole; standAt e.pos; holding [v] (truthy v)) := by intro _ _; rfl) : Et F e ρ c := by
  obtain ⟨τ, p, q⟩ := h
  exact ⟨tB τ, fun i => pt_val (p i) (he i), fun σ G H Q s r k => q σ G H _ s r fun v G' H' fq st o w => ⟨c, hvi o.2, k G' H' st⟩⟩
def Ew (F : Fam ι) (e : Expr) (ρ : En) (b : Bool) : Prop := ∃ τ : TT, (∀ i, PW (F.cx i) e τ) ∧ ∀ σ G H Q, Same G H → RpD F.K G ρ σ → (∀ G' H', Step G H G' H' → Q b H') → τ σ H Q
theorem Ew.et {p : Bool} (h : Ew F e ρ p) : Et F e ρ p := let ⟨τ, a, b⟩ := h; ⟨τ, fun i => (a i).pt, b⟩
theorem pw_never {X : Cx} : PW X e (fun _ _ _ => False) := fun _ _ _ _ _ _ _ h => h.elim
theorem ew_and1 {p : Bool} (h : Et F a ρ p) : Ew F (.BoolOp .And [a] pos) ρ p := let ⟨τ, x, y⟩ := h; ⟨τ, fun i => pw_and1 (x i), y⟩
theorem ew_or1 {p : Bool} (h : Et F a ρ p) : Ew F (.BoolOp .Or [a] pos) ρ p := let ⟨τ, x, y⟩ := h; ⟨τ, fun i => pw_or1 (x i), y⟩
theorem ew_and {p q : Bool} {rest : List Expr} (h : Et F a ρ p) (h2 : p = true → Ew F (.BoolOp .And (b :: rest) pos) ρ q) : Ew F (.BoolOp .And (a :: b :: rest) pos) ρ (p && q) := by
  obtain ⟨τ, x, y⟩ := h
  cases p with
  | false => exact ⟨tAnd τ _, fun i => pw_and (x i) pw_never, fun σ G H Q s r k => y σ G H _ s r fun G' H' st => iteF (k G' H' st)⟩
  | true =>
    obtain ⟨τ', x', y'⟩ := h2 rfl
    exact ⟨tAnd τ τ', fun i => pw_and (x i) (x' i), fun σ G H Q s r k => y σ G H _ s r fun G1 H1 s1 => iteT (y' σ G1 H1 _ s1.s (r.mono s1.g) fun G2 H2 s2 => k G2 H2 (s1.trans s2))⟩
theorem ew_or {p q : Bool} {rest : List Expr} (h : Et F a ρ p) (h2 : p = false → Ew F (.BoolOp .Or (b :: rest) pos) ρ q) : Ew F (.BoolOp .Or (a :: b :: rest) pos) ρ (p || q) := by
  obtain ⟨τ, x, y⟩ := h
  cases p with
  | true => exact ⟨tOr τ _, fun i => pw_or (x i) pw_never, fun σ G H Q s r k => y σ G H _ s r fun G' H' st => iteT (k G' H' st)⟩
  | false =>
    obtain ⟨τ', x', y'⟩ := h2 rfl
    exact ⟨tOr τ τ', fun i => pw_or (x i) (x' i), fun σ G H Q s r k => y σ G H _ s r fun G1 H1 s1 => iteF (y' σ G1 H1 _ s1.s (r.mono s1.g) fun G2 H2 s2 => k G2 H2 (s1.trans s2))⟩
theorem et_not {p : Bool} (h : Et F a ρ p) : Et F (.UnaryOp .Not a pos) ρ (!p) := by
  obtain ⟨τ, x, y⟩ := h
  exact ⟨tNot τ, fun i => pt_not (x i), fun σ G H Q s r k => y σ G H _ s r k⟩
theorem pe_never {X : Cx} : PE X e (fun _ _ _ => False) := fun _ _ _ _ _ _ h => h.elim
theorem ev_one {op : BoolOp} {t : Tr} (h : Ev F a ρ t) : Ev F (.BoolOp op [a] pos) ρ t := let ⟨τ, x, y⟩ := h; ⟨τ, fun i => pe_one (x i), y⟩
theorem ev_and {p q : Bool} {rest : List Expr} (h : Ev F a ρ (tb p)) (h2 : p = true → Ev F (.BoolOp .And (b :: rest) pos) ρ (tb q)) : Ev F (.BoolOp .And (a :: b :: rest) pos) ρ (tb (p && q)) := by
  obtain ⟨τ, x, y⟩ := h.use
  cases p with
  | false => exact ⟨tAndV τ _, fun i => pe_and (x i) pe_never, fun σ G H Q s r k => y σ G H _ s r fun v G' H' st hv => ⟨false, hvi hv, iteF ((k.step st).sc st.s rfl)⟩⟩
  | true =>
    obtain ⟨τ', x', y'⟩ := h2 rfl
    exact ⟨tAndV τ τ', fun i => pe_and (x i) (x' i), fun σ G H Q s r k => y σ G H _ s r fun v G1 H1 s1 hv => ⟨true, hvi hv, iteT (y' σ G1 H1 _ s1.s (r.mono s1.g) (k.step s1))⟩⟩
theorem ev_or {p q : Bool} {rest : List Expr} (h : Ev F a ρ (tb p)) (h2 : p = false → Ev F (.BoolOp .Or (b :: rest) pos) ρ (tb q)) : Ev F (.BoolOp .Or (a :: b :: rest) pos) ρ (tb (p || q)) := by
  obtain ⟨τ, x, y⟩ := h.use
  cases p with
  | true => exact ⟨tOrV τ _, fun i => pe_or (x i) pe_never, fun σ G H Q s r k => y σ G H _ s r fun v G' H' st hv => ⟨true, hvi hv, iteT ((k.step st).sc st.s rfl)⟩⟩
  | false =>
    obtain ⟨τ', x', y'⟩ := h2 rfl
    exact ⟨tOrV τ τ', fun i => pe_or (x i) (x' i), fun σ G H Q s r k => y σ G H _ s r fun v G1 H1 s1 hv => ⟨false, hvi hv, iteF (y' σ G1 H1 _ s1.s (r.mono s1.g) (k.step s1))⟩⟩
theorem ev_not {p : Bool} (h : Ev F a ρ (tb p)) : Ev F (.UnaryOp .Not a pos) ρ (tb (!p)) := by
  obtain ⟨τ, x, y⟩ := h.use
  exact ⟨tNotV τ, fun i => pe_not (x i), fun σ G H Q s r k => y σ G H _ s r fun v G' H' st hv => ⟨p, hvi hv, (k.step st).sc st.s rfl⟩⟩
theorem ev_if {p : Bool} (hc : Et F c ρ p) (h1 : p = true → Ev F a ρ t) (h2 : p = false → Ev F b ρ t) : Ev F (.IfExp c a b pos) ρ t := by
  obtain ⟨τ, x, y⟩ := hc
  cases p with
  | true =>
    obtain ⟨τ', x', y'⟩ := h1 rfl
    exact ⟨tIf τ τ' _, fun i => pe_ifExp (x i) (x' i) pe_never, fun σ G H Q s r k => y σ G H _ s r fun G1 H1 s1 => iteT (y' σ G1 H1 _ s1.s (r.mono s1.g) (k.step s1))⟩
  | false =>
    obtain ⟨τ', x', y'⟩ := h2 rfl
    exact ⟨tIf τ _ τ', fun i => pe_ifExp (x i) pe_never (x' i), fun σ G H Q s r k => y σ G H _ s r fun G1 H1 s1 => iteF (y' σ G1 H1 _ s1.s (r.mono s1.g) (k.step s1))⟩
theorem ev_lst (h : EvA F es ρ ts) (hz : ts.length ≤ sizeLine) : Ev F (.List es pos) ρ (.ow ts) := by
  obtain ⟨τ, x, y⟩ := h
  refine ⟨tLst τ, fun i => pe_lst (x i), fun σ G H Q s r k => y σ G H _ s r fun vs G1 H1 fq s1 o w => ⟨by rw [← o.length]; exact hz, fun p hp => ?_⟩⟩
  have np : p ∉ fq := fun z => by
    obtain ⟨u, hu⟩ := o.there p z
    rw [hp] at hu; cases hu
  exact k (.ref p) G1 _ (p :: fq) (s1.trans (.newO s1.s hp)) ⟨p, vs, fq, rfl, upd_same, o.mono (Same.refl _) (Same.new hp), rfl⟩
    ⟨fun a ha => (List.mem_cons.mp ha).elim (fun z => by rw [z]; exact s1.h.free hp) (w.n a), fun a ha => (List.mem_cons.mp ha).elim (fun z => by rw [z]; exact s1.s.free hp) (w.g a), List.nodup_cons.mpr ⟨np, w.d⟩⟩
theorem ev_tup {x1} (h : EvA F es ρ ts) (hz : ts.length ≤ sizeLine) : Ev F (.Tuple es x1 pos) ρ (.tp ts) := by
  obtain ⟨τ, x, y⟩ := h
  refine ⟨tTup τ, fun i => pe_tup (x i), fun σ G H Q s r k => y σ G H _ s r fun vs G1 H1 fq s1 o w => ⟨by rw [← o.length]; exact hz, fun p hp => ?_⟩⟩
  have np : p ∉ fq := fun z => by
    obtain ⟨u, hu⟩ := o.there p z
    rw [hp] at hu; cases hu
  exact k (.ref p) G1 _ (p :: fq) (s1.trans (.newO s1.s hp)) ⟨p, vs, fq, rfl, upd_same, o.mono (Same.refl _) (Same.new hp), rfl⟩
    ⟨fun a ha => (List.mem_cons.mp ha).elim (fun z => by rw [z]; exact s1.h.free hp) (w.n a), fun a ha => (List.mem_cons.mp ha).elim (fun z => by rw [z]; exact s1.s.free hp) (w.g a), List.nodup_cons.mpr ⟨np, w.d⟩⟩
theorem ev_tupD {x1} {dd : List Dv} (h : EvA F es ρ ts) (ed : ers ts = dd) (hz : ts.length ≤ sizeLine) : Ev F (.Tuple es x1 pos) ρ (.fz (.tup dd)) := ed ▸ (ev_tup h hz).fz
theorem HvL.get {K : PySem.W.Frag} {G : Hp} : ∀ {ds : List Dv} {vs : List V} {j : Nat} {d : Dv}, HvL K G ds vs → ds[j]? = some d → ∃ v, vs[j]? = some v ∧ Hv K G d v
  | _ :: _, _, 0, _, ⟨x, r, h1, h2, h3⟩, h => by cases h; subst h1; exact ⟨x, rfl, h2⟩
  | _ :: _, _, j + 1, d, ⟨x, r, h1, h2, h3⟩, h => by
    subst h1
    obtain ⟨v, q1, q2⟩ := HvL.get (j := j) h3 h
    exact ⟨v, q1, q2⟩
theorem HvL.at {K : PySem.W.Frag} {G : Hp} {ds : List Dv} {vs : List V} {k : Int} {d : Dv} (h : HvL K G ds vs) (hk : atI ds k = some d) : ∃ v, atI vs k = some v ∧ Hv K G d v := by
  unfold atI at hk ⊢
  rw [← h.length]
  cases q : ixN ds.length k with
  | none => rw [q] at hk; cases hk
  | some j => rw [q] at hk; exact h.get hk
theorem ev_ix {xs : List Dv} {k : Int} {d : Dv} (ha : Ev F a ρ ta) (hb : Ev F b ρ (ti k)) (ea : er ta = .lst xs) (hk : atI xs k = some d) (hs : PlainIx b := by exact fun _ _ => rfl) : Ev F (.Subscript a b pos) ρ (.fz d) := by
  obtain ⟨τ, p, q⟩ := ha.use
  obtain ⟨τ', p', q'⟩ := hb.use
  refine ⟨tOp (rIxL F.K) τ τ', fun i => pe_ix (ix_listK (F.hK i)) (p i) (p' i) hs, fun σ G H Q s rr k => ?_⟩
  refine q σ G H _ s rr fun x G1 H1 s1 hx => q' σ G1 H1 _ s1.s (rr.mono s1.g) fun y G2 H2 s2 hy => ?_
  rw [ea] at hx
  obtain ⟨l, vs, rfl, h1, h2⟩ := hx
  obtain ⟨v, h3, h4⟩ := h2.at hk
  exact ⟨l, vs, _, v, rfl, hvi hy, (s2.g.trans s2.s).seq h1, h3, (k.step (s1.trans s2)).dat s2.s (h4.mono s2.g)⟩
theorem ev_ixT {xs : List Dv} {k : Int} {d : Dv} (ha : Ev F a ρ ta) (hb : Ev F b ρ (ti k)) (ea : er ta = .tup xs) (hk : atI xs k = some d) (hs : PlainIx b := by exact fun _ _ => rfl) : Ev F (.Subscript a b pos) ρ (.fz d) := by
  obtain ⟨τ, p, q⟩ := ha.use
  obtain ⟨τ', p', q'⟩ := hb.use
  refine ⟨tOp (rIxT F.K) τ τ', fun i => pe_ix (ix_tupK (F.hK i)) (p i) (p' i) hs, fun σ G H Q s rr k => ?_⟩
  refine q σ G H _ s rr fun x G1 H1 s1 hx => q' σ G1 H1 _ s1.s (rr.mono s1.g) fun y G2 H2 s2 hy => ?_
  rw [ea] at hx
  obtain ⟨l, vs, rfl, h1, h2⟩ := hx
  obtain ⟨v, h3, h4⟩ := h2.at hk
  exact ⟨l, vs, _, v, rfl, hvi hy, (s2.g.trans s2.s).tup h1, h3, (k.step (s1.trans s2)).dat s2.s (h4.mono s2.g)⟩
def cutD {α : Type} (xs : List α) (lo hi : Option Int) : List α := (xs.drop (HT.sIx xs.length 0 lo)).take (HT.sIx xs.length xs.length hi - HT.sIx xs.length 0 lo)
theorem HvL.drop {K : PySem.W.Frag} {G : Hp} : ∀ {ds : List Dv} {vs : List V} (n : Nat), HvL K G ds vs → HvL K G (ds.drop n) (vs.drop n)
  | ds, vs, 0, h => h
  | [], _, n + 1, h => by rw [show _ = [] from h]; exact rfl
  | _ :: _, _, n + 1, ⟨x, r, h1, h2, h3⟩ => by subst h1; exact HvL.drop n h3
theorem HvL.take {K : PySem.W.Frag} {G : Hp} : ∀ {ds : List Dv} {vs : List V} (n : Nat), HvL K G ds vs → HvL K G (ds.take n) (vs.take n)
  | ds, vs, 0, h => by simp only [List.take_zero]; exact rfl
  | [], _, n + 1, h => by rw [show _ = [] from h]; exact rfl
  | _ :: _, _, n + 1, ⟨x, r, h1, h2, h3⟩ => by subst h1; exact ⟨x, r.take n, rfl, h2, HvL.take n h3⟩
theorem HvL.cut {K : PySem.W.Frag} {G : Hp} {ds : List Dv} {vs : List V} (h : HvL K G ds vs) (lo hi : Option Int) : HvL K G (cutD ds lo hi) (cutV vs lo hi) := by
  unfold cutD cutV
  rw [h.length]
  exact (h.drop _).take _
def Eo (F : Fam ι) (e : Option Expr) (ρ : En) (o : Option Int) : Prop := ∃ τ : TO, (∀ i, PO (F.cx i) e τ) ∧ ∀ σ G H Q, Same G H → RpD F.K G ρ σ → (∀ G' H', Step G H G' H' → Q o H') → τ σ H Q
theorem eo_some {n : Int} (h : Ev F e ρ (ti n)) : Eo F (some e) ρ (some n) := by
  obtain ⟨τ, x, y⟩ := h.use
  exact ⟨tPart τ, fun i => po_some (x i), fun σ G H Q s r k => y σ G H _ s r fun v G' H' st hv => ⟨n, hvi hv, k G' H' st⟩⟩
theorem ev_slice {lo hi : Option Expr} {l u : Option Int} {xs : List Dv} {p2 : Pos} (ha : Ev F a ρ ta) (ea : er ta = .lst xs) (hl : Eo F lo ρ l) (hu : Eo F hi ρ u) : Ev F (.Subscript a (.Slice lo hi none p2) pos) ρ (.ow ((cutD xs l u).map .fz)) := by
  obtain ⟨τ, p, q⟩ := ha.use
  obtain ⟨τ1, p1, q1⟩ := hl
  obtain ⟨τ2, p2', q2⟩ := hu
  refine ⟨tSl (rSlL F.K) τ τ1 τ2, fun i => pe_slice (F.hK i ▸ sl_list) (p i) (p1 i) (p2' i), fun σ G H Q s rr k => ?_⟩
  refine q σ G H _ s rr fun x G1 H1 s1 hx => q1 σ G1 H1 _ s1.s (rr.mono s1.g) fun G2 H2 s2 => q2 σ G2 H2 _ s2.s (rr.mono (s1.trans s2).g) fun G3 H3 s3 => ?_
  rw [ea] at hx
  obtain ⟨b, vs, rfl, h1, h2⟩ := hx
  have st := s2.trans s3
  exact ⟨b, vs, rfl, (st.g.trans st.s).seq h1, fun p hp => (k.step (s1.trans st)).lst st.s ((h2.mono st.g).cut l u).owl hp⟩
theorem ev_callB {id : String} {x : Str} {r : List V → Hp → VK → Prop} (hc : ∀ i, CallR (F.cx i) (.builtin id) r) (hm : F.mg x = none) (hv : bootBuiltins x = some (.builtin id)) (ha : EvA F (e :: es) ρ ts)
    (h : ∀ G H xs Q, Same G H → HvL F.K G (ers ts) xs → Kv F.K G H t Q → r xs H Q) {p' : Pos} (hg : ∀ i, Gl (F.cx i) x := by intro _; rfl) (hn : x ≠ "__name__" := by decide) (hdb : (x == ("__debug__" : Str)) = false := by decide)
    (he : ∀ i, starEach (e :: es) (F.cx i).env = (false, eval e (F.cx i).env) :: starEach es (F.cx i).env := by intro _; rfl) (hpl : ∀ i, (backTo pos (starEach es (F.cx i).env)).any (·.1) = false := by intro _; rfl) : Ev F (.Call (.Name x p') (e :: es) [] pos) ρ t := by
  obtain ⟨τ, y, z⟩ := ha.use
  refine ⟨tCB r τ, fun i => pe_callB (hc i) (hg i) ((F.hm i).symm ▸ hm) hv (y i) hn hdb (he i) (hpl i), fun σ G H Q s rr k => z σ G H _ s rr fun vs G1 H1 s1 hx => ?_⟩
  exact h G1 H1 vs Q s1.s hx (k.step s1)
theorem ev_callT {T : String} {x : Str} {r : List V → Hp → VK → Prop} (hc : ∀ i, CallR (F.cx i) (.type T) r) (hm : F.mg x = none) (hv : bootBuiltins x = some (.type T)) (ha : EvA F (e :: es) ρ ts)
    (h : ∀ G H xs Q, Same G H → HvL F.K G (ers ts) xs → Kv F.K G H t Q → r xs H Q) {p' : Pos} (hg : ∀ i, Gl (F.cx i) x := by intro _; rfl) (hn : x ≠ "__name__" := by decide) (hdb : (x == ("__debug__" : Str)) = false := by decide)
    (he : ∀ i, starEach (e :: es) (F.cx i).env = (false, eval e (F.cx i).env) :: starEach es (F.cx i).env := by intro _; rfl) (hpl : ∀ i, (backTo pos (starEach es (F.cx i).env)).any (·.1) = false := by intro _; rfl) : Ev F (.Call (.Name x p') (e :: es) [] pos) ρ t := by
  obtain ⟨τ, y, z⟩ := ha.use
  refine ⟨tCB r τ, fun i => pe_callTy (hc i) (hg i) ((F.hm i).symm ▸ hm) hv (y i) hn hdb (he i) (hpl i), fun σ G H Q s rr k => z σ G H _ s rr fun vs G1 H1 s1 hx => ?_⟩
  exact h G1 H1 vs Q s1.s hx (k.step s1)
theorem hvl1 {K : PySem.W.Frag} {G : Hp} {d : Dv} {xs : List V} (h : HvL K G [d] xs) : ∃ x, xs = [x] ∧ Hv K G d x := by
  obtain ⟨x, r, h1, h2, h3⟩ := h
  exact ⟨x, by rw [h1, show r = [] from h3], h2⟩
theorem hvl2 {K : PySem.W.Frag} {G : Hp} {d d' : Dv} {xs : List V} (h : HvL K G [d, d'] xs) : ∃ x y, xs = [x, y] ∧ Hv K G d x ∧ Hv K G d' y := by
  obtain ⟨x, r, h1, h2, h3⟩ := h
  obtain ⟨y, rfl, h4⟩ := hvl1 h3
  exact ⟨x, y, h1, h2, h4⟩
theorem ev_len {xs : List Dv} (hm : F.mg "len" = none) (ha : Ev F e ρ ta) (ea : er ta = .lst xs ∨ er ta = .tup xs) {p' : Pos} (hg : ∀ i, Gl (F.cx i) "len" := by intro _; rfl)
    (hs : ∀ i, starEach [e] (F.cx i).env = [(false, eval e (F.cx i).env)] := by intro _; rfl) : Ev F (.Call (.Name "len" p') [e] [] pos) ρ (ti xs.length) :=
  ev_callB (r := fun xs H Q => ∃ p ys, xs = [.ref p] ∧ (SqL F.K H p ys ∨ SqT F.K H p ys) ∧ Q (.int ys.length) H) (fun i => call_lenK (F.hK i)) hm bt_len (eva_cons ha eva_nil hs) (fun G H vs Q s hx k => by
    obtain ⟨x, rfl, hxx⟩ := hvl1 hx
    replace hx := hxx
    rcases ea with ea | ea
    · rw [ea] at hx
      obtain ⟨l, ys, rfl, h1, h2⟩ := hx
      exact ⟨l, ys, rfl, .inl (s.seq h1), by rw [← h2.length]; exact k.sc s rfl⟩
    · rw [ea] at hx
      obtain ⟨l, ys, rfl, h1, h2⟩ := hx
      exact ⟨l, ys, rfl, .inr (s.tup h1), by rw [← h2.length]; exact k.sc s rfl⟩) hg (by decide) (by decide) hs (fun _ => rfl)
theorem ev_list {xs : List Dv} (hm : F.mg "list" = none) (ha : Ev F e ρ ta) (ea : er ta = .lst xs ∨ er ta = .tup xs) {p' : Pos} (hg : ∀ i, Gl (F.cx i) "list" := by intro _; rfl)
    (hs : ∀ i, starEach [e] (F.cx i).env = [(false, eval e (F.cx i).env)] := by intro _; rfl) : Ev F (.Call (.Name "list" p') [e] [] pos) ρ (.ow (xs.map .fz)) :=
  ev_callT (r := fun xs H Q => ∃ p ys, xs = [.ref p] ∧ (SqL F.K H p ys ∨ SqT F.K H p ys) ∧ ∀ l, H l = none → Q (.ref l) (upd H l (.lst ys))) (fun i => F.hK i ▸ call_list_of) hm bt_list (eva_cons ha eva_nil hs) (fun G H vs Q s hx k => by
    obtain ⟨x, rfl, hxx⟩ := hvl1 hx
    replace hx := hxx
    rcases ea with ea | ea
    · rw [ea] at hx
      obtain ⟨l, ys, rfl, h1, h2⟩ := hx
      exact ⟨l, ys, rfl, .inl (s.seq h1), fun p hp => k.lst s h2.owl hp⟩
    · rw [ea] at hx
      obtain ⟨l, ys, rfl, h1, h2⟩ := hx
      exact ⟨l, ys, rfl, .inr (s.tup h1), fun p hp => k.lst s h2.owl hp⟩) hg (by decide) (by decide) hs (fun _ => rfl)
theorem ev_abs {n : Int} (hm : F.mg "abs" = none) (ha : Ev F e ρ (ti n)) {p' : Pos} (hg : ∀ i, Gl (F.cx i) "abs" := by intro _; rfl)
    (hs : ∀ i, starEach [e] (F.cx i).env = [(false, eval e (F.cx i).env)] := by intro _; rfl) : Ev F (.Call (.Name "abs" p') [e] [] pos) ρ (ti (if n < 0 then -n else n)) :=
  ev_callB (fun i => call_abs) hm bt_abs (eva_cons ha eva_nil hs) (fun G H vs Q s hx k => by
    obtain ⟨x, rfl, hxx⟩ := hvl1 hx
    replace hx := hxx
    exact ⟨n, by rw [hvi hx], k.sc s rfl⟩) hg (by decide) (by decide) hs (fun _ => rfl)
def tyD : Dv → Value
  | .fl .non => .type "NoneType"
  | .fl (.bl _) => .type "bool"
  | .fl (.int _) => .type "int"
  | .fl (.str _) => .type "str"
  | .fl _ => .none
  | .lst _ => .type "list"
  | .tup _ => .type "tuple"
def rIsD (K : PySem.W.Frag) (d : Dv) (n : String) (b : Bool) : List V → Hp → VK → Prop := fun xs H Q => ∃ x, xs = [x, .ty n] ∧ Hv K H d x ∧ PySem.W.kitOne K (tyD d) (.type n) = some b ∧ Q (.bl b) H
theorem call_isD {X : Cx} {d : Dv} {n : String} {b : Bool} : CallR X (.builtin "isinstance") (rIsD X.K d n b) := by
  intro pins s σ H xs us Q I r h
  obtain ⟨x, rfl, hx, hb, q⟩ := h
  cases r with
  | cons r1 rr => cases rr with
    | cons r2 rr =>
      cases rr
      cases (show _ = Value.type n from r2)
      have fin : ∀ tk, EP X pins σ Q (.bool b) { s with toks := tk } := fun tk => ⟨.bl b, H, I.tok tk, rfl, q⟩
      cases d with
      | fl v =>
        obtain ⟨rfl, f⟩ := hx
        cases x with
        | non => exact isinst_ok I r1 .non hb fin
        | bl y => exact isinst_ok I r1 (.bl y) hb fin
        | int y => exact isinst_ok I r1 (.int y) hb fin
        | str y => exact isinst_ok I r1 (.str y) hb fin
        | byt y => cases f
        | flt y => cases f
        | ref y => cases f
        | ty y => cases f
      | lst ds =>
        obtain ⟨a, xs, rfl, h1, _⟩ := hx
        cases r1
        obtain ⟨its, _, ⟨o, n, h2, h3, _⟩, _⟩ := I.list h1
        exact PySem.W.kia_one PySem.W.kitx_list I.kIn ⟨o, h2, h3⟩ hb (fun z => nomatch z) fin
      | tup ds =>
        obtain ⟨a, xs, rfl, h1, _⟩ := hx
        cases r1
        obtain ⟨its, _, ⟨o, h2, h3, _⟩, _⟩ := I.tuple h1
        exact PySem.W.kia_one PySem.W.kitx_tuple I.kIn ⟨o, h2, h3⟩ hb (fun z => nomatch z) fin
theorem ev_isi {x : Str} {n : String} {bo : Bool} (hm : F.mg "isinstance" = none) (hm2 : F.mg x = none) (hv : bootBuiltins x = some (.type n)) (ha : Ev F e ρ ta) (hk : PySem.W.kitOne F.K (tyD (er ta)) (.type n) = some bo) {p' p2 : Pos} (hg : ∀ i, Gl (F.cx i) "isinstance" := by intro _; rfl)
    (hg2 : ∀ i, Gl (F.cx i) x := by intro _; rfl) (hn : x ≠ "__name__" := by decide) (hd : (x == ("__debug__" : Str)) = false := by decide)
    (hs : ∀ i, starEach [e, .Name x p2] (F.cx i).env = [(false, eval e (F.cx i).env), (false, eval (.Name x p2) (F.cx i).env)] := by intro _; rfl) : Ev F (.Call (.Name "isinstance" p') [e, .Name x p2] [] pos) ρ (tb bo) := by
  obtain ⟨τ, y, z⟩ := ha.use
  refine ⟨tCB (rIsD F.K (er ta) n bo) (tCons τ (tCons (tC (.ty n)) tNil)), fun i => pe_callB (F.hK i ▸ call_isD) (hg i) ((F.hm i).symm ▸ hm) bt_isinstance (pa_cons (y i) (pa_cons (pe_bltn (v := .ty n) (hg2 i) ((F.hm i).symm ▸ hm2) hv rfl hn hd) pa_nil rfl) (hs i)) (by decide) (by decide) (hs i) rfl, fun σ G H Q s rr k => z σ G H _ s rr fun vs G1 H1 s1 hx => ?_⟩
  exact ⟨vs, rfl, hx.mono s1.s, hk, (k.step s1).sc s1.s rfl⟩
def spT (K : PySem.W.Frag) (R : List Dv → Tr → Prop) : Sp := fun vs H Q _ => ∃ G ds t, Same G H ∧ HvL K G ds vs ∧ R ds t ∧ Kv K G H t Q
theorem ev_call {k : Nat} {f : Addr} {fd : FuncData} {ps : List Str} {R : List Dv → Tr → Prop} {x : Str} (Fn : Kn F.P F.w F.K F.mg F.base CX0 k x f fd ps (spT F.K R)) (hk : k ≤ F.room) (ha : EvA F (e :: es) ρ ts) (hR : R (ers ts) t) {p' : Pos} (hg : ∀ i, Gl (F.cx i) x := by intro _; rfl) (hdb : (x == ("__debug__" : Str)) = false := by decide)
    (he : ∀ i, starEach (e :: es) (F.cx i).env = (false, eval e (F.cx i).env) :: starEach es (F.cx i).env := by intro _; rfl) (hpl : ∀ i, (backTo pos (starEach es (F.cx i).env)).any (·.1) = false := by intro _; rfl) : Ev F (.Call (.Name x p') (e :: es) [] pos) ρ t := by
  obtain ⟨τ, y, z⟩ := ha.use
  refine ⟨tCall (spT F.K R) [] E0 τ, fun i => ?_, fun σ G H Q s rr k => z σ G H _ s rr fun vs G1 H1 s1 hx => ?_⟩
  · have Fn' : Kn (F.cx i).prog (F.cx i).w (F.cx i).K (F.cx i).mg (F.cx i).base CX0 k x f fd ps (spT F.K R) := by
      rw [F.hP i, F.hw i, F.hK i, F.hm i, F.hb i]
      exact Fn
    exact pe_kn Fn' ((F.hr i).mono hk) (hg i) (y i) hdb (he i) (hpl i)
  · show spT F.K R (vs ++ []) H1 Q E0
    rw [List.append_nil]
    exact ⟨G1, _, t, s1.s, hx, hR, k.step s1⟩
end
end L2
namespace L2
open PySem PySem.Spec PyProof.Rows
def OwS (K : PySem.W.Frag) (G H : Hp) : En → St → List Addr → Prop
  | [], σ, fp => σ = [] ∧ fp = []
  | none :: ρ, σ, fp => ∃ o r, σ = o :: r ∧ OwS K G H ρ r fp
  | some t :: ρ, σ, fp => ∃ v r f1 f2, σ = some v :: r ∧ fp = f1 ++ f2 ∧ Ow K G H t v f1 ∧ OwS K G H ρ r f2
theorem OwS.mono {K : PySem.W.Frag} {G G' H H' : Hp} (e : Same G G') (e' : Same H H') : ∀ {ρ : En} {σ : St} {fp : List Addr}, OwS K G H ρ σ fp → OwS K G' H' ρ σ fp
  | [], _, _, h => h
  | none :: _, _, _, ⟨o, r, h1, h2⟩ => ⟨o, r, h1, OwS.mono e e' h2⟩
  | some _ :: _, _, _, ⟨v, r, f1, f2, h1, h2, h3, h4⟩ => ⟨v, r, f1, f2, h1, h2, h3.mono e e', OwS.mono e e' h4⟩
theorem OwS.frame {K : PySem.W.Frag} {G H : Hp} {a : Addr} {o : HO} : ∀ {ρ : En} {σ : St} {fp : List Addr}, OwS K G H ρ σ fp → a ∉ fp → OwS K G (upd H a o) ρ σ fp
  | [], _, _, h, _ => h
  | none :: _, _, _, ⟨o, r, h1, h2⟩, n => ⟨o, r, h1, OwS.frame h2 n⟩
  | some _ :: _, _, _, ⟨v, r, f1, f2, h1, h2, h3, h4⟩, n => by
    subst h2
    exact ⟨v, r, f1, f2, h1, rfl, h3.frame fun z => n (List.mem_append_left _ z), OwS.frame h4 fun z => n (List.mem_append_right _ z)⟩
theorem OwS.there {K : PySem.W.Frag} {G H : Hp} : ∀ {ρ : En} {σ : St} {fp : List Addr}, OwS K G H ρ σ fp → ∀ a ∈ fp, ∃ o, H a = some o
  | [], _, _, ⟨_, h⟩, a, ha => by subst h; cases ha
  | none :: _, _, _, ⟨o, r, h1, h2⟩, a, ha => OwS.there h2 a ha
  | some _ :: _, _, _, ⟨v, r, f1, f2, h1, h2, h3, h4⟩, a, ha => by
    subst h2
    rcases List.mem_append.mp ha with ha | ha
    · exact h3.there a ha
    · exact OwS.there h4 a ha
theorem OwS.off {K : PySem.W.Frag} {G H G1 H1 : Hp} {ρ : En} {σ : St} {fp : List Addr} (r : OwS K G H ρ σ fp) (s1 : Step G H G1 H1) (g : ∀ a ∈ fp, G a = none) : ∀ a ∈ fp, G1 a = none := fun a ha => by
  cases q : G1 a with
  | none => rfl
  | some u =>
    obtain ⟨u', hu'⟩ := r.there a ha
    have := s1.n a (g a ha) (by rw [q]; exact fun z => nomatch z)
    rw [hu'] at this
    cases this
theorem OwS.rpd {K : PySem.W.Frag} {G H : Hp} : ∀ {ρ : En} {σ : St} {fp : List Addr}, OwS K G H ρ σ fp → RpD K G ρ σ
  | [], _, _, _, j, d, h => by cases j <;> cases h
  | none :: _, _, _, ⟨o, r, h1, h2⟩, 0, d, h => by cases h
  | none :: _, _, _, ⟨o, r, h1, h2⟩, j + 1, d, h => by subst h1; exact OwS.rpd h2 j d h
  | some _ :: _, _, _, ⟨v, r, f1, f2, h1, h2, h3, h4⟩, 0, d, h => by cases h; subst h1; exact ⟨v, rfl, h3.2⟩
  | some _ :: _, _, _, ⟨v, r, f1, f2, h1, h2, h3, h4⟩, j + 1, d, h => by subst h1; exact OwS.rpd h4 j d h
def pk (ρ : En) : En := ρ.map (Option.map fun t => .fz (er t))
theorem OwS.pk {K : PySem.W.Frag} {G H G' : Hp} (e : Same G G') : ∀ {ρ : En} {σ : St} {fp : List Addr}, OwS K G H ρ σ fp → (∀ a ∈ fp, G' a = H a) → RpD K G' (pk ρ) σ
  | [], _, _, _, _, j, d, h => by cases j <;> cases h
  | none :: _, _, _, ⟨o, r, h1, h2⟩, _, 0, d, h => by cases h
  | none :: _, _, _, ⟨o, r, h1, h2⟩, q, j + 1, d, h => by subst h1; exact OwS.pk e h2 q j d h
  | some _ :: _, _, _, ⟨v, r, f1, f2, h1, h2, h3, h4⟩, q, 0, d, h => by
    cases h; subst h1 h2; exact ⟨v, rfl, h3.hv e fun a ha => q a (List.mem_append_left _ ha)⟩
  | some _ :: _, _, _, ⟨v, r, f1, f2, h1, h2, h3, h4⟩, q, j + 1, d, h => by
    subst h1 h2; exact OwS.pk e h4 (fun a ha => q a (List.mem_append_right _ ha)) j d h
theorem OwS.split {K : PySem.W.Frag} {G H : Hp} : ∀ {ρ : En} {σ : St} {fp : List Addr} {j : Nat} {t : Tr}, OwS K G H ρ σ fp → ρ[j]? = some (some t) →
    ∃ v f fr, σ[j]? = some (some v) ∧ Ow K G H t v f ∧ OwS K G H (ρ.set j none) σ fr ∧ fp.Perm (f ++ fr)
  | none :: _, _, _, 0, _, _, h => by cases h
  | none :: _, _, _, j + 1, t, ⟨o, r, h1, h2⟩, h => by
    subst h1
    obtain ⟨v, f, fr, q1, q2, q3, q4⟩ := OwS.split (j := j) h2 h
    exact ⟨v, f, fr, q1, q2, ⟨o, r, rfl, q3⟩, q4⟩
  | some _ :: _, _, _, 0, t, ⟨v, r, f1, f2, h1, h2, h3, h4⟩, h => by
    cases h; subst h1 h2
    exact ⟨v, f1, f2, rfl, h3, ⟨some v, r, rfl, h4⟩, .refl _⟩
  | some _ :: _, _, _, j + 1, t, ⟨v, r, f1, f2, h1, h2, h3, h4⟩, h => by
    subst h1 h2
    obtain ⟨v', f, fr, q1, q2, q3, q4⟩ := OwS.split (j := j) h4 h
    refine ⟨v', f, f1 ++ fr, q1, q2, ⟨v, r, f1, fr, rfl, rfl, h3, q3⟩, ?_⟩
    refine (List.Perm.append_left f1 q4).trans ?_
    rw [← List.append_assoc, ← List.append_assoc]
    exact List.Perm.append_right fr List.perm_append_comm
theorem OwS.forget {K : PySem.W.Frag} {G H : Hp} : ∀ {ρ : En} {σ : St} {fp : List Addr} (j : Nat), OwS K G H ρ σ fp → ∃ fr, OwS K G H (ρ.set j none) σ fr ∧ fr.Sublist fp
  | [], _, _, _, h => ⟨_, h, .refl _⟩
  | none :: _, _, _, 0, ⟨o, r, h1, h2⟩ => ⟨_, ⟨o, r, h1, h2⟩, .refl _⟩
  | none :: _, _, _, j + 1, ⟨o, r, h1, h2⟩ => by
    obtain ⟨fr, q1, q2⟩ := OwS.forget j h2
    exact ⟨fr, ⟨o, r, h1, q1⟩, q2⟩
  | some _ :: _, _, _, 0, ⟨v, r, f1, f2, h1, h2, h3, h4⟩ => ⟨f2, ⟨some v, r, h1, h4⟩, h2 ▸ List.sublist_append_right _ _⟩
  | some _ :: _, _, _, j + 1, ⟨v, r, f1, f2, h1, h2, h3, h4⟩ => by
    obtain ⟨fr, q1, q2⟩ := OwS.forget j h4
    exact ⟨f1 ++ fr, ⟨v, r, f1, fr, h1, rfl, h3, q1⟩, h2 ▸ List.Sublist.append (.refl _) q2⟩
theorem OwS.put {K : PySem.W.Frag} {G H : Hp} : ∀ {ρ : En} {σ : St} {fr : List Addr} {j : Nat} {t : Tr} {v : V} {f : List Addr}, OwS K G H ρ σ fr → ρ[j]? = some none → Ow K G H t v f →
    ∃ fp, OwS K G H (ρ.set j (some t)) (σ.set j (some v)) fp ∧ fp.Perm (f ++ fr)
  | none :: _, _, fr, 0, t, v, f, ⟨o, r, h1, h2⟩, _, w => by subst h1; exact ⟨_, ⟨v, r, f, fr, rfl, rfl, w, h2⟩, .refl _⟩
  | none :: _, _, _, j + 1, t, v, f, ⟨o, r, h1, h2⟩, h, w => by
    subst h1
    obtain ⟨fp, q1, q2⟩ := OwS.put (j := j) h2 h w
    exact ⟨fp, ⟨o, _, rfl, q1⟩, q2⟩
  | some _ :: _, _, _, 0, _, _, _, _, h, _ => by cases h
  | some _ :: _, _, _, j + 1, t, v, f, ⟨v', r, f1, f2, h1, h2, h3, h4⟩, h, w => by
    subst h1 h2
    obtain ⟨fp, q1, q2⟩ := OwS.put (j := j) h4 h w
    refine ⟨f1 ++ fp, ⟨v', _, f1, fp, rfl, rfl, h3, q1⟩, ?_⟩
    refine (List.Perm.append_left f1 q2).trans ?_
    rw [← List.append_assoc, ← List.append_assoc]
    exact List.Perm.append_right f2 List.perm_append_comm
theorem OwS.len {K : PySem.W.Frag} {G H : Hp} : ∀ {ρ : En} {σ : St} {fp : List Addr}, OwS K G H ρ σ fp → ρ.length = σ.length
  | [], _, _, ⟨h, _⟩ => by rw [h]; rfl
  | none :: _, _, _, ⟨o, r, h1, h2⟩ => by subst h1; rw [List.length_cons, List.length_cons, OwS.len h2]
  | some _ :: _, _, _, ⟨v, r, f1, f2, h1, h2, h3, h4⟩ => by subst h1; rw [List.length_cons, List.length_cons, OwS.len h4]
structure RSf (K : PySem.W.Frag) (G0 H0 G H : Hp) (ρ : En) (σ : St) (fp : List Addr) : Prop where
  st : Step G0 H0 G H
  own : OwS K G H ρ σ fp
  g : ∀ a ∈ fp, G a = none
  n : ∀ a ∈ fp, H0 a = none
  d : fp.Nodup
def RS (K : PySem.W.Frag) (G0 H0 G H : Hp) (ρ : En) (σ : St) : Prop := ∃ fp, RSf K G0 H0 G H ρ σ fp
theorem get_set_none {α : Type} {ρ : List (Option α)} {j : Nat} (h : j < ρ.length) : (ρ.set j none)[j]? = some none := by rw [List.getElem?_set]; simp [h]
theorem RSf.forget {K : PySem.W.Frag} {G0 H0 G H : Hp} {ρ : En} {σ : St} {fp : List Addr} (r : RSf K G0 H0 G H ρ σ fp) (j : Nat) : ∃ fr, RSf K G0 H0 G H (ρ.set j none) σ fr ∧ fr.Sublist fp := by
  obtain ⟨fr, q1, q2⟩ := r.own.forget j
  exact ⟨fr, ⟨r.st, q1, fun a ha => r.g a (q2.subset ha), fun a ha => r.n a (q2.subset ha), r.d.sublist q2⟩, q2⟩
theorem RS.forget {K : PySem.W.Frag} {G0 H0 G H : Hp} {ρ : En} {σ : St} (r : RS K G0 H0 G H ρ σ) (j : Nat) : RS K G0 H0 G H (ρ.set j none) σ := by
  obtain ⟨fp, r⟩ := r
  obtain ⟨fr, q, _⟩ := r.forget j
  exact ⟨fr, q⟩
theorem RSf.set {K : PySem.W.Frag} {G0 H0 G H G1 H1 : Hp} {ρ : En} {σ : St} {fp fq : List Addr} {j : Nat} {t : Tr} {v : V} (r : RSf K G0 H0 G H ρ σ fp) (hj : j < ρ.length) (e : Step G H G1 H1) (o : Ow K G1 H1 t v fq) (w : Nw H G1 fq) :
    RS K G0 H0 G1 H1 (ρ.set j (some t)) (σ.set j (some v)) := by
  obtain ⟨fr, r1, sub⟩ := r.forget j
  have own1 := r1.own.mono e.g e.h
  obtain ⟨fp', q1, q2⟩ := own1.put (get_set_none hj) o
  rw [List.set_set] at q1
  have dis : ∀ a ∈ fq, ∀ b ∈ fr, a ≠ b := fun a ha b hb z => by
    subst z
    obtain ⟨u, hu⟩ := r1.own.there a hb
    rw [w.n a ha] at hu; cases hu
  refine ⟨fp', r.st.trans e, q1, fun a ha => ?_, fun a ha => ?_, q2.nodup_iff.mpr (List.nodup_append.mpr ⟨w.d, r1.d, dis⟩)⟩
  · rcases List.mem_append.mp (q2.mem_iff.mp ha) with z | z
    · exact w.g a z
    · cases q : G1 a with
      | none => rfl
      | some u =>
        obtain ⟨u', hu'⟩ := r1.own.there a z
        have := e.n a (r1.g a z) (by rw [q]; exact fun z => nomatch z)
        rw [hu'] at this; cases this
  · rcases List.mem_append.mp (q2.mem_iff.mp ha) with z | z
    · exact r.st.h.free (w.n a z)
    · exact r1.n a z
def less (H : Hp) (fp : List Addr) : Hp := fun a => if a ∈ fp then none else H a
theorem less_in {H : Hp} {fp : List Addr} {a : Addr} (h : a ∈ fp) : less H fp a = none := by unfold less; rw [if_pos h]
theorem less_out {H : Hp} {fp : List Addr} {a : Addr} (h : a ∉ fp) : less H fp a = H a := by unfold less; rw [if_neg h]
theorem less_sub {H : Hp} {fp : List Addr} : Same (less H fp) H := fun b o e => by
  by_cases q : b ∈ fp
  · rw [less_in q] at e; cases e
  · rw [less_out q] at e; exact e
theorem same_less {G H : Hp} {fp : List Addr} (s : Same G H) (h : ∀ a ∈ fp, G a = none) : Same G (less H fp) := fun b o e => by
  by_cases q : b ∈ fp
  · rw [h b q] at e; cases e
  · rw [less_out q]; exact s b o e
theorem RSf.rebase {K : PySem.W.Frag} {G0 H0 G H : Hp} {ρ : En} {σ : St} {fp : List Addr} (r : RSf K G0 H0 G H ρ σ fp) : RSf K G (less H fp) G H ρ σ fp :=
  ⟨⟨Same.refl _, less_sub, r.st.s, fun a h h' => absurd h h'⟩, r.own, r.g, fun a ha => less_in ha, r.d⟩
theorem RSf.base {K : PySem.W.Frag} {G0 H0 G H : Hp} {ρ : En} {σ : St} {fp : List Addr} (r : RSf K G0 H0 G H ρ σ fp) : Step G0 H0 G (less H fp) :=
  ⟨r.st.g, same_less r.st.h r.n, same_less r.st.s r.g, r.st.n⟩
theorem RS.under {K : PySem.W.Frag} {G0 H0 G1 H1 G H : Hp} {ρ : En} {σ : St} (e : Step G0 H0 G1 H1) (r : RS K G1 H1 G H ρ σ) : RS K G0 H0 G H ρ σ := by
  obtain ⟨fp, r⟩ := r
  exact ⟨fp, e.trans r.st, r.own, r.g, fun a ha => e.h.free (r.n a ha), r.d⟩
inductive Out where
  | nx (ρ : En)
  | rt (t : Tr)
def Post (K : PySem.W.Frag) (G0 H0 : Hp) (D : Ends) : Out → Prop
  | .nx ρ => ∀ σ G H, RS K G0 H0 G H ρ σ → D.nx σ H
  | .rt t => ∀ v G H fq, Step G0 H0 G H → Ow K G H t v fq → Nw H0 G fq → D.rt v H
theorem Post.under {K : PySem.W.Frag} {G0 H0 G1 H1 : Hp} {D : Ends} {o : Out} (e : Step G0 H0 G1 H1) (p : Post K G0 H0 D o) : Post K G1 H1 D o := by
  cases o with
  | nx ρ => exact fun σ G H r => p σ G H (r.under e)
  | rt t => exact fun v G H fq s o w => p v G H fq (e.trans s) o ⟨fun a ha => e.h.free (w.n a ha), w.g, w.d⟩
def Sm1 (K : PySem.W.Frag) (τ : TS) (ρ : En) (o : Out) : Prop := ∀ D σ G0 H0 G H, RS K G0 H0 G H ρ σ → Post K G0 H0 D o → τ D σ H
section
variable {ι : Type}
def Rn (F : Fam ι) (st : Stmt) (ρ : En) (o : Out) : Prop := ∃ τ : TS, (∀ i, PS (F.cx i) st τ) ∧ Sm1 F.K τ ρ o
def Rns (F : Fam ι) (sts : List Stmt) (ρ : En) (o : Out) : Prop := ∃ τ : TS, (∀ i, PSs (F.cx i) sts τ) ∧ Sm1 F.K τ ρ o
def EvS (F : Fam ι) (e : Expr) (ρ : En) (t : Tr) : Prop := ∃ τ : TE, (∀ i, PE (F.cx i) e τ) ∧ ∀ σ G H fp Q, Same G H → OwS F.K G H ρ σ fp → (∀ a ∈ fp, G a = none) → Kv F.K G H t Q → τ σ H Q
def EtS (F : Fam ι) (e : Expr) (ρ : En) (b : Bool) : Prop := ∃ τ : TT, (∀ i, PT (F.cx i) e τ) ∧ ∀ σ G H fp Q, Same G H → OwS F.K G H ρ σ fp → (∀ a ∈ fp, G a = none) → (∀ G' H', Step G H G' H' → Q b H') → τ σ H Q
variable {F : Fam ι} {e a b c : Expr} {es : List Expr} {ρ ρ1 : En} {t : Tr} {ts : List Tr} {pos : Pos} {o : Out} {st : Stmt} {sts A B : List Stmt}
theorem Ev.s (h : Ev F e ρ t) : EvS F e ρ t := let ⟨τ, x, y⟩ := h; ⟨τ, x, fun σ G H fp Q s r _ k => y σ G H Q s r.rpd k⟩
theorem Et.s {p : Bool} (h : Et F e ρ p) : EtS F e ρ p := let ⟨τ, x, y⟩ := h; ⟨τ, x, fun σ G H fp Q s r _ k => y σ G H Q s r.rpd k⟩
mutual
def Cl : Tr → Prop
  | .fz (.fl _) => True
  | .fz _ => False
  | .ow ts => Cls' ts
  | .tp ts => Cls' ts
def Cls' : List Tr → Prop
  | [] => True
  | t :: ts => Cl t ∧ Cls' ts
end
mutual
theorem Ow.cl {K : PySem.W.Frag} {G G' H : Hp} : ∀ {t : Tr} {v : V} {fp : List Addr}, Cl t → Ow K G H t v fp → Ow K G' H t v fp
  | .fz (.fl _), _, _, _, h => h
  | .fz (.lst _), _, _, c, _ => c.elim
  | .fz (.tup _), _, _, c, _ => c.elim
  | .ow _, _, _, c, ⟨b, vs, fq, h1, h2, h3, h4⟩ => ⟨b, vs, fq, h1, h2, OwL.cl c h3, h4⟩
  | .tp _, _, _, c, ⟨b, vs, fq, h1, h2, h3, h4⟩ => ⟨b, vs, fq, h1, h2, OwL.cl c h3, h4⟩
theorem OwL.cl {K : PySem.W.Frag} {G G' H : Hp} : ∀ {ts : List Tr} {vs : List V} {fp : List Addr}, Cls' ts → OwL K G H ts vs fp → OwL K G' H ts vs fp
  | [], _, _, _, h => h
  | _ :: _, _, _, ⟨c1, c2⟩, ⟨v, r, f1, f2, h1, h2, h3, h4⟩ => ⟨v, r, f1, f2, h1, h2, h3.cl c1, OwL.cl c2 h4⟩
end
theorem cl_ints : ∀ ns : List Int, Cls' (ns.map fun n => Tr.fz (di n))
  | [] => True.intro
  | _ :: ns => ⟨True.intro, cl_ints ns⟩
theorem Ev.pk (h : Ev F e (pk ρ) t) (c : Cl t) : EvS F e ρ t := by
  obtain ⟨τ, x, y⟩ := h
  refine ⟨τ, x, fun σ G H fp Q s r hg k => ?_⟩
  refine y σ (frzd G H fp) H Q (frzd_sub s) (r.pk (frzd_same hg) fun a ha => frzd_in ha) fun v G' H' fq st o w => ?_
  refine k v G H' fq ⟨Same.refl _, st.h, s.trans st.h, fun a h h' => absurd h h'⟩ (o.cl c) ⟨w.n, fun a ha => s.free (w.n a ha), w.d⟩
theorem Et.pk {p : Bool} (h : Et F e (pk ρ) p) : EtS F e ρ p := by
  obtain ⟨τ, x, y⟩ := h
  refine ⟨τ, x, fun σ G H fp Q s r hg k => ?_⟩
  refine y σ (frzd G H fp) H Q (frzd_sub s) (r.pk (frzd_same hg) fun a ha => frzd_in ha) fun G' H' st => ?_
  exact k G H' ⟨Same.refl _, st.h, s.trans st.h, fun a h h' => absurd h h'⟩
theorem rns_nil : Rns F [] ρ (.nx ρ) := ⟨tNext, fun _ => pss_nil, fun D σ G0 H0 G H r k => k σ G H r⟩
theorem rns_cons (h1 : Rn F st ρ (.nx ρ1)) (h2 : Rns F sts ρ1 o) : Rns F (st :: sts) ρ o := by
  obtain ⟨τ, x, y⟩ := h1
  obtain ⟨τ', x', y'⟩ := h2
  exact ⟨tSeq τ τ', fun i => pss_cons (x i) (x' i), fun D σ G0 H0 G H r k => y _ σ G0 H0 G H r fun σ1 G1 H1 r1 => y' D σ1 G0 H0 G1 H1 r1 k⟩
theorem rns_ret (h1 : Rn F st ρ (.rt t)) : Rns F (st :: sts) ρ (.rt t) := by
  obtain ⟨τ, x, y⟩ := h1
  exact ⟨tSeq τ tNever, fun i => pss_cons (x i) pss_never, fun D σ G0 H0 G H r k => y _ σ G0 H0 G H r k⟩
theorem rns_one (h1 : Rn F st ρ o) : Rns F [st] ρ o := by
  obtain ⟨τ, x, y⟩ := h1
  exact ⟨τ, fun i => pss_one (x i), y⟩
theorem rn_set (j : Nat) {x : Str} {pos' : Pos} (he : EvS F e ρ t) (hN : ∀ i, (F.cx i).N.Nodup) (hj : Nat.blt j ρ.length = true := by rfl) (hi : ∀ i, (F.cx i).N[j]? = some x := by intro _; rfl) (hx : ∀ i, Loc (F.cx i).env.scope x := by intro _; first | exact Or.inl rfl | exact Or.inr rfl)
    (hs : ∀ i, swapsWith e (some (.Name x pos')) pos.line (F.cx i).env = pure false := by intro _; rfl) (hf : ∀ i, (F.cx i).fn x = true ∨ (F.cx i).env.scope.names.lookup x = some .local := by intro _; first | exact .inl rfl | exact .inr rfl) :
    Rn F (.Assign [.Name x pos'] e pos) ρ (.nx (ρ.set j (some t))) := by
  obtain ⟨τ, y, z⟩ := he
  refine ⟨tAsg τ (gName j), fun i => ps_set (hN i) (hi i) (hx i) (y i) (hs i) (hf i), fun D σ G0 H0 G H r k => ?_⟩
  obtain ⟨fp, r⟩ := r
  exact z σ G H fp _ r.st.s r.own r.g fun v G1 H1 fq s1 o w => k _ G1 H1 (r.set (Nat.le_of_ble_eq_true hj) s1 o w)
theorem rn_ret (he : EvS F e ρ t) : Rn F (.Return (some e) pos) ρ (.rt t) := by
  obtain ⟨τ, y, z⟩ := he
  refine ⟨tRet τ, fun i => ps_ret (y i), fun D σ G0 H0 G H r k => ?_⟩
  obtain ⟨fp, r⟩ := r
  exact z σ G H fp _ r.st.s r.own r.g fun v G1 H1 fq s1 o w => k v G1 H1 fq (r.st.trans s1) o ⟨fun a ha => r.st.h.free (w.n a ha), w.g, w.d⟩
theorem rn_retO (j : Nat) {x : Str} {p' : Pos} (h : ρ[j]? = some (some t)) (hN : ∀ i, (F.cx i).N[j]? = some x := by intro _; rfl)
    (hv : ∀ i, Vis (F.cx i).env.scope x := by intro _; first | exact Or.inl rfl | exact Or.inr (Or.inl rfl) | exact Or.inr (Or.inr rfl)) (hd : (x == ("__debug__" : Str)) = false := by decide) (hc : (x == ("__classdict__" : Str)) = false := by decide) : Rn F (.Return (some (.Name x p')) pos) ρ (.rt t) := by
  refine ⟨tRet (tVar j), fun i => ps_ret (pe_var (hN i) (hv i) hd hc), fun D σ G0 H0 G H r k => ?_⟩
  obtain ⟨fp, r⟩ := r
  obtain ⟨v, f, fr, q1, q2, q3, q4⟩ := r.own.split h
  have sub : ∀ a ∈ f, a ∈ fp := fun a ha => q4.mem_iff.mpr (List.mem_append_left _ ha)
  exact ⟨v, q1, k v G H f r.st q2 ⟨fun a ha => r.n a (sub a ha), fun a ha => r.g a (sub a ha), (List.nodup_append.mp (q4.nodup_iff.mp r.d)).1⟩⟩
theorem rn_expr (he : EvS F e ρ t) (hs : ∀ i, swapsWith e none pos.line (F.cx i).env = pure false := by intro _; rfl) : Rn F (.Expr e pos) ρ (.nx ρ) := by
  obtain ⟨τ, y, z⟩ := he
  refine ⟨tDrop τ, fun i => ps_expr (y i) (hs i), fun D σ G0 H0 G H r k => ?_⟩
  obtain ⟨fp, r⟩ := r
  refine z σ G H fp _ r.st.s r.own r.g fun v G1 H1 fq s1 o w => k σ G1 H1 ⟨fp, r.st.trans s1, r.own.mono s1.g s1.h, r.own.off s1 r.g, r.n, r.d⟩
theorem rn_if {p : Bool} (hc : EtS F c ρ p) (h1 : p = true → Rns F A ρ o) (h2 : p = false → Rns F B ρ o) : Rn F (.If c A B pos) ρ o := by
  obtain ⟨τ, y, z⟩ := hc
  have key : ∀ {G0 H0 G H G1 H1 : Hp} {σ : St} {fp : List Addr}, RSf F.K G0 H0 G H ρ σ fp → Step G H G1 H1 → RS F.K G0 H0 G1 H1 ρ σ := fun {G0 H0 G H G1 H1 σ fp} r s1 => ⟨fp, r.st.trans s1, r.own.mono s1.g s1.h, r.own.off s1 r.g, r.n, r.d⟩
  cases p with
  | true =>
    obtain ⟨τ', x', y'⟩ := h1 rfl
    refine ⟨tIfS τ τ' tNever, fun i => ps_if (y i) (x' i) pss_never, fun D σ G0 H0 G H r k => ?_⟩
    obtain ⟨fp, r⟩ := r
    exact z σ G H fp _ r.st.s r.own r.g fun G1 H1 s1 => iteT (y' D σ G0 H0 G1 H1 (key r s1) k)
  | false =>
    obtain ⟨τ', x', y'⟩ := h2 rfl
    refine ⟨tIfS τ tNever τ', fun i => ps_if (y i) pss_never (x' i), fun D σ G0 H0 G H r k => ?_⟩
    obtain ⟨fp, r⟩ := r
    exact z σ G H fp _ r.st.s r.own r.g fun G1 H1 s1 => iteF (y' D σ G0 H0 G1 H1 (key r s1) k)
theorem set_self {α : Type} : ∀ {l : List α} {j : Nat} {v : α}, l[j]? = some v → l.set j v = l
  | _ :: _, 0, _, h => by cases h; rfl
  | _ :: _, j + 1, _, h => by rw [List.set_cons_succ, set_self (l := _) (j := j) h]
theorem rns_freeze (j : Nat) (hj : ρ[j]? = some (some t)) (h : Rns F sts (ρ.set j (some (.fz (er t)))) o) : Rns F sts ρ o := by
  obtain ⟨τ, x, y⟩ := h
  refine ⟨τ, x, fun D σ G0 H0 G H r k => ?_⟩
  obtain ⟨fp, r⟩ := r
  obtain ⟨v, f, fr, q1, q2, q3, q4⟩ := r.own.split hj
  have nd := List.nodup_append.mp (q4.nodup_iff.mp r.d)
  have sub : ∀ a ∈ f, a ∈ fp := fun a ha => q4.mem_iff.mpr (List.mem_append_left _ ha)
  have sub' : ∀ a ∈ fr, a ∈ fp := fun a ha => q4.mem_iff.mpr (List.mem_append_right _ ha)
  have sm : Same G (frzd G H f) := frzd_same fun a ha => r.g a (sub a ha)
  have lt : j < ρ.length := by
    rcases Nat.lt_or_ge j ρ.length with z | z
    · exact z
    · rw [List.getElem?_eq_none z] at hj; cases hj
  obtain ⟨fp', p1, p2⟩ := (q3.mono sm (Same.refl _)).put (f := []) (t := .fz (er t)) (get_set_none lt) ⟨rfl, q2.hv sm fun a ha => frzd_in ha⟩
  rw [List.set_set, set_self q1] at p1
  refine y D σ G0 H0 (frzd G H f) H ⟨fp', ⟨r.st.g.trans sm, r.st.h, frzd_sub r.st.s, fun a h h' => ?_⟩, p1, fun a ha => ?_, fun a ha => r.n a (sub' a (p2.mem_iff.mp ha)), p2.nodup_iff.mpr nd.2.1⟩ k
  · by_cases z : a ∈ f
    · exact r.n a (sub a z)
    · rw [frzd_out z] at h'; exact r.st.n a h h'
  · have z := p2.mem_iff.mp ha
    rw [frzd_out fun z' => nd.2.2 a z' a z rfl]
    exact r.g a (sub' a z)
theorem RSf.chg {K : PySem.W.Frag} {G0 H0 G H G1 H1 : Hp} {ρ : En} {σ : St} {fp : List Addr} {j : Nat} {t : Tr} (r : RSf K G0 H0 G H ρ σ fp) (hj : ρ[j]? = some (some t)) (s1 : Step G H G1 H1) :
    ∃ v f, σ[j]? = some (some v) ∧ Ow K G H t v f ∧ Ow K G1 H1 t v f ∧ f.Nodup ∧ (∀ a ∈ f, a ∈ fp) ∧ ∀ l o t' f', l ∈ f → Ow K G1 (upd H1 l o) t' v f' → f'.Nodup → (∀ a ∈ f', a ∈ f ∨ (H a = none ∧ G1 a = none)) → RS K G0 H0 G1 (upd H1 l o) (ρ.set j (some t')) σ := by
  obtain ⟨v, f, fr, q1, q2, q3, q4⟩ := r.own.split hj
  have nda := List.nodup_append.mp (q4.nodup_iff.mp r.d)
  have qfp : ∀ a ∈ f, a ∈ fp := fun a ha => q4.mem_iff.mpr (List.mem_append_left _ ha)
  have rfp : ∀ a ∈ fr, a ∈ fp := fun a ha => q4.mem_iff.mpr (List.mem_append_right _ ha)
  have lt : j < ρ.length := by
    rcases Nat.lt_or_ge j ρ.length with z | z
    · exact z
    · rw [List.getElem?_eq_none z] at hj; cases hj
  have lG : ∀ a ∈ fp, G1 a = none := fun a ha => by
    cases q : G1 a with
    | none => rfl
    | some u =>
      obtain ⟨u', hu'⟩ := r.own.there a ha
      have := s1.n a (r.g a ha) (by rw [q]; exact fun z => nomatch z)
      rw [hu'] at this; cases this
  refine ⟨v, f, q1, q2, q2.mono s1.g s1.h, nda.1, qfp, fun l o t' f' hl ow nw hw => ?_⟩
  have new : ∀ a, H a = none → a ∉ fp := fun a ha hb => by
    obtain ⟨u, hu⟩ := r.own.there a hb
    rw [ha] at hu; cases hu
  have q3' : OwS K G1 (upd H1 l o) (ρ.set j none) σ fr := (q3.mono s1.g s1.h).frame fun z => nda.2.2 l hl l z rfl
  obtain ⟨fp', p1', p2'⟩ := q3'.put (get_set_none lt) ow
  rw [List.set_set, set_self q1] at p1'
  have memf : ∀ a ∈ fp', a ∈ fp ∨ (H a = none ∧ G1 a = none) := fun a ha => by
    rcases List.mem_append.mp (p2'.mem_iff.mp ha) with z | z
    · exact (hw a z).imp (qfp a) id
    · exact .inl (rfp a z)
  refine ⟨fp', ⟨(r.st.trans s1).g, fun b u hb => ?_, fun b u hb => ?_, (r.st.trans s1).n⟩, p1', fun a ha => ?_, fun a ha => ?_, ?_⟩
  · have hb1 := (r.st.trans s1).h b u hb
    rw [upd_ne fun z => ?_]
    · exact hb1
    · subst z; rw [r.n _ (qfp _ hl)] at hb; cases hb
  · have hb1 := s1.s b u hb
    rw [upd_ne fun z => ?_]
    · exact hb1
    · subst z; rw [lG _ (qfp _ hl)] at hb; cases hb
  · exact (memf a ha).elim (lG a) fun z => z.2
  · exact (memf a ha).elim (r.n a) fun z => r.st.h.free z.1
  · refine p2'.nodup_iff.mpr (List.nodup_append.mpr ⟨nw, nda.2.1, fun a ha b hb z => ?_⟩)
    subst z
    rcases hw a ha with z | z
    · exact nda.2.2 a z a hb rfl
    · exact new a z.1 (rfp a hb)
theorem RSf.mut {K : PySem.W.Frag} {G0 H0 G H G1 H1 : Hp} {ρ : En} {σ : St} {fp : List Addr} {j : Nat} {us : List Tr} (r : RSf K G0 H0 G H ρ σ fp) (hj : ρ[j]? = some (some (.ow us))) (s1 : Step G H G1 H1) :
    ∃ l vs fq, σ[j]? = some (some (.ref l)) ∧ H l = some (.lst vs) ∧ H1 l = some (.lst vs) ∧ OwL K G1 H1 us vs fq ∧ fq.Nodup ∧ (∀ a ∈ fq, a ∈ fp) ∧ ∀ us' ws fw, OwL K G1 H1 us' ws fw → fw.Nodup → (∀ a ∈ fw, a ∈ fq ∨ (H a = none ∧ G1 a = none)) → RS K G0 H0 G1 (upd H1 l (.lst ws)) (ρ.set j (some (.ow us'))) σ := by
  obtain ⟨v, f, q1, q2, q3, nd, qfp, q⟩ := r.chg hj s1
  obtain ⟨l, vs, fq, rfl, hl, ol, rfl⟩ := q3
  obtain ⟨l', vs', fq', e1, hl', _, e2⟩ := q2
  cases e1
  have ev : vs' = vs := by
    have := s1.h _ _ hl'
    rw [hl] at this
    cases this; rfl
  subst ev
  have ndl := List.nodup_cons.mp nd
  refine ⟨l, vs', fq, q1, hl', hl, ol, ndl.2, fun a ha => qfp a (.tail _ ha), fun us' ws fw ow nw hw => ?_⟩
  have lfw : l ∉ fw := fun z => (hw l z).elim ndl.1 fun z => by rw [z.1] at hl'; cases hl'
  exact q l (.lst ws) (.ow us') (l :: fw) (.head _) ⟨l, ws, fw, rfl, upd_same, ow.frame lfw, rfl⟩ (List.nodup_cons.mpr ⟨lfw, nw⟩) fun a ha => (List.mem_cons.mp ha).elim (fun z => .inl (z ▸ .head _)) fun z => (hw a z).imp (fun z => .tail _ z) id
theorem rn_append (j : Nat) {x : Str} {us : List Tr} {p1 p2 p3 : Pos} (h : ρ[j]? = some (some (.ow us))) (he : EvS F e ρ t) (hz : us.length < sizeLine) (hN : ∀ i, (F.cx i).N[j]? = some x := by intro _; rfl)
    (hv : ∀ i, Vis (F.cx i).env.scope x := by intro _; first | exact Or.inl rfl | exact Or.inr (Or.inl rfl) | exact Or.inr (Or.inr rfl)) (hd : (x == ("__debug__" : Str)) = false := by decide) (hc : (x == ("__classdict__" : Str)) = false := by decide)
    (hbase : ∀ i, attributeBase (.Name x p1) "append" (F.cx i).env (eval (.Name x p1) (F.cx i).env) = eval (.Name x p1) (F.cx i).env := by intro _; rfl)
    (hfew : ∀ i, ((backTo p3 (starEach [e] (F.cx i).env)).all (fun x => !x.1) && (backToKw p3 (keywordEach [] (F.cx i).env)).all (fun x => x.1.isSome) && decide (([e] : List Expr).length + ([] : List Keyword).length + (if ([] : List Keyword).isEmpty then 0 else 1) < 30)) = true := by intro _; rfl)
    (hline : (p2.endLine == p3.line) = true := by rfl) (hs : ∀ i, starEach [e] (F.cx i).env = [(false, eval e (F.cx i).env)] := by intro _; rfl) (hsw : ∀ i, swapsWith (.Call (.Attribute (.Name x p1) "append" p2) [e] [] p3) none pos.line (F.cx i).env = pure false := by intro _; rfl) :
    Rn F (.Expr (.Call (.Attribute (.Name x p1) "append" p2) [e] [] p3) pos) ρ (.nx (ρ.set j (some (.ow (us ++ [t]))))) := by
  obtain ⟨τ, y, z⟩ := he
  refine ⟨tDrop (tBM F.K "list" rAppend (tVar j) (tCons τ tNil)), fun i => ps_expr (F.hK i ▸ pe_bm PySem.F.plainAttrs_list PySem.F.slot_list_append PySem.F.type_list_append mt_append (pe_var (hN i) (hv i) hd hc) (pa_cons (y i) pa_nil (hs i)) (hbase i) (hfew i) hline (hs i) rfl) (hsw i), fun D σ G0 H0 G H r k => ?_⟩
  obtain ⟨fp, r⟩ := r
  obtain ⟨l0, vs0, fq0, c1, c2, _⟩ := r.mut h (.refl r.st.s)
  refine ⟨_, c1, .inl ⟨rfl, _, SqL.of c2⟩, ?_⟩
  refine z σ G H fp _ r.st.s r.own r.g fun v1 G1 H1 f1 s1 o1 w1 => ?_
  obtain ⟨l, vs, fq, d1, d2, d3, d4, d5, d6, d7⟩ := r.mut h s1
  rw [c1] at d1
  cases d1
  refine ⟨l0, vs, v1, rfl, rfl, d3, by rw [← d4.length]; exact hz, k σ G1 _ (d7 (us ++ [t]) (vs ++ [v1]) (fq ++ (f1 ++ [])) (d4.append ⟨v1, [], f1, [], rfl, rfl, o1, rfl, rfl⟩) ?_ fun a ha => ?_)⟩
  · rw [List.append_nil]
    refine List.nodup_append.mpr ⟨d5, w1.d, fun a ha b hb e => ?_⟩
    subst e
    obtain ⟨u, hu⟩ := r.own.there a (d6 a ha)
    rw [w1.n a hb] at hu; cases hu
  · rw [List.append_nil] at ha
    exact (List.mem_append.mp ha).imp id fun z => ⟨w1.n a z, w1.g a z⟩
theorem rn_extend (j : Nat) {x : Str} {us : List Tr} {p1 p2 p3 : Pos} (h : ρ[j]? = some (some (.ow us))) {vs' : List Tr} (he : EvS F e ρ (.ow vs')) (hz : us.length + vs'.length ≤ sizeLine) (hN : ∀ i, (F.cx i).N[j]? = some x := by intro _; rfl)
    (hv : ∀ i, Vis (F.cx i).env.scope x := by intro _; first | exact Or.inl rfl | exact Or.inr (Or.inl rfl) | exact Or.inr (Or.inr rfl)) (hd : (x == ("__debug__" : Str)) = false := by decide) (hc : (x == ("__classdict__" : Str)) = false := by decide)
    (hbase : ∀ i, attributeBase (.Name x p1) "extend" (F.cx i).env (eval (.Name x p1) (F.cx i).env) = eval (.Name x p1) (F.cx i).env := by intro _; rfl)
    (hfew : ∀ i, ((backTo p3 (starEach [e] (F.cx i).env)).all (fun x => !x.1) && (backToKw p3 (keywordEach [] (F.cx i).env)).all (fun x => x.1.isSome) && decide (([e] : List Expr).length + ([] : List Keyword).length + (if ([] : List Keyword).isEmpty then 0 else 1) < 30)) = true := by intro _; rfl)
    (hline : (p2.endLine == p3.line) = true := by rfl) (hs : ∀ i, starEach [e] (F.cx i).env = [(false, eval e (F.cx i).env)] := by intro _; rfl) (hsw : ∀ i, swapsWith (.Call (.Attribute (.Name x p1) "extend" p2) [e] [] p3) none pos.line (F.cx i).env = pure false := by intro _; rfl) :
    Rn F (.Expr (.Call (.Attribute (.Name x p1) "extend" p2) [e] [] p3) pos) ρ (.nx (ρ.set j (some (.ow (us ++ vs'))))) := by
  obtain ⟨τ, y, z⟩ := he
  refine ⟨tDrop (tBM F.K "list" rExtend (tVar j) (tCons τ tNil)), fun i => ps_expr (F.hK i ▸ pe_bm PySem.F.plainAttrs_list PySem.F.slot_list_extend PySem.F.type_list_extend mt_extend (pe_var (hN i) (hv i) hd hc) (pa_cons (y i) pa_nil (hs i)) (hbase i) (hfew i) hline (hs i) rfl) (hsw i), fun D σ G0 H0 G H r k => ?_⟩
  obtain ⟨fp, r⟩ := r
  obtain ⟨l0, vs0, fq0, c1, c2, _⟩ := r.mut h (.refl r.st.s)
  refine ⟨_, c1, .inl ⟨rfl, _, SqL.of c2⟩, ?_⟩
  refine z σ G H fp _ r.st.s r.own r.g fun v1 G1 H1 f1 s1 o1 w1 => ?_
  obtain ⟨l, vs, fq, d1, d2, d3, d4, d5, d6, d7⟩ := r.mut h s1
  rw [c1] at d1
  cases d1
  obtain ⟨b, zs, fz', rfl, hb, ob, rfl⟩ := o1
  have wd := List.nodup_cons.mp w1.d
  refine ⟨l0, b, vs, zs, rfl, rfl, d3, hb, by rw [← d4.length, ← ob.length]; exact hz, k σ G1 _ (d7 (us ++ vs') (vs ++ zs) (fq ++ fz') (d4.append ob) ?_ fun a ha => ?_)⟩
  · refine List.nodup_append.mpr ⟨d5, wd.2, fun a ha b hb e => ?_⟩
    subst e
    obtain ⟨u, hu⟩ := r.own.there a (d6 a ha)
    rw [w1.n a (.tail _ hb)] at hu; cases hu
  · exact (List.mem_append.mp ha).imp id fun z => ⟨w1.n a (.tail _ z), w1.g a (.tail _ z)⟩
end
end L2
namespace L2
open PySem PySem.Spec PyProof.Rows
def ItD (K : PySem.W.Frag) (G : Hp) (J : It) (its : List Dv) : Prop := ∀ k G1 H1, Same G G1 → Same G1 H1 →
  (∀ d, its[k]? = some d → J.go k H1 ∧ ∀ x H3, J.yld k H1 x H3 → ∃ G3, Step G1 H1 G3 H3 ∧ Hv K G3 d x) ∧ (k = its.length → J.stop k H1)
def setAll {α : Type} : List Nat → List α → List (Option α) → List (Option α)
  | j :: js, v :: vs, σ => setAll js vs (σ.set j (some v))
  | _, _, σ => σ
def dropAll {α : Type} : List Nat → List (Option α) → List (Option α)
  | [], ρ => ρ
  | j :: js, ρ => dropAll js (ρ.set j none)
theorem RS.dropAll {K : PySem.W.Frag} {G0 H0 G H : Hp} : ∀ {ρ : En} {σ : St} (js : List Nat), RS K G0 H0 G H ρ σ → RS K G0 H0 G H (L2.dropAll js ρ) σ
  | _, _, [], r => r
  | _, _, j :: js, r => RS.dropAll js (r.forget j)
def Fg (ρ ρ' : En) : Prop := ∃ fs, L2.dropAll fs ρ = ρ'
theorem Fg.rs {K : PySem.W.Frag} {G0 H0 G H : Hp} {ρ ρ' : En} {σ : St} (f : Fg ρ ρ') (r : RS K G0 H0 G H ρ σ) : RS K G0 H0 G H ρ' σ := by
  obtain ⟨fs, rfl⟩ := f
  exact r.dropAll fs
theorem RS.setAll {K : PySem.W.Frag} {G0 H0 G H : Hp} : ∀ {js : List Nat} {ds : List Dv} {vs : List V} {ρ : En} {σ : St}, (∀ j ∈ js, j < ρ.length) → HvL K G ds vs → RS K G0 H0 G H ρ σ → RS K G0 H0 G H (L2.setAll js (ds.map .fz) ρ) (L2.setAll js vs σ)
  | [], _, _, _, _, _, _, r => r
  | _ :: _, [], _, _, _, _, h, r => by rw [show _ = [] from h]; exact r
  | j :: js, d :: ds, _, ρ, σ, hj, ⟨x, q, h1, h2, h3⟩, ⟨fp, r⟩ => by
    subst h1
    have r' : RS K G0 H0 G H (ρ.set j (some (.fz d))) (σ.set j (some x)) := r.set (t := .fz d) (v := x) (fq := []) (hj j (.head _)) (.refl r.st.s) ⟨rfl, h2⟩ .nil
    exact RS.setAll (js := js) (ds := ds) (fun i hi => by rw [List.length_set]; exact hj i (.tail _ hi)) h3 r'
theorem RpD.set {K : PySem.W.Frag} {G : Hp} {ρ : En} {σ : St} {j : Nat} {d : Dv} {v : V} (r : RpD K G ρ σ) (hj : j < σ.length) (h : Hv K G d v) : RpD K G (ρ.set j (some (.fz d))) (σ.set j (some v)) := fun i e hi => by
  by_cases q : i = j
  · subst q
    rw [List.getElem?_set_self (by
      rcases Nat.lt_or_ge i ρ.length with z | z
      · exact z
      · rw [List.getElem?_eq_none (by rw [List.length_set]; exact z)] at hi; cases hi)] at hi
    cases hi
    exact ⟨v, by rw [List.getElem?_set_self hj], h⟩
  · rw [List.getElem?_set_ne (Ne.symm q)] at hi
    obtain ⟨u, h1, h2⟩ := r i e hi
    exact ⟨u, by rw [List.getElem?_set_ne (Ne.symm q)]; exact h1, h2⟩
theorem setAll_len {α : Type} : ∀ (js : List Nat) (vs : List α) (σ : List (Option α)), (setAll js vs σ).length = σ.length
  | [], _, _ => rfl
  | _ :: _, [], _ => rfl
  | j :: js, v :: vs, σ => by
    show (setAll js vs (σ.set j (some v))).length = _
    rw [setAll_len js vs, List.length_set]
theorem RpD.setAll {K : PySem.W.Frag} {G : Hp} : ∀ {js : List Nat} {ds : List Dv} {vs : List V} {ρ : En} {σ : St}, (∀ j ∈ js, j < σ.length) → HvL K G ds vs → RpD K G ρ σ → RpD K G (L2.setAll js (ds.map .fz) ρ) (L2.setAll js vs σ)
  | [], _, _, _, _, _, _, r => r
  | _ :: _, [], _, _, _, _, h, r => by rw [show _ = [] from h]; exact r
  | j :: js, d :: ds, _, ρ, σ, hj, ⟨x, q, h1, h2, h3⟩, r => by
    subst h1
    exact RpD.setAll (js := js) (ds := ds) (ρ := ρ.set j (some (.fz d))) (fun i hi => by rw [List.length_set]; exact hj i (.tail _ hi)) h3 (r.set (hj j (.head _)) h2)
section
variable {ι : Type}
def EvI (F : Fam ι) (tg iter : Expr) (ρ : En) (its : List Dv) : Prop := ∃ wi : TI, (∀ i, PI (F.cx i) tg iter wi) ∧ ∀ σ G H (R : It → Hp → Prop), Same G H → RpD F.K G ρ σ → (∀ J G' H', Step G H G' H' → ItD F.K G' J its → R J H') → wi σ H R
def EvIS (F : Fam ι) (tg iter : Expr) (ρ : En) (its : List Dv) : Prop := ∃ wi : TI, (∀ i, PI (F.cx i) tg iter wi) ∧ ∀ σ G H fp (R : It → Hp → Prop), Same G H → OwS F.K G H ρ σ fp → (∀ a ∈ fp, G a = none) → (∀ J G' H', Step G H G' H' → ItD F.K G' J its → R J H') → wi σ H R
def EvG (F : Fam ι) (tg : Expr) (js : List Nat) (sp : Dv → Option (List Dv)) : Prop := ∃ g : TG, (∀ i, PG (F.cx i) tg g) ∧ ∀ d dd v σ G H Q, sp d = some dd → Same G H → Hv F.K G d v → (∀ vs, HvL F.K G dd vs → Q (setAll js vs σ) H) → g v σ H Q
def uS (F : Fam ι) (sts : List Stmt) : TS := fun D σ H => ∃ τ : TS, (∀ i, PSs (F.cx i) sts τ) ∧ τ D σ H
theorem uS_ok {F : Fam ι} {sts : List Stmt} (i : ι) : PSs (F.cx i) sts (uS F sts) := fun pins s σ H D I ⟨τ, h, q⟩ => h i pins s σ H D I q
def uT (F : Fam ι) (e : Expr) : TT := fun σ H Q => ∃ τ : TT, (∀ i, PT (F.cx i) e τ) ∧ τ σ H Q
theorem uT_ok {F : Fam ι} {e : Expr} (i : ι) : PT (F.cx i) e (uT F e) := fun pins s σ H D I ⟨τ, h, q⟩ => h i pins s σ H D I q
def uE (F : Fam ι) (e : Expr) : TE := fun σ H Q => ∃ τ : TE, (∀ i, PE (F.cx i) e τ) ∧ τ σ H Q
theorem uE_ok {F : Fam ι} {e : Expr} (i : ι) : PE (F.cx i) e (uE F e) := fun pins s σ H D I ⟨τ, h, q⟩ => h i pins s σ H D I q
variable {F : Fam ι} {e a b c tg iter elt : Expr} {es : List Expr} {ρ ρ1 : En} {t ta : Tr} {ts : List Tr} {pos : Pos} {o : Out} {body : List Stmt} {its : List Dv} {js : List Nat} {sp : Dv → Option (List Dv)}
theorem EvI.s (h : EvI F tg iter ρ its) : EvIS F tg iter ρ its := let ⟨w, x, y⟩ := h; ⟨w, x, fun σ G H fp R s r _ k => y σ G H R s r.rpd k⟩
theorem evg_nm (j : Nat) {x : Str} (hN : ∀ i, (F.cx i).N.Nodup) (hi : ∀ i, (F.cx i).N[j]? = some x := by intro _; rfl) (hx : ∀ i, Loc (F.cx i).env.scope x := by intro _; first | exact Or.inl rfl | exact Or.inr rfl)
    (hf : ∀ i, (F.cx i).fn x = true ∨ (F.cx i).env.scope.names.lookup x = some .local := by intro _; first | exact .inl rfl | exact .inr rfl) : EvG F (.Name x pos) [j] (fun d => some [d]) :=
  ⟨gName j, fun i => pg_name (hN i) (hi i) (hx i) (hf i), fun d dd v σ G H Q e s h k => by
    cases e
    exact k [v] ⟨v, [], rfl, h, rfl⟩⟩
def tupOf (n : Nat) : Dv → Option (List Dv)
  | .tup ds => if ds.length = n then some ds else none
  | _ => none
theorem evi_list {xs : List Dv} (ha : Ev F e ρ ta) (ea : er ta = .lst xs) : EvI F tg e ρ xs := by
  obtain ⟨τ, p, q⟩ := ha.use
  refine ⟨iList F.K τ, fun i => F.hK i ▸ pi_list (p i), fun σ G H R s r k => q σ G H _ s r fun x G1 H1 s1 hx => ?_⟩
  rw [ea] at hx
  obtain ⟨l, vs, rfl, h1, h2⟩ := hx
  refine ⟨l, rfl, ⟨vs, s1.s.seq h1⟩, k _ G1 H1 s1 fun j G2 H2 sg sh => ⟨fun d hd => ?_, fun hz => ⟨vs, (sg.trans sh).seq h1, by rw [← h2.length, hz]; exact Nat.le_refl _⟩⟩⟩
  obtain ⟨v, q1, q2⟩ := h2.get hd
  refine ⟨⟨vs, v, (sg.trans sh).seq h1, q1⟩, ?_⟩
  rintro x H3 ⟨rfl, hx⟩
  have := hx vs ((sg.trans sh).seq h1)
  rw [q1] at this
  cases this
  exact ⟨G2, .refl sh, q2.mono sg⟩
abbrev rngD (lo : Int) (n : Nat) : List Dv := (List.range n).map fun k => di (lo + (k : Nat))
theorem itd_rng {K : PySem.W.Frag} {G : Hp} (lo : Int) (n : Nat) : ItD K G (Itr lo n) (rngD lo n) := fun k G1 H1 sg sh => by
  refine ⟨fun d hd => ?_, fun hz => by show n ≤ k; rw [hz]; simp⟩
  rw [List.getElem?_map] at hd
  rcases Nat.lt_or_ge k n with hk | hk
  · rw [List.getElem?_range hk] at hd
    cases hd
    refine ⟨hk, ?_⟩
    rintro x H3 ⟨rfl, rfl⟩
    exact ⟨G1, .refl sh, rfl, rfl⟩
  · rw [List.getElem?_eq_none (by simpa using hk)] at hd; cases hd
theorem evi_range1 {n : Int} (hm : F.mg "range" = none) (ha : Ev F a ρ (ti n)) (hb : -(2 ^ 62) ≤ n ∧ n < 2 ^ 62) {p : Pos} (hg : ∀ i, Gl (F.cx i) "range" := by intro _; rfl) (hs : ∀ i, starEach [a] (F.cx i).env = [(false, eval a (F.cx i).env)] := by intro _; rfl) : EvI F tg (.Call (.Name "range" p) [a] [] pos) ρ (rngD 0 n.toNat) := by
  obtain ⟨τ, p, q⟩ := ha.use
  refine ⟨iRng1 (tCons τ tNil), fun i => pi_range1 (hg i) ((F.hm i).symm ▸ hm) (pa_cons (p i) pa_nil (hs i)) (hs i), fun σ G H R s r k => q σ G H _ s r fun x G1 H1 s1 hx => ?_⟩
  exact ⟨n, by rw [hvi hx], hb.1, hb.2, k _ G1 H1 s1 (itd_rng 0 n.toNat)⟩
theorem blts {js : List Nat} {n : Nat} (h : js.all (fun j => Nat.blt j n) = true) : ∀ j ∈ js, j < n := fun j hj => Nat.le_of_ble_eq_true (List.all_eq_true.mp h j hj)
theorem pOwn {i : ι} (hx : (F.cx i).xe = NoX) : PassesOwn (model (F.cx i).prog (F.cx i).w) (F.cx i).A (F.cx i).env (F.cx i).xe := by rw [hx]; exact PassesOwn.never
theorem rn_for_gen (hi : EvIS F tg iter ρ its) (hg : EvG F tg js sp) (inv : Nat → En) (m : Nat) (hm : m ≤ its.length) (h0 : inv 0 = ρ) (hlen : ∀ k, js.all (fun j => Nat.blt j (inv k).length) = true)
    (step : ∀ k d, k < m → its[k]? = some d → ∃ dd ρb, sp d = some dd ∧ Rns F body (setAll js (dd.map .fz) (inv k)) (.nx ρb) ∧ Fg ρb (inv (k + 1)))
    (fin : (m = its.length ∧ o = .nx (inv m)) ∨ ∃ d dd t, its[m]? = some d ∧ sp d = some dd ∧ Rns F body (setAll js (dd.map .fz) (inv m)) (.rt t) ∧ o = .rt t)
    (hx : ∀ i, (F.cx i).xe = NoX := by intro _; rfl) (hs : ∀ i x, foldedSetIterable iter (F.cx i).env x = pure x := by intro _ _; rfl) : Rn F (.For tg iter body [] pos) ρ o := by
  obtain ⟨wi, p, q⟩ := hi
  obtain ⟨g, pg, qg⟩ := hg
  subst h0
  refine ⟨tFor wi g (uS F body), fun i => ps_for (pOwn (hx i)) (F.calm i) (p i) (pg i) (uS_ok i) (hs i), fun D σ G0 H0 G H r k => ?_⟩
  obtain ⟨fp, r⟩ := r
  refine q σ G H fp _ r.st.s r.own r.g fun J G1 H1 s1 it => ?_
  have r1 : RSf F.K G0 H0 G1 H1 (inv 0) σ fp := ⟨r.st.trans s1, r.own.mono s1.g s1.h, r.own.off s1 r.g, r.n, r.d⟩
  have kb := k.under r1.base
  refine ⟨fun k m' σ' H' => m' = its.length - k ∧ k ≤ m ∧ ∃ G', RS F.K G1 (less H1 fp) G' H' (inv k) σ', ⟨_, rfl, Nat.zero_le _, G1, fp, r1.rebase⟩, ?_⟩
  rintro n m' σ' H' ⟨rfl, hn, G', r'⟩
  obtain ⟨fp', r'⟩ := r'
  obtain ⟨i1, i2⟩ := it n G' H' r'.st.g r'.st.s
  by_cases hlt : n < m
  · have hd : its[n]? = some its[n] := List.getElem?_eq_getElem (by omega)
    obtain ⟨j1, j2⟩ := i1 _ hd
    refine .inr ⟨j1, fun σ2 H2 => ∃ G2, RS F.K G1 (less H1 fp) G2 H2 (inv (n + 1)) σ2, fun σ2 H2 z => ⟨its.length - (n + 1), by omega, rfl, hlt, z⟩, fun x H3 y => ?_⟩
    obtain ⟨G3, s3, h3⟩ := j2 x H3 y
    obtain ⟨dd, ρb, e1, ⟨τ, pb, qb⟩, e2⟩ := step n _ hlt hd
    refine qg _ dd x σ' G3 H3 _ e1 s3.s h3 fun vs hvs => ⟨τ, pb, qb _ _ G1 (less H1 fp) G3 H3 (RS.setAll (blts (hlen n)) hvs ⟨fp', r'.st.trans s3, r'.own.mono s3.g s3.h, fun a ha => ?_, r'.n, r'.d⟩) fun σ4 G4 H4 r4 => ⟨G4, e2.rs r4⟩⟩
    cases q : G3 a with
    | none => rfl
    | some u =>
      obtain ⟨u', hu'⟩ := r'.own.there a ha
      have := s3.n a (r'.g a ha) (by rw [q]; exact fun z => nomatch z)
      rw [hu'] at this; cases this
  · have en : n = m := by omega
    subst en
    rcases fin with ⟨e, rfl⟩ | ⟨d, dd, t, hd, e1, ⟨τ, pb, qb⟩, rfl⟩
    · refine .inl ⟨i2 e, kb σ' G' H' ⟨fp', r'⟩⟩
    · obtain ⟨j1, j2⟩ := i1 d hd
      refine .inr ⟨j1, fun _ _ => False, fun _ _ z => z.elim, fun x H3 y => ?_⟩
      obtain ⟨G3, s3, h3⟩ := j2 x H3 y
      refine qg d dd x σ' G3 H3 _ e1 s3.s h3 fun vs hvs => ⟨τ, pb, qb _ _ G1 (less H1 fp) G3 H3 (RS.setAll (blts (hlen n)) hvs ⟨fp', r'.st.trans s3, r'.own.mono s3.g s3.h, fun a ha => ?_, r'.n, r'.d⟩) kb⟩
      cases q : G3 a with
      | none => rfl
      | some u =>
        obtain ⟨u', hu'⟩ := r'.own.there a ha
        have := s3.n a (r'.g a ha) (by rw [q]; exact fun z => nomatch z)
        rw [hu'] at this; cases this
theorem rn_for (hi : EvIS F tg iter ρ its) (hg : EvG F tg js sp) (inv : Nat → En) (h0 : inv 0 = ρ) (hlen : ∀ k, js.all (fun j => Nat.blt j (inv k).length) = true)
    (step : ∀ k d, its[k]? = some d → ∃ dd ρb, sp d = some dd ∧ Rns F body (setAll js (dd.map .fz) (inv k)) (.nx ρb) ∧ Fg ρb (inv (k + 1)))
    (hx : ∀ i, (F.cx i).xe = NoX := by intro _; rfl) (hs : ∀ i x, foldedSetIterable iter (F.cx i).env x = pure x := by intro _ _; rfl) : Rn F (.For tg iter body [] pos) ρ (.nx (inv its.length)) :=
  rn_for_gen hi hg inv its.length (Nat.le_refl _) h0 hlen (fun k d _ h => step k d h) (.inl ⟨rfl, rfl⟩) hx hs
theorem rn_while (inv : Nat → En) (n : Nat) (h0 : inv 0 = ρ) (turn : ∀ k, k < n → EtS F c (inv k) true ∧ Rns F body (inv k) (.nx (inv (k + 1)))) (stop : EtS F c (inv n) false)
    (hx : ∀ i, (F.cx i).xe = NoX := by intro _; rfl) : Rn F (.While c body [] pos) ρ (.nx (inv n)) := by
  subst h0
  refine ⟨tWhile (uT F c) (uS F body), fun i => ps_while (pOwn (hx i)) (uT_ok i) (uS_ok i), fun D σ G0 H0 G H r k => ?_⟩
  refine ⟨fun m' σ' H' => ∃ j G', j ≤ n ∧ m' = n - j ∧ RS F.K G0 H0 G' H' (inv j) σ', ⟨_, 0, G, Nat.zero_le _, rfl, r⟩, ?_⟩
  rintro m' σ' H' ⟨j, G', hj, rfl, fp, r'⟩
  have key : ∀ {G1 H1 : Hp}, Step G' H' G1 H1 → RS F.K G0 H0 G1 H1 (inv j) σ' := fun {G1 H1} s1 => ⟨fp, r'.st.trans s1, r'.own.mono s1.g s1.h, r'.own.off s1 r'.g, r'.n, r'.d⟩
  by_cases hlt : j < n
  · obtain ⟨⟨τ, x, y⟩, ⟨τ', x', y'⟩⟩ := turn j hlt
    refine ⟨τ, x, y σ' G' H' fp _ r'.st.s r'.own r'.g fun G1 H1 s1 => iteT ⟨fun σ2 H2 => ∃ G2, RS F.K G0 H0 G2 H2 (inv (j + 1)) σ2, fun σ2 H2 ⟨G2, z⟩ => ⟨n - (j + 1), by omega, j + 1, G2, hlt, rfl, z⟩, τ', x', ?_⟩⟩
    exact y' _ σ' G0 H0 G1 H1 (key s1) fun σ4 G4 H4 r4 => ⟨G4, r4⟩
  · have e : j = n := by omega
    subst e
    obtain ⟨τ, x, y⟩ := stop
    exact ⟨τ, x, y σ' G' H' fp _ r'.st.s r'.own r'.g fun G1 H1 s1 => iteF (k σ' G1 H1 (key s1))⟩
theorem rn_while_by {α : Type} (S : α → En) (Pp : α → Prop) (p : α → Bool) (μ : α → Nat) (hc : ∀ a, Pp a → EtS F c (S a) (p a)) (hb : ∀ a, Pp a → p a = true → ∃ a', Pp a' ∧ μ a' < μ a ∧ Rns F body (S a) (.nx (S a'))) (a0 : α) (h0 : Pp a0)
    (hx : ∀ i, (F.cx i).xe = NoX := by intro _; rfl) : ∃ a', Pp a' ∧ p a' = false ∧ Rn F (.While c body [] pos) (S a0) (.nx (S a')) := by
  have : ∀ (m : Nat) (a : α), μ a ≤ m → Pp a → ∃ (n : Nat) (f : Nat → α), f 0 = a ∧ (∀ k, k < n → Pp (f k) ∧ p (f k) = true ∧ Rns F body (S (f k)) (.nx (S (f (k + 1))))) ∧ Pp (f n) ∧ p (f n) = false := by
    intro m
    induction m with
    | zero =>
      intro a hm ha
      cases hp : p a with
      | false => exact ⟨0, fun _ => a, rfl, fun k hk => absurd hk (Nat.not_lt_zero _), ha, hp⟩
      | true =>
        obtain ⟨a', _, h2, _⟩ := hb a ha hp
        omega
    | succ m ih =>
      intro a hm ha
      cases hp : p a with
      | false => exact ⟨0, fun _ => a, rfl, fun k hk => absurd hk (Nat.not_lt_zero _), ha, hp⟩
      | true =>
        obtain ⟨a', h1, h2, h3⟩ := hb a ha hp
        obtain ⟨n, f, f0, f1, f2, f3⟩ := ih a' (by omega) h1
        refine ⟨n + 1, fun k => match k with | 0 => a | k + 1 => f k, rfl, fun k hk => ?_, f2, f3⟩
        cases k with
        | zero => exact ⟨ha, hp, by show Rns F body (S a) (.nx (S (f 0))); rw [f0]; exact h3⟩
        | succ k => exact f1 k (by omega)
  obtain ⟨n, f, f0, f1, f2, f3⟩ := this (μ a0) a0 (Nat.le_refl _) h0
  refine ⟨f n, f2, f3, rn_while (fun k => S (f k)) n (by rw [f0]) (fun k hk => ?_) (by have := hc _ f2; rw [f3] at this; exact this) hx⟩
  obtain ⟨g1, g2, g3⟩ := f1 k hk
  exact ⟨by have := hc _ g1; rw [g2] at this; exact this, g3⟩
structure IxLc where
  C : Addr
  s : Shared
  H : Hp
  ex : List Addr
  pn : List (Addr × Obj)
def famLc (F : Fam ι) (own : List Str) (fr : List Nat) (sc : Scope) (cl : ι → List (Str × Addr)) : Fam (ι × IxLc) where
  cx i := cxLc (F.cx i.1) own fr sc (cl i.1) i.2.C i.2.s i.2.H i.2.ex i.2.pn
  P := F.P
  w := F.w
  K := F.K
  mg := F.mg
  base := F.base
  room := F.room
  hP i := F.hP i.1
  hw i := F.hw i.1
  hK i := F.hK i.1
  hm i := F.hm i.1
  hb i := F.hb i.1
  hr i := F.hr i.1
  calm i := F.calm i.1
def lcEn (own : List Str) (fr : List Nat) (ρ : En) : En := own.map (fun _ => none) ++ fr.map fun j => (ρ[j]?).join
theorem rpd_lc {K : PySem.W.Frag} {G : Hp} {own : List Str} {fr : List Nat} {ρ : En} {σ : St} (r : RpD K G ρ σ) : RpD K G (lcEn own fr ρ) (lcStart own fr σ) := fun i d h => by
  unfold lcEn at h
  unfold lcStart
  by_cases hi : i < own.length
  · rw [List.getElem?_append_left (by simpa using hi), List.getElem?_map] at h
    cases q : own[i]? with
    | none => rw [q] at h; cases h
    | some z => rw [q] at h; cases h
  · rw [List.getElem?_append_right (by simpa using hi), List.getElem?_map, List.length_map] at h
    rw [List.getElem?_append_right (by simpa using hi), List.getElem?_map, List.length_map]
    cases q : fr[i - own.length]? with
    | none => rw [q] at h; cases h
    | some j =>
      rw [q] at h
      have h' : (ρ[j]?).join = some (.fz d) := Option.some.inj h
      have hj : ρ[j]? = some (some (.fz d)) := by
        cases q2 : ρ[j]? with
        | none => rw [q2] at h'; cases h'
        | some o => rw [q2] at h'; exact congrArg some h'
      obtain ⟨v, h1, h2⟩ := r j d hj
      refine ⟨v, ?_, h2⟩
      show some ((σ[j]?).join) = _
      rw [h1]
      rfl
def El {κ : Type} (F : Fam κ) (ifs : List Expr) (ρ : En) (b : Bool) : Prop := ∃ tt : TT, (∀ i (pins : List (Addr × Obj)) (s1 : Shared) (σ1 : St) (H1 : Hp) (Q : Bool → Hp → Prop), Inv (F.cx i) pins σ1 H1 s1 → tt σ1 H1 Q →
      wpAny (model (F.cx i).prog (F.cx i).w) (F.cx i).A (lcTests ifs (F.cx i).env) (TP (F.cx i) pins σ1 Q) NoX s1) ∧ ∀ σ G H Q, Same G H → RpD F.K G ρ σ → (∀ G' H', Step G H G' H' → Q b H') → tt σ H Q
theorem el_nil : El F [] ρ true := ⟨tNoTest, fun i pins s1 σ1 H1 Q I h => lc_t0 pins s1 σ1 H1 Q I h, fun σ G H Q s r k => k G H (.refl s)⟩
theorem el_one {p : Bool} (h : Et F c ρ p) (hx : ∀ i, (F.cx i).xe = NoX := by intro _; rfl) : El F [c] ρ p := let ⟨τ, x, y⟩ := h; ⟨τ, fun i pins s1 σ1 H1 Q I h => lc_t1 (x i) (hx i) pins s1 σ1 H1 Q I h, y⟩
def uL {κ : Type} (F : Fam κ) (ifs : List Expr) : TT := fun σ H Q => ∃ tt : TT, (∀ i (pins : List (Addr × Obj)) (s1 : Shared) (σ1 : St) (H1 : Hp) (Q : Bool → Hp → Prop), Inv (F.cx i) pins σ1 H1 s1 → tt σ1 H1 Q →
      wpAny (model (F.cx i).prog (F.cx i).w) (F.cx i).A (lcTests ifs (F.cx i).env) (TP (F.cx i) pins σ1 Q) NoX s1) ∧ tt σ H Q
def LcV (F : Fam ι) (own : List Str) (fr : List Nat) (sc : Scope) (cl : ι → List (Str × Addr)) (elt tg iter : Expr) (ifs : List Expr) (τ : TE) : Prop := ∃ wi g tt te, τ = tLc wi g tt te own fr ∧ (∀ i, PI (F.cx i) tg iter wi) ∧ (∀ i, PG ((famLc F own fr sc cl).cx i) tg g) ∧
  (∀ i (pins : List (Addr × Obj)) (s1 : Shared) (σ1 : St) (H1 : Hp) (Q : Bool → Hp → Prop), Inv ((famLc F own fr sc cl).cx i) pins σ1 H1 s1 → tt σ1 H1 Q → wpAny (model ((famLc F own fr sc cl).cx i).prog ((famLc F own fr sc cl).cx i).w) ((famLc F own fr sc cl).cx i).A (lcTests ifs ((famLc F own fr sc cl).cx i).env) (TP ((famLc F own fr sc cl).cx i) pins σ1 Q) NoX s1) ∧
  ∀ i, PE ((famLc F own fr sc cl).cx i) elt te
def Elc (F : Fam ι) (own : List Str) (fr : List Nat) (sc : Scope) (cl : ι → List (Str × Addr)) (elt tg iter : Expr) (ifs : List Expr) (ρ : En) (t : Tr) : Prop := ∃ τ, LcV F own fr sc cl elt tg iter ifs τ ∧ ∀ σ G H Q, Same G H → RpD F.K G ρ σ → Kv F.K G H t Q → τ σ H Q
theorem elc {ifs : List Expr} {sc : Scope} {own : List Str} {fr : List Nat} {cl : ι → List (Str × Addr)} (hi : EvI F tg iter ρ its) (hg : EvG (famLc F own fr sc cl) tg js sp) (hjs : ∀ j ∈ js, j < own.length)
    (p : Nat → Bool) (f : Nat → Tr) (hz : its.length < sizeLine)
    (step : ∀ k d, its[k]? = some d → ∃ dd, sp d = some dd ∧ El (famLc F own fr sc cl) ifs (setAll js (dd.map .fz) (lcEn own fr ρ)) (p k) ∧ (p k = true → Ev (famLc F own fr sc cl) elt (setAll js (dd.map .fz) (lcEn own fr ρ)) (f k)))
    (hdrop : ∀ dd : List Dv, dropAll js (setAll js (dd.map .fz) (lcEn own fr ρ)) = lcEn own fr ρ) : Elc F own fr sc cl elt tg iter ifs ρ (.ow (((List.range its.length).filter p).map f)) := by
  obtain ⟨wi, pi, qi⟩ := hi
  obtain ⟨g, pg, qg⟩ := hg
  refine ⟨_, ⟨wi, g, uL (famLc F own fr sc cl) ifs, uE (famLc F own fr sc cl) elt, rfl, pi, pg, fun i pins s1 σ1 H1 Q I h => by
      obtain ⟨tt, h1, h2⟩ := h
      exact h1 i pins s1 σ1 H1 Q I h2, fun i => uE_ok i⟩, fun σ G H Q s r k => ?_⟩
  refine qi σ G H _ s r fun J G1 H1 s1 it acc hacc => ?_
  have k1 := k.step s1
  have rpDrop : ∀ {G' : Hp} {js' : List Nat} {ρ' : En} {σ' : St}, RpD F.K G' ρ' σ' → RpD F.K G' (dropAll js' ρ') σ' := by
    intro G' js'
    induction js' with
    | nil => intro ρ' σ' z; exact z
    | cons j js' ih =>
      intro ρ' σ' z
      refine ih (ρ' := ρ'.set j none) fun i d hd => ?_
      by_cases q : j = i
      · subst q
        rw [List.getElem?_set] at hd
        simp at hd
      · rw [List.getElem?_set_ne q] at hd
        exact z i d hd
  refine ⟨fun i m ys σ1 H2 => m = its.length - i ∧ i ≤ its.length ∧ σ1.length = own.length + fr.length ∧ H2 acc = some (.lst ys) ∧ ∃ G2 fq, Step G1 H1 G2 H2 ∧ OwL F.K G2 H2 (((List.range i).filter p).map f) ys fq ∧ Nw H1 G2 (acc :: fq) ∧ RpD F.K G2 (lcEn own fr ρ) σ1,
    ⟨_, rfl, Nat.zero_le _, by simp [lcStart], upd_same, G1, [], .newO s1.s hacc, ⟨rfl, rfl⟩, ⟨fun a ha => by rw [List.mem_singleton.mp ha]; exact hacc, fun a ha => by rw [List.mem_singleton.mp ha]; exact s1.s.free hacc, by simp⟩, (rpd_lc r).mono s1.g⟩, ?_⟩
  rintro i m ys σ1 H2 ⟨rfl, hi, hσ, ha2, G2, fq, s2, o2, w2, r2⟩
  have hlen : ys.length < sizeLine := by
    rw [← o2.length, List.length_map]
    have := List.length_filter_le p (List.range i)
    rw [List.length_range] at this
    omega
  refine ⟨ha2, hlen, ?_⟩
  obtain ⟨i1, i2⟩ := it i G2 H2 s2.g s2.s
  by_cases hlt : i < its.length
  · have hd : its[i]? = some its[i] := List.getElem?_eq_getElem hlt
    obtain ⟨j1, j2⟩ := i1 _ hd
    obtain ⟨dd, e1, el, ev⟩ := step i _ hd
    refine .inr ⟨j1, fun zs σ2 H3 => σ2.length = own.length + fr.length ∧ H3 acc = some (.lst zs) ∧ ∃ G3 fq, Step G1 H1 G3 H3 ∧ OwL F.K G3 H3 (((List.range (i + 1)).filter p).map f) zs fq ∧ Nw H1 G3 (acc :: fq) ∧ RpD F.K G3 (lcEn own fr ρ) σ2,
      fun zs σ2 H3 z => ⟨its.length - (i + 1), by omega, rfl, hlt, z⟩, fun x H3 y => ?_⟩
    obtain ⟨G3, s3, h3⟩ := j2 x H3 y
    refine qg _ dd x σ1 G3 H3 _ e1 s3.s h3 fun vs hvs => ?_
    have hjl : ∀ j ∈ js, j < σ1.length := fun j hj => by have := hjs j hj; omega
    have rr : RpD F.K G3 (setAll js (dd.map .fz) (lcEn own fr ρ)) (setAll js vs σ1) := RpD.setAll hjl hvs (r2.mono s3.g)
    have keepG : ∀ {Ga Ha Gb Hb : Hp} {fs : List Addr}, Step Ga Ha Gb Hb → (∀ a ∈ fs, Ga a = none) → (∀ a ∈ fs, ∃ o, Ha a = some o) → ∀ a ∈ fs, Gb a = none := fun {Ga Ha Gb Hb fs} st h1 h2 a ha => by
      cases q : Gb a with
      | none => rfl
      | some u =>
        obtain ⟨u', hu'⟩ := h2 a ha
        have := st.n a (h1 a ha) (by rw [q]; exact fun z => nomatch z)
        rw [hu'] at this; cases this
    have th2 : ∀ a ∈ acc :: fq, ∃ o, H2 a = some o := fun a ha => (List.mem_cons.mp ha).elim (fun z => ⟨_, z ▸ ha2⟩) (o2.there a)
    have er : (List.range (i + 1)).filter p = (List.range i).filter p ++ if p i = true then [i] else [] := by
      rw [List.range_succ, List.filter_append]
      congr 1
      simp only [List.filter_cons, List.filter_nil]
    obtain ⟨tt, pt, qt⟩ := el
    refine ⟨tt, pt, qt _ G3 H3 _ s3.s rr fun G5 H5 s5 => ?_⟩
    have s35 := s3.trans s5
    cases hp : p i with
    | false =>
      refine iteF ⟨by rw [setAll_len]; exact hσ, s35.h _ _ ha2, G5, fq, s2.trans s35, ?_, ⟨w2.n, keepG s35 w2.g th2, w2.d⟩, ?_⟩
      · rw [er, hp, if_neg (by decide), List.append_nil]
        exact o2.mono s35.g s35.h
      · have := rpDrop (js' := js) (rr.mono s5.g)
        rwa [hdrop dd] at this
    | true =>
      obtain ⟨te, pe, qe⟩ := ev hp
      refine iteT ⟨te, pe, qe _ G5 H5 _ s5.s (rr.mono s5.g) fun v G6 H6 f6 s6 o6 w6 => ?_⟩
      have s36 := s35.trans s6
      have ha6 := s36.h _ _ ha2
      have nf6 : ∀ a ∈ f6, a ∉ acc :: fq := fun a ha hb => by
        obtain ⟨u, hu⟩ := th2 a hb
        have := s35.h _ _ hu
        rw [w6.n a ha] at this; cases this
      have ndq := List.nodup_cons.mp w2.d
      have g6 := keepG s36 w2.g th2
      refine ⟨ha6, by rw [setAll_len]; exact hσ, upd_same, G6, fq ++ (f6 ++ []), ⟨(s2.trans s36).g, fun b u hb => ?_, fun b u hb => ?_, (s2.trans s36).n⟩, ?_, ⟨fun a ha => ?_, fun a ha => ?_, ?_⟩, ?_⟩
      · rw [upd_ne fun z => by subst z; rw [hacc] at hb; cases hb]
        exact (s2.trans s36).h b u hb
      · rw [upd_ne fun z => by subst z; rw [g6 _ (.head _)] at hb; cases hb]
        exact s6.s b u hb
      · rw [er, hp, if_pos rfl, List.map_append]
        refine OwL.append ((o2.mono s36.g s36.h).frame ndq.1) ⟨v, [], f6, [], rfl, rfl, o6.frame fun z => nf6 _ z (.head _), rfl, rfl⟩
      · rw [List.append_nil] at ha
        rcases List.mem_cons.mp ha with z | z
        · exact w2.n a (z ▸ .head _)
        · rcases List.mem_append.mp z with z | z
          · exact w2.n a (.tail _ z)
          · exact (s2.trans s35).h.free (w6.n a z)
      · rw [List.append_nil] at ha
        rcases List.mem_cons.mp ha with z | z
        · exact g6 a (z ▸ .head _)
        · rcases List.mem_append.mp z with z | z
          · exact g6 a (.tail _ z)
          · exact w6.g a z
      · rw [List.append_nil]
        refine List.nodup_cons.mpr ⟨fun z => ?_, List.nodup_append.mpr ⟨ndq.2, w6.d, fun a ha b hb z => ?_⟩⟩
        · rcases List.mem_append.mp z with z | z
          · exact ndq.1 z
          · exact nf6 _ z (.head _)
        · subst z; exact nf6 a hb (.tail _ ha)
      · have := rpDrop (js' := js) (rr.mono (s5.trans s6).g)
        rwa [hdrop dd] at this
  · have e : i = its.length := by omega
    subst e
    refine .inl ⟨i2 rfl, k1 (.ref acc) G2 H2 (acc :: fq) s2 ⟨acc, ys, fq, rfl, ha2, o2, rfl⟩ w2⟩
theorem ev_lc {ifs : List Expr} {sc : Scope} {own : List Str} {fr : List Nat} {cl : ι → List (Str × Addr)} (L : ∀ i, LcScope (F.cx i) sc (cl i) fr) (hi : EvI F tg iter ρ its) (hg : EvG (famLc F own fr sc cl) tg js sp) (hjs : ∀ j ∈ js, j < own.length)
    (p : Nat → Bool) (f : Nat → Tr) (hz : its.length < sizeLine)
    (step : ∀ k d, its[k]? = some d → ∃ dd, sp d = some dd ∧ El (famLc F own fr sc cl) ifs (setAll js (dd.map .fz) (lcEn own fr ρ)) (p k) ∧ (p k = true → Ev (famLc F own fr sc cl) elt (setAll js (dd.map .fz) (lcEn own fr ρ)) (f k)))
    (hdrop : ∀ dd : List Dv, dropAll js (setAll js (dd.map .fz) (lcEn own fr ρ)) = lcEn own fr ρ)
    (hs : ∀ i x, foldedSetIterable iter (F.cx i).env x = pure x := by intro _ _; rfl) :
    Ev F (.ListComp elt [⟨tg, iter, ifs, 0⟩] sc pos) ρ (.ow (((List.range its.length).filter p).map f)) := by
  obtain ⟨τ, ⟨wi, g, tt, te, rfl, h1, h2, h3, h4⟩, h5⟩ := elc (ifs := ifs) hi hg hjs p f hz step hdrop
  exact ⟨_, fun i => pe_lc (cl := cl i) (L i) (F.calm i) (h1 i) (fun C s H ex pn => h2 (i, ⟨C, s, H, ex, pn⟩)) (fun C s H ex pn => h3 (i, ⟨C, s, H, ex, pn⟩)) (fun C s H ex pn => h4 (i, ⟨C, s, H, ex, pn⟩)) (hs i), h5⟩
end
structure IxD (k : Nat) (qual : Str) (sc : Scope) (f : Addr) where
  cdv : Value
  A : Around
  outer : List Env
  s : Shared
  H : Hp
  E : XK
  hr : Room k (A.deeper (envOfC qual sc s.heap.objs.size f cdv))
def famD (P : Program) (w : World) (K : PySem.W.Frag) (mg : Str → Option Value) (base : Heap) (N : List Str) (qual : Str) (sc : Scope) (f : Addr) (k : Nat) : Fam (IxD k qual sc f) where
  cx i := (cxOf CX0 P w K mg base N qual sc f i.cdv i.A i.outer i.s i.H i.E).nox
  P := P
  w := w
  K := K
  mg := mg
  base := base
  room := k
  hP _ := rfl
  hw _ := rfl
  hK _ := rfl
  hm _ := rfl
  hb _ := rfl
  hr i := i.hr
  calm _ := rfl
def enD (N : List Str) (dd : List Dv) : En := dd.map (fun d => some (.fz d)) ++ List.replicate (N.length - dd.length) none
theorem ows_none {K : PySem.W.Frag} {G H : Hp} : ∀ n : Nat, OwS K G H (List.replicate n none) (List.replicate n none) []
  | 0 => ⟨rfl, rfl⟩
  | n + 1 => ⟨none, List.replicate n none, rfl, ows_none n⟩
theorem ows_start {K : PySem.W.Frag} {G H : Hp} {n : Nat} : ∀ {dd : List Dv} {vs : List V}, HvL K G dd vs → OwS K G H (dd.map (fun d => some (.fz d)) ++ List.replicate n none) (vs.map some ++ List.replicate n none) []
  | [], _, h => by rw [show _ = [] from h]; exact ows_none n
  | _ :: _, _, ⟨x, r, h1, h2, h3⟩ => by subst h1; exact ⟨x, _, [], [], rfl, rfl, ⟨rfl, h2⟩, ows_start h3⟩
theorem fn_ok {P : Program} {w : World} {K : PySem.W.Frag} {mg : Str → Option Value} {base : Heap} {x qual : Str} {st : Stmt} {dV : Value} {f : Addr} {fd : FuncData} {N ps : List Str} {k : Nat} {R : List Dv → Tr → Prop} (Fd : FunD K x qual st dV f fd) (S : FnScope N ps (defScope st))
    (hl : ∀ dd t, R dd t → dd.length = ps.length)
    (hb : ∀ dd t, R dd t → ∃ o, (o = .rt t ∨ (t = tn ∧ ∃ ρ', o = .nx ρ')) ∧ Rns (famD P w K mg base N qual (defScope st) f k) (defBody st) (enD N dd) o) : FnOk P w K mg base CX0 (k + 1) f fd ps (spT K R) := by
  refine Fd.ok S (fun vs H Q E ⟨G, dd, t, s, h1, h2, h3⟩ => by rw [← h1.length]; exact hl dd t h2) fun cdv A outer s H vs Q E hr h => ?_
  obtain ⟨G, dd, t, s', h1, h2, h3⟩ := h
  obtain ⟨o, ho, τ, x, y⟩ := hb dd t h2
  refine ⟨τ, x ⟨cdv, A, outer, s, H, E, hr⟩, y _ (start N vs) G H G H ⟨[], .refl s', ?_, fun _ z => (nomatch z), fun _ z => (nomatch z), .nil⟩ ?_⟩
  · unfold start enD
    rw [← h1.length]
    exact ows_start h1
  · rcases ho with rfl | ⟨rfl, ρ', rfl⟩
    · exact fun v G1 H1 fq s1 o1 w1 => h3 v G1 H1 fq s1 o1 w1
    · exact fun σ G1 H1 ⟨fp, r⟩ => h3 .non G1 H1 [] r.st ⟨rfl, rfl, rfl⟩ .nil
end L2
namespace L2
open PySem PySem.Spec PyProof.Rows
def Itz (K : PySem.W.Frag) (l1 l2 : Addr) (xs ys : List V) : It :=
  ⟨fun i H => SqL K H l1 xs ∧ SqL K H l2 ys ∧ i < min xs.length ys.length, fun i H x H' => ∃ T vx vy, H T = none ∧ xs[i]? = some vx ∧ ys[i]? = some vy ∧ x = .ref T ∧ H' = upd H T (.tup [vx, vy]), fun i H => SqL K H l1 xs ∧ SqL K H l2 ys ∧ i = min xs.length ys.length⟩
def Ite (K : PySem.W.Frag) (l : Addr) (xs : List V) : It :=
  ⟨fun i H => SqL K H l xs ∧ i < xs.length, fun i H x H' => ∃ T v, H T = none ∧ xs[i]? = some v ∧ x = .ref T ∧ H' = upd H T (.tup [.int (i : Nat), v]), fun i H => SqL K H l xs ∧ i = xs.length⟩
section
variable {X : Cx} {pins : List (Addr × Obj)} {σ : St} {H : Hp} {s : Shared}
theorem Inv.turnedL {t' : Nat} {fs : List Addr} {h' : Heap} (I : Inv X pins σ H s) (k : ∀ b o, b ∉ fs → s.heap.get? b = some o → h'.get? b = some o) (hf : ∀ b ∈ fs, FpOk X pins H b) : Inv X pins σ H { s with heap := h', toks := t' } := by
  have nit : ∀ b u, H b = some u → b ∉ fs := fun b u e z => by rw [(hf b z).1] at e; cases e
  refine I.step (g' := s.gens) (d' := s.drawn) (ch := fs) (fun b hb => ?_) (fun b o _ _ hc e _ => k b o hc e) (fun b o _ _ hc e _ => ⟨o.slots, k b o hc e⟩) (fun _ _ _ _ n => n)
    (fun b o hc e => ⟨o, k b o hc e⟩) (fun _ _ e => e) (fun _ _ _ e => e) (fun b ps e => ⟨#[], by rw [e]; simp⟩) (fun m hm => ?_) (fun b u e => ?_) I.bare
  · obtain ⟨f0, f1, f2, f3, f4, f5⟩ := hf b hb
    exact ⟨f3, f1, f4, f5⟩
  · obtain ⟨o, es, ep, ho, r⟩ := hm
    exact ⟨o, es, ep, k _ o (fun z => (hf _ z).2.1 rfl) ho, r⟩
  · refine (I.hok b u e).stay (fun c v hc q => k c v ?_ q) (fun _ q => q) fun _ _ q => q
    rcases hc with z | z
    · rw [z]; exact nit b u e
    · exact nit c _ z
theorem Inv.turnedT {t' : Nat} {fs : List Addr} {h' : Heap} {T : Addr} {vs : List V} (I : Inv X pins σ H s) (k : ∀ b o, b ∉ fs → s.heap.get? b = some o → h'.get? b = some o) (hf : ∀ b ∈ fs, FpOk X pins H b) (hT : s.heap.objs.size ≤ T)
    (new : ObjOk X.prog X.w (upd H T (.tup vs)) h' T (.tup vs)) : Inv X pins σ (upd H T (.tup vs)) { s with heap := h', toks := t' } := by
  have hn : H T = none := I.hok.fresh hT
  have nit : ∀ b u, H b = some u → b ∉ fs := fun b u e z => by rw [(hf b z).1] at e; cases e
  have ne : ∀ b o, s.heap.get? b = some o → b ≠ T := fun b o e z => by subst z; exact absurd (Nat.lt_of_lt_of_le (Heap.lt_size e) hT) (Nat.lt_irrefl _)
  refine I.step (g' := s.gens) (d' := s.drawn) (ch := fs) (fun b hb => ?_) (fun b o _ _ hc e _ => k b o hc e) (fun b o _ _ hc e _ => ⟨o.slots, k b o hc e⟩) (fun b o _ e n => by rw [upd_ne (ne b o e)]; exact n)
    (fun b o hc e => ⟨o, k b o hc e⟩) (fun _ _ e => by rw [upd_ne (ne_of_none e hn)]; exact e) (fun _ _ _ e => by rw [upd_ne (ne_of_none e hn)]; exact e) (fun b ps e => ⟨#[], by rw [upd_ne (ne_of_none e hn), e]; simp⟩) (fun m hm => ?_) (fun b u e => ?_) I.bare
  · obtain ⟨f0, f1, f2, f3, f4, f5⟩ := hf b hb
    exact ⟨f3, f1, f4, f5⟩
  · obtain ⟨o, es, ep, ho, r⟩ := hm
    exact ⟨o, es, ep, k _ o (fun z => (hf _ z).2.1 rfl) ho, r⟩
  · by_cases hb : b = T
    · subst hb; rw [upd_same] at e; cases e; exact new
    · rw [upd_ne hb] at e
      refine (I.hok b u e).stay (fun c v hc q => k c v ?_ q) (fun c q => by rw [upd_ne (ne_of_none q hn)]; exact q) fun c xs q => by rw [upd_ne (ne_of_none q hn)]; exact q
      rcases hc with z | z
      · rw [z]; exact nit b u e
      · exact nit c _ z
end
theorem turn_zip {P : Program} {w : World} {K : PySem.W.Frag} {elts : List Expr} {kk : Nat} {pos : Pos} {z TI TO i1 i2 l1 l2 : Addr} {xs ys : List V} (D : ZipApart z TI TO i1 i2 l1 l2) :
    Turn P w K (.Tuple elts kk pos) (Itz K l1 l2 xs ys) [z, TI, TO, i1, i2] z (fun i h => IsZip h z TI TO .none ∧ IsPair h TI (.ref i1) (.ref i2) ∧ (∃ a b, IsPair h TO a b) ∧ h.IsListIter i1 l1 i ∧ h.IsListIter i2 l2 i) where
  mem := by simp
  obj := by
    rintro i h ⟨h1, h2, ⟨a, c, h3⟩, ⟨o1, h4, _, h5⟩, ⟨o2, h6, _, h7⟩⟩ b hb
    simp only [List.mem_cons, List.not_mem_nil, or_false] at hb
    rcases hb with rfl | rfl | rfl | rfl | rfl
    · exact ⟨_, h1, fun v z => by cases z⟩
    · exact ⟨_, h2, fun v z => by cases z⟩
    · exact ⟨_, h3, fun v z => by cases z⟩
    · exact ⟨_, h4, fun v z => by rw [h5] at z; cases z⟩
    · exact ⟨_, h6, fun v z => by rw [h7] at z; cases z⟩
  keep := by
    rintro i h h' ⟨h1, h2, ⟨a, c, h3⟩, h4, h5⟩ k
    exact ⟨k _ (by simp) _ h1, k _ (by simp) _ h2, ⟨a, c, k _ (by simp) _ h3⟩, h4.at fun o e => k _ (by simp) o e, h5.at fun o e => k _ (by simp) o e⟩
  item := by
    intro X hP hw hK hc i pins s σ H E I hf st hg
    subst hP hw hK
    obtain ⟨hq1, hq2, hlt⟩ := hg
    obtain ⟨its1, rv1, p1, hz1⟩ := I.list hq1
    obtain ⟨its2, rv2, p2, hz2⟩ := I.list hq2
    have e1 := rv1.length
    have e2 := rv2.length
    have W := WalksT.zip2 (prog := X.prog) (w := X.w) (A := X.A) (I.ok.hd hc) z TI TO i1 i2 l1 l2 D its1.toArray its2.toArray
    refine W.item i s _ _ (by simp; omega) ⟨st.1, st.2.1, st.2.2.1, st.2.2.2.1, st.2.2.2.2, p1.isList, p2.isList⟩ fun T vals h' tk hPt hTn hTup hMid hk => ⟨.ref T, rfl, W.go elts kk pos i T _ _ _ hMid fun h'' st'' hk'' => ?_⟩
    obtain ⟨x, y, hx, hy, rfl⟩ := hPt
    have hx1 : xs[i]? = some (xs[i]'(by omega)) := List.getElem?_eq_getElem _
    have hy1 : ys[i]? = some (ys[i]'(by omega)) := List.getElem?_eq_getElem _
    obtain ⟨u, hu, ru⟩ := rv1.get hx1
    obtain ⟨u', hu', ru'⟩ := rv2.get hy1
    have ex : x = u := by
      have : its1[i]? = some x := by simpa using hx
      rw [hu] at this; exact (Option.some.inj this).symm
    have ey : y = u' := by
      have : its2[i]? = some y := by simpa using hy
      rw [hu'] at this; exact (Option.some.inj this).symm
    subst ex ey
    have sub : ∀ b ∈ [z, TO, i1, i2], b ∈ [z, TI, TO, i1, i2] := fun b hb => by
      simp only [List.mem_cons, List.not_mem_nil, or_false] at hb ⊢
      rcases hb with rfl | rfl | rfl | rfl <;> simp
    have hT2 : IsTup h'' T [x, y].toArray := hTup.at fun o e => hk'' T o (W.apart i T _ hMid) e
    refine ⟨.ref T, upd H T (.tup [xs[i]'(by omega), ys[i]'(by omega)]), I.turnedT (fs := [z, TO, i1, i2]) (fun b o hb e => hk'' b o hb (hk b o hb e)) (fun b hb => hf b (sub b hb)) hTn ⟨by show 2 ≤ sizeLine; decide, [x, y], .cons ru (.cons ru' .nil), hT2⟩, rfl,
      ⟨T, _, _, I.hok.fresh hTn, hx1, hy1, rfl, rfl⟩, ⟨st''.1, st''.2.1, st''.2.2.1, st''.2.2.2.1, st''.2.2.2.2.1⟩, fun b hb => ?_⟩
    obtain ⟨o, eo, _⟩ : ∃ o, s.heap.get? b = some o ∧ True := by
      obtain ⟨g1, g2, ⟨a, c, g3⟩, ⟨o1, g4, _⟩, ⟨o2, g6, _⟩⟩ := st
      simp only [List.mem_cons, List.not_mem_nil, or_false] at hb
      rcases hb with rfl | rfl | rfl | rfl | rfl
      · exact ⟨_, g1, trivial⟩
      · exact ⟨_, g2, trivial⟩
      · exact ⟨_, g3, trivial⟩
      · exact ⟨_, g4, trivial⟩
      · exact ⟨_, g6, trivial⟩
    rw [upd_ne (Nat.ne_of_lt (Nat.lt_of_lt_of_le (Heap.lt_size eo) hTn))]
    exact (hf b hb).1
  done := by
    intro X hP hw hK hc i pins s σ H E I hf st hg
    subst hP hw hK
    obtain ⟨hq1, hq2, rfl⟩ := hg
    obtain ⟨its1, rv1, p1, hz1⟩ := I.list hq1
    obtain ⟨its2, rv2, p2, hz2⟩ := I.list hq2
    have e1 := rv1.length
    have e2 := rv2.length
    have W := WalksT.zip2 (prog := X.prog) (w := X.w) (A := X.A) (I.ok.hd hc) z TI TO i1 i2 l1 l2 D its1.toArray its2.toArray
    have en : min its1.toArray.size its2.toArray.size = min xs.length ys.length := by simp only [List.size_toArray]; omega
    refine W.done s _ _ (by rw [en]; exact ⟨st.1, st.2.1, st.2.2.1, st.2.2.2.1, st.2.2.2.2, p1.isList, p2.isList⟩) fun h' tk hk => ⟨rfl, I.turnedL (fs := [z, TO, i1, i2]) hk fun b hb => hf b ?_⟩
    simp only [List.mem_cons, List.not_mem_nil, or_false] at hb ⊢
    rcases hb with rfl | rfl | rfl | rfl <;> simp
  self := fun A i s Q E st h => wpAny_pyIter_zip st.1 h
theorem turn_enum {P : Program} {w : World} {K : PySem.W.Frag} {elts : List Expr} {kk : Nat} {pos : Pos} {e it l : Addr} {xs : List V} (hei : e ≠ it) (hle : l ≠ e) (hli : l ≠ it) :
    Turn P w K (.Tuple elts kk pos) (Ite K l xs) [e, it] e (fun i h => (∃ old, IsEnum h e it i old) ∧ h.IsListIter it l i) where
  mem := by simp
  obj := by
    rintro i h ⟨⟨old, h1⟩, ⟨o1, h4, _, h5⟩⟩ b hb
    simp only [List.mem_cons, List.not_mem_nil, or_false] at hb
    rcases hb with rfl | rfl
    · exact ⟨_, h1, fun v z => by cases z⟩
    · exact ⟨_, h4, fun v z => by rw [h5] at z; cases z⟩
  keep := by
    rintro i h h' ⟨⟨old, h1⟩, h4⟩ k
    exact ⟨⟨old, k _ (by simp) _ h1⟩, h4.at fun o e => k _ (by simp) o e⟩
  item := by
    intro X hP hw hK hc i pins s σ H E I hf st hg
    subst hP hw hK
    obtain ⟨hq1, hlt⟩ := hg
    obtain ⟨its1, rv1, p1, hz1⟩ := I.list hq1
    have e1 := rv1.length
    have W := WalksT.enumerate (prog := X.prog) (w := X.w) (A := X.A) (I.ok.hd hc) e it l hei hle hli its1.toArray
    refine W.item i s _ _ (by simp; omega) ⟨st.1, st.2, p1.isList⟩ fun T vals h' tk hPt hTn hTup hMid hk => ⟨.ref T, rfl, W.go elts kk pos i T _ _ _ hMid fun h'' st'' hk'' => ?_⟩
    obtain ⟨t, x, hx, rfl⟩ := hPt
    have hx1 : xs[i]? = some (xs[i]'(by omega)) := List.getElem?_eq_getElem _
    obtain ⟨u, hu, ru⟩ := rv1.get hx1
    have ex : x = u := by
      have : its1[i]? = some x := by simpa using hx
      rw [hu] at this; exact (Option.some.inj this).symm
    subst ex
    have hT2 : IsTup h'' T [Value.int (i : Nat) t, x].toArray := hTup.at fun o e => hk'' T o (W.apart i T _ hMid) e
    refine ⟨.ref T, upd H T (.tup [.int (i : Nat), xs[i]'(by omega)]), I.turnedT (fs := [e, it]) (fun b o hb e => hk'' b o hb (hk b o hb e)) hf hTn ⟨by show 2 ≤ sizeLine; decide, [.int (i : Nat) t, x], .cons ⟨t, rfl⟩ (.cons ru .nil), hT2⟩, rfl,
      ⟨T, _, I.hok.fresh hTn, hx1, rfl, rfl⟩, ⟨st''.1, st''.2.1⟩, fun b hb => ?_⟩
    obtain ⟨o, eo, _⟩ : ∃ o, s.heap.get? b = some o ∧ True := by
      obtain ⟨⟨old, g1⟩, ⟨o1, g4, _⟩⟩ := st
      simp only [List.mem_cons, List.not_mem_nil, or_false] at hb
      rcases hb with rfl | rfl
      · exact ⟨_, g1, trivial⟩
      · exact ⟨_, g4, trivial⟩
    rw [upd_ne (Nat.ne_of_lt (Nat.lt_of_lt_of_le (Heap.lt_size eo) hTn))]
    exact (hf b hb).1
  done := by
    intro X hP hw hK hc i pins s σ H E I hf st hg
    subst hP hw hK
    obtain ⟨hq1, rfl⟩ := hg
    obtain ⟨its1, rv1, p1, hz1⟩ := I.list hq1
    have e1 := rv1.length
    have W := WalksT.enumerate (prog := X.prog) (w := X.w) (A := X.A) (I.ok.hd hc) e it l hei hle hli its1.toArray
    have en : its1.toArray.size = xs.length := by simp only [List.size_toArray]; omega
    exact W.done s _ _ (by rw [en]; exact ⟨st.1, st.2, p1.isList⟩) fun h' tk hk => ⟨rfl, I.turnedL (fs := [e, it]) hk hf⟩
  self := fun A i s Q E st h => by
    obtain ⟨⟨old, h1⟩, _⟩ := st
    exact wpAny_pyIter_enum h1 h
def iZip (K : PySem.W.Frag) (ta : TA) : TI := fun σ H R => ta σ H fun vs H1 => ∃ l1 l2 xs ys, vs = [.ref l1, .ref l2] ∧ SqL K H1 l1 xs ∧ SqL K H1 l2 ys ∧ R (Itz K l1 l2 xs ys) H1
def iEnu (K : PySem.W.Frag) (ta : TA) : TI := fun σ H R => ta σ H fun vs H1 => ∃ l xs, vs = [.ref l] ∧ SqL K H1 l xs ∧ R (Ite K l xs) H1
section
variable {X : Cx} {elts : List Expr} {kk : Nat} {tp : Pos}
theorem pi_zip {a b : Expr} {ta : TA} {p pos : Pos} (hg : Gl X "zip") (hm : X.mg "zip" = none) (ha : PA X [a, b] ta) (hs : starEach [a, b] X.env = [(false, eval a X.env), (false, eval b X.env)] := by rfl) (hs2 : starEach [b] X.env = [(false, eval b X.env)] := by rfl) :
    PI X (.Tuple elts kk tp) (.Call (.Name "zip" p) [a, b] [] pos) (iZip X.K ta) := by
  intro pins s σ H R I h
  refine Call_ (ld_blt I hg hm bt_zip (PyProof.Rows.callWith_type1 (thn (ha pos pins s σ H _ I h) fun us s1 ⟨vs, H1, I1, r1, q1⟩ => ?_) (by rw [hs, hs2]) (by rw [hs2]; rfl)))
  obtain ⟨l1, l2, xs, ys, rfl, hq1, hq2, q⟩ := q1
  obtain ⟨u1, u2, rfl, c1, c2⟩ := r1.two
  cases c1
  cases c2
  obtain ⟨its1, rv1, p1, hz1⟩ := I1.list hq1
  obtain ⟨its2, rv2, p2, hz2⟩ := I1.list hq2
  have lt1 : l1 < s1.heap.objs.size := by obtain ⟨o, n, e, _⟩ := p1; exact Heap.lt_size e
  have lt2 : l2 < s1.heap.objs.size := by obtain ⟨o, n, e, _⟩ := p2; exact Heap.lt_size e
  refine call_zip_2 p1.isList p2.isList fun h' hz hTI hTO hi1 hi2 hsz hk => wpAny_pyIter_zip hz ?_
  have I2 : Inv X pins σ H1 { s1 with heap := h' } := I1.kept (t' := s1.toks) hk
  refine ⟨s1.heap.objs.size + 4, [s1.heap.objs.size + 4, s1.heap.objs.size + 2, s1.heap.objs.size + 3, s1.heap.objs.size, s1.heap.objs.size + 1], _, _, H1, rfl, I2, turn_zip (PySem.W.ktu_apart _ _ _ lt1 lt2), ⟨hz, hTI, ⟨_, _, hTO⟩, hi1, hi2⟩, fun b hb => ?_, q⟩
  have hb' : s1.heap.objs.size ≤ b := by
    simp only [List.mem_cons, List.not_mem_nil, or_false] at hb
    rcases hb with rfl | rfl | rfl | rfl | rfl <;> omega
  obtain ⟨f0, f1, f2, f3, f4, f5⟩ := I1.fpOk (H' := H1) hb' (I1.hok.fresh hb')
  exact ⟨f0, f1, f2, f3, f4, f5⟩
theorem pi_enum {a : Expr} {ta : TA} {p pos : Pos} (hg : Gl X "enumerate") (hm : X.mg "enumerate" = none) (ha : PA X [a] ta) (hs : starEach [a] X.env = [(false, eval a X.env)] := by rfl) :
    PI X (.Tuple elts kk tp) (.Call (.Name "enumerate" p) [a] [] pos) (iEnu X.K ta) := by
  intro pins s σ H R I h
  refine Call_ (ld_blt I hg hm bt_enumerate (PyProof.Rows.callWith_type1 (thn (ha pos pins s σ H _ I h) fun us s1 ⟨vs, H1, I1, r1, q1⟩ => ?_) hs rfl))
  obtain ⟨l, xs, rfl, hq1, q⟩ := q1
  obtain ⟨u1, rfl, c1⟩ := r1.one
  cases c1
  obtain ⟨its1, rv1, p1, hz1⟩ := I1.list hq1
  have lt1 : l < s1.heap.objs.size := by obtain ⟨o, n, e, _⟩ := p1; exact Heap.lt_size e
  refine call_enumerate_list p1.isList fun h' hE hI hsz hk => wpAny_pyIter_enum hE ?_
  have I2 : Inv X pins σ H1 { s1 with heap := h' } := I1.kept (t' := s1.toks) hk
  refine ⟨s1.heap.objs.size + 1, [s1.heap.objs.size + 1, s1.heap.objs.size], _, _, H1, rfl, I2, turn_enum (Nat.succ_ne_self _) (PySem.W.ktu_ne 1 lt1) (Nat.ne_of_lt lt1), ⟨⟨_, hE⟩, hI⟩, fun b hb => ?_, q⟩
  have hb' : s1.heap.objs.size ≤ b := by
    simp only [List.mem_cons, List.not_mem_nil, or_false] at hb
    rcases hb with rfl | rfl <;> omega
  obtain ⟨f0, f1, f2, f3, f4, f5⟩ := I1.fpOk (H' := H1) hb' (I1.hok.fresh hb')
  exact ⟨f0, f1, f2, f3, f4, f5⟩
end
section
variable {ι : Type} {F : Fam ι} {a b tg : Expr} {ρ : En} {ta tb' : Tr} {elts : List Expr} {kk : Nat} {tp pos : Pos}
def zipD (xs ys : List Dv) : List Dv := List.zipWith (fun x y => .tup [x, y]) xs ys
def enuD (xs : List Dv) : List Dv := (List.range xs.length).zipWith (fun k x => .tup [di (k : Nat), x]) xs
theorem evi_zip {xs ys : List Dv} (hm : F.mg "zip" = none) (ha : Ev F a ρ ta) (hb : Ev F b ρ tb') (ea : er ta = .lst xs) (eb : er tb' = .lst ys) {p : Pos} (hg : ∀ i, Gl (F.cx i) "zip" := by intro _; rfl)
    (hs : ∀ i, starEach [a, b] (F.cx i).env = [(false, eval a (F.cx i).env), (false, eval b (F.cx i).env)] := by intro _; rfl) (hs2 : ∀ i, starEach [b] (F.cx i).env = [(false, eval b (F.cx i).env)] := by intro _; rfl) :
    EvI F (.Tuple elts kk tp) (.Call (.Name "zip" p) [a, b] [] pos) ρ (zipD xs ys) := by
  obtain ⟨τ, p, q⟩ := (eva_cons ha (eva_cons hb eva_nil hs2) (fun i => by rw [hs i, hs2 i])).use
  refine ⟨iZip F.K τ, fun i => F.hK i ▸ pi_zip (hg i) ((F.hm i).symm ▸ hm) (p i) (hs i) (hs2 i), fun σ G H R s r k => q σ G H _ s r fun vs G1 H1 s1 hx => ?_⟩
  obtain ⟨x, y, rfl, h1, h2⟩ := hvl2 hx
  rw [ea] at h1
  rw [eb] at h2
  obtain ⟨l1, us, rfl, g1, g2⟩ := h1
  obtain ⟨l2, ws, rfl, g3, g4⟩ := h2
  have e1 := g2.length
  have e2 := g4.length
  refine ⟨l1, l2, us, ws, rfl, s1.s.seq g1, s1.s.seq g3, k _ G1 H1 s1 fun j G2 H2 sg sh => ⟨fun d hd => ?_, fun hz => ?_⟩⟩
  · unfold zipD at hd
    rw [List.getElem?_zipWith] at hd
    cases qx : xs[j]? with
    | none => rw [qx] at hd; cases hd
    | some dx =>
      cases qy : ys[j]? with
      | none => rw [qx, qy] at hd; cases hd
      | some dy =>
        rw [qx, qy] at hd
        cases hd
        obtain ⟨vx, x1, x2⟩ := g2.get qx
        obtain ⟨vy, y1, y2⟩ := g4.get qy
        have lx : j < us.length := (List.getElem?_eq_some_iff.mp x1).1
        have ly : j < ws.length := (List.getElem?_eq_some_iff.mp y1).1
        refine ⟨⟨(sg.trans sh).seq g1, (sg.trans sh).seq g3, by omega⟩, ?_⟩
        rintro x H3 ⟨T, wx, wy, hT, z1, z2, rfl, rfl⟩
        rw [x1] at z1
        rw [y1] at z2
        cases z1
        cases z2
        refine ⟨_, .new sh hT, T, _, rfl, SqT.of upd_same, _, _, rfl, (x2.mono sg).mono (Same.new (sh.free hT)), _, _, rfl, (y2.mono sg).mono (Same.new (sh.free hT)), rfl⟩
  · refine ⟨(sg.trans sh).seq g1, (sg.trans sh).seq g3, ?_⟩
    rw [hz]
    unfold zipD
    rw [List.length_zipWith, e1, e2]
theorem evi_enum {xs : List Dv} (hm : F.mg "enumerate" = none) (ha : Ev F a ρ ta) (ea : er ta = .lst xs) {p : Pos} (hg : ∀ i, Gl (F.cx i) "enumerate" := by intro _; rfl)
    (hs : ∀ i, starEach [a] (F.cx i).env = [(false, eval a (F.cx i).env)] := by intro _; rfl) : EvI F (.Tuple elts kk tp) (.Call (.Name "enumerate" p) [a] [] pos) ρ (enuD xs) := by
  obtain ⟨τ, p, q⟩ := (eva_cons ha eva_nil hs).use
  refine ⟨iEnu F.K τ, fun i => F.hK i ▸ pi_enum (hg i) ((F.hm i).symm ▸ hm) (p i) (hs i), fun σ G H R s r k => q σ G H _ s r fun vs G1 H1 s1 hx => ?_⟩
  obtain ⟨x, rfl, h1⟩ := hvl1 hx
  rw [ea] at h1
  obtain ⟨l1, us, rfl, g1, g2⟩ := h1
  have e1 := g2.length
  refine ⟨l1, us, rfl, s1.s.seq g1, k _ G1 H1 s1 fun j G2 H2 sg sh => ⟨fun d hd => ?_, fun hz => ?_⟩⟩
  · unfold enuD at hd
    rw [List.getElem?_zipWith] at hd
    cases qx : xs[j]? with
    | none =>
      rw [qx] at hd
      cases q2 : (List.range xs.length)[j]? with
      | none => rw [q2] at hd; cases hd
      | some z => rw [q2] at hd; cases hd
    | some dx =>
      have lj : j < xs.length := (List.getElem?_eq_some_iff.mp qx).1
      rw [qx, List.getElem?_range lj] at hd
      cases hd
      obtain ⟨vx, x1, x2⟩ := g2.get qx
      refine ⟨⟨(sg.trans sh).seq g1, by omega⟩, ?_⟩
      rintro x H3 ⟨T, wx, hT, z1, rfl, rfl⟩
      rw [x1] at z1
      cases z1
      exact ⟨_, .new sh hT, T, _, rfl, SqT.of upd_same, _, _, rfl, ⟨rfl, rfl⟩, _, _, rfl, (x2.mono sg).mono (Same.new (sh.free hT)), rfl⟩
  · refine ⟨(sg.trans sh).seq g1, ?_⟩
    rw [hz]
    unfold enuD
    rw [List.length_zipWith, List.length_range, Nat.min_self, e1]
theorem tupOf_some {n : Nat} {ds dd : List Dv} (e : tupOf n (.tup ds) = some dd) : ds.length = n ∧ dd = ds := by
  have e' : (if ds.length = n then some ds else none) = some dd := e
  by_cases h : ds.length = n
  · rw [if_pos h] at e'; cases e'; exact ⟨h, rfl⟩
  · rw [if_neg h] at e'; cases e'
theorem evg_t2 (j1 j2 : Nat) {x y : Str} {px py : Pos} (hN : ∀ i, (F.cx i).N.Nodup) (h1 : ∀ i, (F.cx i).N[j1]? = some x := by intro _; rfl) (h2 : ∀ i, (F.cx i).N[j2]? = some y := by intro _; rfl)
    (hx : ∀ i, Loc (F.cx i).env.scope x := by intro _; first | exact Or.inl rfl | exact Or.inr rfl) (hy : ∀ i, Loc (F.cx i).env.scope y := by intro _; first | exact Or.inl rfl | exact Or.inr rfl)
    (fx : ∀ i, (F.cx i).fn x = true ∨ (F.cx i).env.scope.names.lookup x = some .local := by intro _; first | exact .inl rfl | exact .inr rfl) (fy : ∀ i, (F.cx i).fn y = true ∨ (F.cx i).env.scope.names.lookup y = some .local := by intro _; first | exact .inl rfl | exact .inr rfl) :
    EvG F (.Tuple [.Name x px, .Name y py] kk tp) [j1, j2] (tupOf 2) :=
  ⟨gTup F.K 2 (gCons (gName j1) (gCons (gName j2) gNil)), fun i => F.hK i ▸ pg_tup (F.calm i) (pgs_cons (pg_name (hN i) (h1 i) (hx i) (fx i)) (pgs_cons (pg_name (hN i) (h2 i) (hy i) (fy i)) pgs_nil)), fun d dd v σ G H Q e s h k => by
    cases d with
    | fl _ => cases e
    | lst _ => cases e
    | tup ds =>
      obtain ⟨hl, rfl⟩ := tupOf_some e
      obtain ⟨a, vs, rfl, q1, q2⟩ := h
      have hv : vs.length = 2 := by rw [← q2.length]; exact hl
      refine ⟨a, vs, rfl, s.tup q1, hv, ?_⟩
      match vs, hv with
      | [v1, v2], _ => exact ⟨v1, [v2], rfl, v2, [], rfl, rfl, k [v1, v2] q2⟩⟩
theorem evg_t3 (j1 j2 j3 : Nat) {x y z : Str} {px py pz : Pos} (hN : ∀ i, (F.cx i).N.Nodup) (h1 : ∀ i, (F.cx i).N[j1]? = some x := by intro _; rfl) (h2 : ∀ i, (F.cx i).N[j2]? = some y := by intro _; rfl) (h3 : ∀ i, (F.cx i).N[j3]? = some z := by intro _; rfl)
    (hx : ∀ i, Loc (F.cx i).env.scope x := by intro _; first | exact Or.inl rfl | exact Or.inr rfl) (hy : ∀ i, Loc (F.cx i).env.scope y := by intro _; first | exact Or.inl rfl | exact Or.inr rfl) (hz : ∀ i, Loc (F.cx i).env.scope z := by intro _; first | exact Or.inl rfl | exact Or.inr rfl)
    (fx : ∀ i, (F.cx i).fn x = true ∨ (F.cx i).env.scope.names.lookup x = some .local := by intro _; first | exact .inl rfl | exact .inr rfl) (fy : ∀ i, (F.cx i).fn y = true ∨ (F.cx i).env.scope.names.lookup y = some .local := by intro _; first | exact .inl rfl | exact .inr rfl)
    (fz : ∀ i, (F.cx i).fn z = true ∨ (F.cx i).env.scope.names.lookup z = some .local := by intro _; first | exact .inl rfl | exact .inr rfl) :
    EvG F (.Tuple [.Name x px, .Name y py, .Name z pz] kk tp) [j1, j2, j3] (tupOf 3) :=
  ⟨gTup F.K 3 (gCons (gName j1) (gCons (gName j2) (gCons (gName j3) gNil))), fun i => F.hK i ▸ pg_tup (F.calm i) (pgs_cons (pg_name (hN i) (h1 i) (hx i) (fx i)) (pgs_cons (pg_name (hN i) (h2 i) (hy i) (fy i)) (pgs_cons (pg_name (hN i) (h3 i) (hz i) (fz i)) pgs_nil))), fun d dd v σ G H Q e s h k => by
    cases d with
    | fl _ => cases e
    | lst _ => cases e
    | tup ds =>
      obtain ⟨hl, rfl⟩ := tupOf_some e
      obtain ⟨a, vs, rfl, q1, q2⟩ := h
      have hv : vs.length = 3 := by rw [← q2.length]; exact hl
      refine ⟨a, vs, rfl, s.tup q1, hv, ?_⟩
      match vs, hv with
      | [v1, v2, v3], _ => exact ⟨v1, [v2, v3], rfl, v2, [v3], rfl, v3, [], rfl, rfl, k [v1, v2, v3] q2⟩⟩
end
end L2
namespace L2
open PySem PySem.Spec PyProof.Rows
theorem ps_lcset {X : Cx} {elt tg iter : Expr} {ifs : List Expr} {sc : Scope} {cl : List (Str × Addr)} {own : List Str} {fr : List Nat} {pos spos py : Pos} {wi : TI} {g : TG} {tt : TT} {te : TE} {y0 : Str} {j0 : Nat}
    (L : LcScope X sc cl fr) (hc : X.calm = true) (hi : PI X tg iter wi)
    (hg : ∀ C s H ex pn, PG (cxLc X own fr sc cl C s H ex pn) tg g)
    (ht : ∀ C s H ex pn (pins : List (Addr × Obj)) (s1 : Shared) (σ1 : St) (H1 : Hp) (Q : Bool → Hp → Prop), Inv (cxLc X own fr sc cl C s H ex pn) pins σ1 H1 s1 → tt σ1 H1 Q →
      wpAny (model X.prog X.w) X.A (lcTests ifs (compEnvC sc (cellsFrom (C + 1) sc.names cl) C X.env)) (TP (cxLc X own fr sc cl C s H ex pn) pins σ1 Q) NoX s1)
    (he : ∀ C s H ex pn, PE (cxLc X own fr sc cl C s H ex pn) elt te) (hN0 : X.N.Nodup) (hj0 : X.N[j0]? = some y0) (hx0 : Loc X.env.scope y0)
    (hsw : swapsWith (.ListComp elt [⟨tg, iter, ifs, 0⟩] sc pos) (some (.Name y0 py)) spos.line X.env = pure true) (hf0 : X.fn y0 = true ∨ X.env.scope.names.lookup y0 = some .local) (hs : ∀ x, foldedSetIterable iter X.env x = pure x := by intro _; rfl) :
    PS X (.Assign [.Name y0 py] (.ListComp elt [⟨tg, iter, ifs, 0⟩] sc pos) spos) (tAsg (tLc wi g tt te own fr) (gName j0)) := by
  intro pins s σ H D I h
  rw [exec_Assign_Name_used _ _ _ _ hsw]
  refine wpAny_bind (wpAny_standAt (wpAny_bind ?_))
  show wpAny _ X.A (do let _ ← comprehension (.ListComp elt [⟨tg, iter, ifs, 0⟩] sc pos) sc X.env _ (newList []) false (eval iter X.env) (some (assign (.Name y0 py) X.env))) _ _ s
  refine wpAny_bind (wpAny_mono (wpAny_comprehension_free (use := some (assign (.Name y0 py) X.env)) (Q := fun _ s' => SP X pins D .next s') rfl hs L.clos L.kind L.names (thn (hi pins s σ H _ I h) fun v s1 h1 => thn h1 fun itv s2 h2 => ?_)) (fun _ s' hq => wpAny_pure (wpAny_pure hq)) fun _ _ e => e)
  obtain ⟨it, fp, tn, J, H2, e, I2, T, st2, f2, h2⟩ := h2
  subst e
  refine wpAny_newObj_type ?_
  have I3 : Inv X pins σ (upd H2 s2.heap.objs.size (.lst [])) { s2 with heap := s2.heap.push { cls := .type "list", data := .seq ([] : List Value).toArray } } := I2.lnew (t' := s2.toks) .nil (Nat.zero_le _)
  have n2 : H2 s2.heap.objs.size = none := I2.fresh
  obtain ⟨W, ⟨m0, w0⟩, turn⟩ := h2 _ n2
  have lt2 : ∀ b ∈ fp, b < s2.heap.objs.size := fun b hb => by
    obtain ⟨o, eo, _⟩ := T.obj 0 _ st2 b hb
    exact Heap.lt_size eo
  have fp3 : ∀ b ∈ fp, FpOk X pins (upd H2 s2.heap.objs.size (.lst [])) b := fun b hb => ⟨by rw [upd_ne (Nat.ne_of_lt (lt2 b hb))]; exact (f2 b hb).1, (f2 b hb).2⟩
  generalize hs3 : ({ s2 with heap := s2.heap.push { cls := .type "list", data := .seq ([] : List Value).toArray } } : Shared) = s3 at I3
  have st3 : tn 0 s3.heap := by
    rw [← hs3]
    exact T.keep 0 _ _ st2 fun b hb o eo => Heap.get?_push_of_some _ eo
  have lt3 : ∀ b ∈ fp, b < s3.heap.objs.size := fun b hb => by
    obtain ⟨o, eo, _⟩ := T.obj 0 _ st3 b hb
    exact Heap.lt_size eo
  generalize hH3 : upd H2 s2.heap.objs.size (.lst []) = H3 at I3 fp3 w0
  generalize s2.heap.objs.size = acc at turn w0 hH3 ⊢
  refine newEnv_cells ?_
  have hns : (pushCells (s3.heap.push { cls := .type "dict", data := .dict #[] }) sc.names).Ns s3.heap.objs.size fun _ => none := (Heap.Ns.new s3.heap (.type "dict")).keeps (pushCells_keeps _ _)
  have kp : ∀ b o, s3.heap.get? b = some o → (pushCells (s3.heap.push { cls := .type "dict", data := .dict #[] }) sc.names).get? b = some o := fun b o eo => pushCells_keeps _ _ b o (Heap.get?_push_of_some _ eo)
  have ncl : ∀ y c, (cellsFrom (s3.heap.objs.size + 1) sc.names cl).lookup y = some c → cl.lookup y = some c ∨ (pushCells (s3.heap.push { cls := .type "dict", data := .dict #[] }) sc.names).IsCell c none := fun y c e =>
    cf_cell sc.names (s3.heap.push { cls := .type "dict", data := .dict #[] }) cl y c (by rw [Heap.size_push]; exact e)
  generalize hh4 : pushCells (s3.heap.push { cls := .type "dict", data := .dict #[] }) sc.names = h4 at hns kp ncl
  have I4 := lcInv (own := own) (tk := s3.toks) L I3 fp3 lt3 hns kp ncl
  have st4 : tn 0 h4 := T.keep 0 _ _ st3 fun b hb o eo => kp b o eo
  have stat : ∀ {H' : Hp}, (∀ b ∈ fp, H' b = none) → ∀ b ∈ fp, FpOk (cxLc X own fr sc cl s3.heap.objs.size s3 H3 fp (X.pn ++ pins)) [] H' b := fun {H'} hn b hb =>
    ⟨hn b hb, Nat.ne_of_lt (lt3 b hb), fun z => (List.mem_cons.mp (I3.stkSub b z)).elim (fp3 b hb).2.1 (fp3 b hb).2.2.1, .inl hb, fun y c e => (cf_lookup _ _ _ y c e).elim (fun q => (fp3 b hb).2.2.2.2.1 y c (L.sub y c q)) fun q => Nat.ne_of_gt (Nat.lt_of_lt_of_le (lt3 b hb) (Nat.le_of_succ_le q.1)), fun p hp => (fp3 b hb).2.2.2.2.2 p (by
      have z : p ∈ (X.pn ++ pins) ++ [] := hp
      simpa using z)⟩
  have loop : codeAny (model X.prog X.w) X.A (.compLoop (.ListComp elt [⟨tg, iter, ifs, 0⟩] sc pos) 0 (.ref it) (.ref acc) (compEnvC sc (cellsFrom (s3.heap.objs.size + 1) sc.names cl) s3.heap.objs.size X.env))
      (compPost (model X.prog X.w) X.A X.xe (some (assign (.Name y0 py) X.env)) (fun _ s' => SP X pins D .next s') (.ref acc) s3.heap.objs.size) { s3 with heap := h4, toks := s3.toks } := by
    refine lcLoop (fun n s' => ∃ i ys σ1 H1, Inv (cxLc X own fr sc cl s3.heap.objs.size s3 H3 fp (X.pn ++ pins)) [] σ1 H1 s' ∧ tn i s'.heap ∧ (∀ b ∈ fp, H1 b = none) ∧ W i n ys σ1 H1) ?_ m0 ⟨0, [], _, H3, I4, st4, fun b hb => (fp3 b hb).1, w0⟩
    rintro n s5 ⟨i, ys, σ5, H5, I5, st5, fr5, w5⟩
    obtain ⟨hacc, hlen, hh⟩ := turn i n ys σ5 H5 w5
    rcases hh with ⟨stop, qn⟩ | ⟨go, N, hN, step⟩
    · refine thn (T.done (cxLc X own fr sc cl s3.heap.objs.size s3 H3 fp (X.pn ++ pins)) rfl rfl rfl hc i [] s5 σ5 H5 NoX I5 (stat fr5) st5 stop) fun r s6 ⟨hr, I6⟩ => ?_
      subst hr
      obtain ⟨m6, ns6, _⟩ := id I6.loc
      have back : ∀ h7, Heap.SameBut s3.heap.objs.size s6.heap h7 → Inv X pins σ H5 { s6 with heap := h7 } := fun h7 sb7 => by
        have old : ∀ b o, s3.heap.get? b = some o → b ≠ s3.heap.objs.size := fun b o eo => Nat.ne_of_lt (Heap.lt_size eo)
        have u6 : Un (frs X.stack) fp H3 H5 s3.heap s6.heap := I6.base
        have u7 : Un (frs X.stack) fp H3 H5 s3.heap h7 :=
          ⟨fun b o eo nn hb hx => (sb7.2 b (old b o eo)).trans (u6.keep b o eo nn hb hx), fun b o eo nn hb hx => by
            obtain ⟨sl, q⟩ := u6.slot b o eo nn hb hx
            exact ⟨sl, (sb7.2 b (old b o eo)).trans q⟩, u6.free, fun b o eo hx => by
            obtain ⟨o', q⟩ := u6.there b o eo hx
            exact ⟨o', (sb7.2 b (old b o eo)).trans q⟩, u6.tups, u6.frzs, u6.tbls⟩
        have fC : H5 s3.heap.objs.size = none := I6.free
        have hok7 : HOk X.prog X.w H5 h7 := fun b ob eb => by
          refine (I6.hok b ob eb).stay (fun c w' hc' q => (sb7.2 c ?_).trans q) (fun _ q => q) fun _ _ q => q
          rintro rfl
          rcases hc' with z | z
          · rw [← z, fC] at eb; cases eb
          · rw [fC] at z; cases z
        exact I3.call' (s' := { s6 with heap := h7 }) I6.os u7 hok7 I6.bare fun b hb => ⟨(fp3 b hb).2.2.2.1, (fp3 b hb).2.1, (fp3 b hb).2.2.2.2.1, (fp3 b hb).2.2.2.2.2⟩
      have fC0 : H5 s3.heap.objs.size = none := I6.free
      show wpAny _ _ (assign (.Name y0 py) X.env (.ref acc)) _ X.xe s6
      refine wpAny_assign_Name (store_ok2 (v := .ref acc) (back s6.heap (Heap.SameBut.refl ..)) hN0 hj0 hx0 rfl (fun s7 I7 ⟨a, sb, ha⟩ => ?_) hf0)
      have aC : s3.heap.objs.size ≠ a := by
        rcases ha with rfl | ha
        · exact Nat.ne_of_gt I3.lt
        · obtain ⟨v0, q0⟩ := I3.cell y0 a ha
          exact Nat.ne_of_gt q0.lt
      refine ⟨m6, ns6.sameBut sb aC, fun h8 sb8 => ⟨_, H5, ?_, qn⟩⟩
      exact Inv.turnedL (t' := s7.toks) (fs := [s3.heap.objs.size]) I7 (fun b o hb e => (sb8.2 b (fun z => hb (by rw [z]; exact .head _))).trans e) (fun b hb => by
        rw [List.mem_singleton.mp hb]
        exact I3.fpOk (H' := H5) (Nat.le_refl _) fC0)
    · refine thn (T.item (cxLc X own fr sc cl s3.heap.objs.size s3 H3 fp (X.pn ++ pins)) rfl rfl rfl hc i [] s5 σ5 H5 NoX I5 (stat fr5) st5 go) fun r s6 ⟨u, hr, h6⟩ => ?_
      subst hr
      refine thn h6 fun _ s7 ⟨x, H7, I7, r7, y7, st7, fr7⟩ => ?_
      have I7' := I7.pinned (stat fr7) (T.obj _ _ st7)
      refine thn (hg _ _ _ _ _ _ s7 σ5 H7 x u _ I7' r7 (step x H7 y7)) fun _ s8 ⟨σ8, H8, I8, q8⟩ => ?_
      have again : ∀ {zs : List V} {σ9 : St} {H9 : Hp} {s9 : Shared}, Inv (cxLc X own fr sc cl s3.heap.objs.size s3 H3 fp (X.pn ++ pins)) ([] ++ pinsAt fp s7.heap) σ9 H9 s9 → N zs σ9 H9 →
          ∃ m, m < n ∧ ∃ i ys σ1 H1, Inv (cxLc X own fr sc cl s3.heap.objs.size s3 H3 fp (X.pn ++ pins)) [] σ1 H1 s9 ∧ tn i s9.heap ∧ (∀ b ∈ fp, H1 b = none) ∧ W i m ys σ1 H1 := fun {zs σ9 H9 s9} I9 n9 => by
        obtain ⟨m', hm, w9⟩ := hN zs σ9 H9 n9
        refine ⟨m', hm, i + 1, zs, σ9, H9, I9.unpinned, T.keep _ _ _ st7 fun b hb o e => (I9.pin (b, o) (List.mem_append_right _ (List.mem_append_right _ (mem_pinsAt hb e)))).1, fun b hb => ?_, w9⟩
        obtain ⟨o, e, d⟩ := T.obj _ _ st7 b hb
        exact (I9.pin (b, o) (List.mem_append_right _ (List.mem_append_right _ (mem_pinsAt hb e)))).2.1
      refine thn (ht _ _ _ _ _ _ s8 σ8 H8 _ I8 q8) fun ok s9 ⟨H9, I9, q9⟩ => ?_
      cases ok with
      | false => exact again I9 (by simpa using q9)
      | true =>
        refine thn (he _ _ _ _ _ _ s9 σ8 H9 _ I9 q9) fun z s10 ⟨y, H10, I10, r10, a10, q10⟩ => ?_
        refine thn (mt_append _ s10 σ8 H10 (.ref acc) [y] (.ref acc) [z] (fun _ H' => N (ys ++ [y]) σ8 H') I10 rfl (.cons r10 .nil) ⟨acc, ys, y, rfl, rfl, a10, hlen, q10⟩) fun _ s11 ⟨_, H11, I11, _, q11⟩ => again I11 q11
  rw [← hs3] at loop ⊢
  exact codeAny_compStart_list loop (noX (T.self _ 0 _ _ _ st4 (by rw [hs3]; rw [hs3] at loop; exact loop)))
section
variable {ι : Type} {F : Fam ι} {elt tg iter : Expr} {ifs : List Expr} {sc : Scope} {own : List Str} {fr : List Nat} {cl : ι → List (Str × Addr)} {ρ : En} {t : Tr} {pos spos py : Pos}
theorem ElcS (h : Elc F own fr sc cl elt tg iter ifs ρ t) : ∃ τ, LcV F own fr sc cl elt tg iter ifs τ ∧ ∀ σ G H fp Q, Same G H → OwS F.K G H ρ σ fp → (∀ a ∈ fp, G a = none) → Kv F.K G H t Q → τ σ H Q :=
  let ⟨τ, v, y⟩ := h; ⟨τ, v, fun σ G H fp Q s r _ k => y σ G H Q s r.rpd k⟩
theorem ElcP (h : Elc F own fr sc cl elt tg iter ifs (pk ρ) t) (c : Cl t) : ∃ τ, LcV F own fr sc cl elt tg iter ifs τ ∧ ∀ σ G H fp Q, Same G H → OwS F.K G H ρ σ fp → (∀ a ∈ fp, G a = none) → Kv F.K G H t Q → τ σ H Q := by
  obtain ⟨τ, x, y⟩ := h
  refine ⟨τ, x, fun σ G H fp Q s r hg k => ?_⟩
  refine y σ (frzd G H fp) H Q (frzd_sub s) (r.pk (frzd_same hg) fun a ha => frzd_in ha) fun v G' H' fq st o w => ?_
  refine k v G H' fq ⟨Same.refl _, st.h, s.trans st.h, fun a h h' => absurd h h'⟩ (o.cl c) ⟨w.n, fun a ha => s.free (w.n a ha), w.d⟩
theorem rn_lcG (j : Nat) {x : Str} (h : ∃ τ, LcV F own fr sc cl elt tg iter ifs τ ∧ ∀ σ G H fp Q, Same G H → OwS F.K G H ρ σ fp → (∀ a ∈ fp, G a = none) → Kv F.K G H t Q → τ σ H Q) (L : ∀ i, LcScope (F.cx i) sc (cl i) fr) (hN : ∀ i, (F.cx i).N.Nodup) (hj : Nat.blt j ρ.length = true := by rfl) (hi : ∀ i, (F.cx i).N[j]? = some x := by intro _; rfl)
    (hx : ∀ i, Loc (F.cx i).env.scope x := by intro _; first | exact Or.inl rfl | exact Or.inr rfl) (hsw : ∀ i, swapsWith (.ListComp elt [⟨tg, iter, ifs, 0⟩] sc pos) (some (.Name x py)) spos.line (F.cx i).env = pure true := by intro _; rfl)
    (hf : ∀ i, (F.cx i).fn x = true ∨ (F.cx i).env.scope.names.lookup x = some .local := by intro _; first | exact .inl rfl | exact .inr rfl) (hs : ∀ i x, foldedSetIterable iter (F.cx i).env x = pure x := by intro _ _; rfl) :
    Rn F (.Assign [.Name x py] (.ListComp elt [⟨tg, iter, ifs, 0⟩] sc pos) spos) ρ (.nx (ρ.set j (some t))) := by
  obtain ⟨τ, ⟨wi, g, tt, te, rfl, h1, h2, h3, h4⟩, z⟩ := h
  refine ⟨_, fun i => ps_lcset (cl := cl i) (L i) (F.calm i) (h1 i) (fun C s H ex pn => h2 (i, ⟨C, s, H, ex, pn⟩)) (fun C s H ex pn => h3 (i, ⟨C, s, H, ex, pn⟩)) (fun C s H ex pn => h4 (i, ⟨C, s, H, ex, pn⟩)) (hN i) (hi i) (hx i) (hsw i) (hf i) (hs i), fun D σ G0 H0 G H r k => ?_⟩
  obtain ⟨fp, r⟩ := r
  exact z σ G H fp _ r.st.s r.own r.g fun v G1 H1 fq s1 o w => k _ G1 H1 (r.set (Nat.le_of_ble_eq_true hj) s1 o w)
theorem Elc.as {d : Dv} (h : Elc F own fr sc cl elt tg iter ifs ρ t) (e : er t = d) : Elc F own fr sc cl elt tg iter ifs ρ (.fz d) := by
  obtain ⟨τ, v, q⟩ := h
  refine ⟨τ, v, fun σ G H Q s r k => q σ G H Q s r fun v G' H' fq st o w => ?_⟩
  exact k v (frzd G' H' fq) H' [] (st.frz w) ⟨rfl, e ▸ o.hv (frzd_same w.g) fun a ha => frzd_in ha⟩ .nil
end
end L2
namespace L2
open PySem PySem.Spec PyProof.Rows
def rCount (K : PySem.W.Frag) : V → List V → Hp → VK → Prop := fun x vs H Q => ∃ l xs y, x = .ref l ∧ vs = [y] ∧ SqL K H l xs ∧ flatV y = true ∧ xs.all flatV = true ∧ Q (.int (xs.countP fun z => eqV z y)) H
theorem countP_eqU {x : V} : ∀ {xs : List V} {us : List Value}, Vals xs us → xs.all flatV = true → us.countP (eqU x) = xs.countP fun y => eqV y x
  | _, _, .nil, _ => rfl
  | y :: xs, u :: us, .cons r t, f => by
    rw [List.all_cons, Bool.and_eq_true] at f
    rw [List.countP_cons, List.countP_cons, countP_eqU t f.2, eqU_of r f.1]
section
variable {X : Cx}
theorem mt_count : MtM X "list.count" (rCount X.K) := by
  intro pins s σ H x vs v us Q I rx rv h
  obtain ⟨l, xs, y, rfl, rfl, hq, fy, fs, q⟩ := h
  cases rx
  obtain ⟨u, rfl, ru⟩ := rv.one
  obtain ⟨its, r, ⟨⟨cl, dd, da, sl⟩, n, e, c1, c2, d1⟩, z⟩ := I.list hq
  simp only at c1 d1
  subst c1 d1
  refine call_meets F.slot_list_count ⟨_, e, rfl⟩ F.entry_list_count (F.args_list_count_2 _ _) (SeqAt.list_countAt l its.toArray n dd sl u (eqU y)) ⟨e, fun w hw => mem_eqAt ru fy r fs w (by simpa using hw), ?_⟩
  refine ⟨.int _, H, I.tok _, ⟨_, rfl⟩, ?_⟩
  rw [show its.toArray.toList = its by simp, countP_eqU r fs]
  exact q
end
section
variable {ι : Type} {F : Fam ι} {e a b c : Expr} {es : List Expr} {ρ : En} {t ta tb' tc : Tr} {ts : List Tr} {pos : Pos}
theorem countP_ints (n : Int) : ∀ ns : List Int, (ns.map V.int).countP (fun z => eqV z (.int n)) = ns.count n
  | [] => rfl
  | m :: ms => by
    rw [List.map_cons, List.countP_cons, countP_ints n ms, List.count_cons]
    rfl
theorem ev_bm {nm : Str} {id : String} {r : V → List V → Hp → VK → Prop} {xs : List Dv} {o : Expr} {to : Tr} (slot : Slot "list" nm id) (hty : typeOf (.builtin id) = pure (.type "method_descriptor")) (hm : ∀ i, MtR (F.cx i) id r) (ho : Ev F o ρ to) (eo : er to = .lst xs) (ha : EvA F (e :: es) ρ ts)
    (h : ∀ G H x vs Q, Same G H → Hv F.K G (er to) x → HvL F.K G (ers ts) vs → Kv F.K G H t Q → r x vs H Q) {apos : Pos}
    (hbase : ∀ i, attributeBase o nm (F.cx i).env (eval o (F.cx i).env) = eval o (F.cx i).env := by intro _; rfl)
    (hfew : ∀ i, ((backTo pos (starEach (e :: es) (F.cx i).env)).all (fun x => !x.1) && (backToKw pos (keywordEach [] (F.cx i).env)).all (fun x => x.1.isSome) && decide ((e :: es).length + ([] : List Keyword).length + (if ([] : List Keyword).isEmpty then 0 else 1) < 30)) = true := by intro _; rfl)
    (hline : (apos.endLine == pos.line) = true := by rfl) (hs : ∀ i, starEach (e :: es) (F.cx i).env = (false, eval e (F.cx i).env) :: starEach es (F.cx i).env := by intro _; rfl) (hplain : ∀ i, (backTo pos (starEach es (F.cx i).env)).any (·.1) = false := by intro _; rfl) :
    Ev F (.Call (.Attribute o nm apos) (e :: es) [] pos) ρ t := by
  obtain ⟨τ, p, q⟩ := ho.use
  obtain ⟨τ', p', q'⟩ := ha.use
  refine ⟨tBM F.K "list" r τ τ', fun i => F.hK i ▸ pe_bm PySem.F.plainAttrs_list slot hty (hm i) (p i) (p' i) (hbase i) (hfew i) hline (hs i) (hplain i), fun σ G H Q s rr k => ?_⟩
  refine q σ G H _ s rr fun x G1 H1 s1 hx => ⟨?_, q' σ G1 H1 _ s1.s (rr.mono s1.g) fun vs G2 H2 s2 hv => h G2 H2 x vs Q s2.s (hx.mono s2.g) hv (k.step (s1.trans s2))⟩
  rw [eo] at hx
  obtain ⟨l, us, rfl, h1, h2⟩ := hx
  exact .inl ⟨rfl, _, s1.s.seq h1⟩
theorem ev_count {n : Int} {ns : List Int} {o : Expr} {to : Tr} (ho : Ev F o ρ to) (eo : er to = dis ns) (ha : Ev F e ρ (ti n)) {apos : Pos}
    (hbase : ∀ i, attributeBase o "count" (F.cx i).env (eval o (F.cx i).env) = eval o (F.cx i).env := by intro _; rfl)
    (hfew : ∀ i, ((backTo pos (starEach [e] (F.cx i).env)).all (fun x => !x.1) && (backToKw pos (keywordEach [] (F.cx i).env)).all (fun x => x.1.isSome) && decide (([e] : List Expr).length + ([] : List Keyword).length + (if ([] : List Keyword).isEmpty then 0 else 1) < 30)) = true := by intro _; rfl)
    (hline : (apos.endLine == pos.line) = true := by rfl) (hs : ∀ i, starEach [e] (F.cx i).env = [(false, eval e (F.cx i).env)] := by intro _; rfl) : Ev F (.Call (.Attribute o "count" apos) [e] [] pos) ρ (ti (ns.count n : Nat)) :=
  ev_bm (r := rCount F.K) PySem.F.slot_list_count PySem.F.type_list_count (fun i => F.hK i ▸ mt_count) ho eo (eva_cons ha eva_nil hs) (fun G H x vs Q s hx hv k => by
    rw [eo] at hx
    obtain ⟨l, us, rfl, h1, h2⟩ := hx
    have := hvl_ints h2
    subst this
    obtain ⟨y, rfl, hy⟩ := hvl1 hv
    refine ⟨l, _, y, rfl, rfl, s.seq h1, by rw [hvi hy]; rfl, flat_ints ns, ?_⟩
    rw [hvi hy, countP_ints]
    exact k.sc s rfl) hbase hfew hline hs (fun _ => rfl)
theorem hvl_bools {K : PySem.W.Frag} {G : Hp} : ∀ {bs : List Bool} {vs : List V}, HvL K G (bs.map db) vs → vs = bs.map V.bl
  | [], _, h => h
  | _ :: _, _, ⟨x, r, h1, h2, h3⟩ => by subst h1; rw [hvi h2, hvl_bools h3]; rfl
theorem ev_all {bs : List Bool} (hm : F.mg "all" = none) (ha : Ev F e ρ ta) (ea : er ta = .lst (bs.map db)) {p' : Pos} (hg : ∀ i, Gl (F.cx i) "all" := by intro _; rfl)
    (hs : ∀ i, starEach [e] (F.cx i).env = [(false, eval e (F.cx i).env)] := by intro _; rfl) : Ev F (.Call (.Name "all" p') [e] [] pos) ρ (tb (bs.all id)) :=
  ev_callB (r := rAll F.K) (fun i => F.hK i ▸ call_all (F.calm i)) hm bt_all (eva_cons ha eva_nil hs) (fun G H vs Q s hx k => by
    obtain ⟨x, rfl, hxx⟩ := hvl1 hx
    replace hx := hxx
    rw [ea] at hx
    obtain ⟨l, ys, rfl, h1, h2⟩ := hx
    have := hvl_bools h2
    subst this
    exact ⟨l, bs, rfl, s.seq h1, k.sc s rfl⟩) hg (by decide) (by decide) hs (fun _ => rfl)
theorem rn_clear (j : Nat) {x : Str} {us : List Tr} {p1 p2 p3 : Pos} (h : ρ[j]? = some (some (.ow us))) (hN : ∀ i, (F.cx i).N[j]? = some x := by intro _; rfl)
    (hv : ∀ i, Vis (F.cx i).env.scope x := by intro _; first | exact Or.inl rfl | exact Or.inr (Or.inl rfl) | exact Or.inr (Or.inr rfl)) (hd : (x == ("__debug__" : Str)) = false := by decide) (hc : (x == ("__classdict__" : Str)) = false := by decide)
    (hbase : ∀ i, attributeBase (.Name x p1) "clear" (F.cx i).env (eval (.Name x p1) (F.cx i).env) = eval (.Name x p1) (F.cx i).env := by intro _; rfl)
    (hline : (p2.endLine == p3.line) = true := by rfl) (hsw : ∀ i, swapsWith (.Call (.Attribute (.Name x p1) "clear" p2) [] [] p3) none pos.line (F.cx i).env = pure false := by intro _; rfl) :
    Rn F (.Expr (.Call (.Attribute (.Name x p1) "clear" p2) [] [] p3) pos) ρ (.nx (ρ.set j (some (.ow [])))) := by
  refine ⟨tDrop (tBM0 F.K "list" rClear (tVar j)), fun i => ps_expr (F.hK i ▸ pe_bm0 PySem.F.plainAttrs_list PySem.F.slot_list_clear PySem.F.type_list_clear mt_clear (pe_var (hN i) (hv i) hd hc) (hbase i) hline) (hsw i), fun D σ G0 H0 G H r k => ?_⟩
  obtain ⟨fp, r⟩ := r
  obtain ⟨l, vs, fq, d1, d2, d3, d4, d5, d6, d7⟩ := r.mut h (.refl r.st.s)
  exact ⟨_, d1, .inl ⟨rfl, _, SqL.of d2⟩, l, vs, rfl, rfl, d2, k σ G _ (d7 [] [] [] ⟨rfl, rfl⟩ .nil fun a ha => nomatch ha)⟩
theorem map_range_get {α β : Type} (l : List α) (d : α) (f : α → β) : (List.range l.length).map (fun k => f ((l[k]?).getD d)) = l.map f := by
  refine List.ext_getElem? fun i => ?_
  rw [List.getElem?_map, List.getElem?_map]
  rcases Nat.lt_or_ge i l.length with h | h
  · rw [List.getElem?_range h, List.getElem?_eq_getElem h]
    show some (f ((l[i]?).getD d)) = _
    rw [List.getElem?_eq_getElem h]
    rfl
  · rw [List.getElem?_eq_none (by simpa using h), List.getElem?_eq_none h]
    rfl
theorem ers_fz : ∀ ds : List Dv, ers (ds.map .fz) = ds
  | [] => rfl
  | d :: ds => by show d :: ers (ds.map .fz) = _; rw [ers_fz ds]
theorem er_fzs (ds : List Dv) : er (.ow (ds.map .fz)) = .lst ds := by show Dv.lst _ = _; rw [ers_fz]
theorem Ev.to {t' : Tr} (h : Ev F e ρ t) (q : t = t') : Ev F e ρ t' := q ▸ h
theorem Et.to {p q : Bool} (h : Et F e ρ p) (z : p = q) : Et F e ρ q := z ▸ h
theorem EvS.to {t' : Tr} (h : EvS F e ρ t) (q : t = t') : EvS F e ρ t' := q ▸ h
theorem rn_ifT {A B : List Stmt} {o : Out} {p : Bool} (hc : EtS F c ρ p) (hp : p = true) (h1 : Rns F A ρ o) : Rn F (.If c A B pos) ρ o := rn_if hc (fun _ => h1) fun h => by rw [hp] at h; cases h
theorem rn_ifF {A B : List Stmt} {o : Out} {p : Bool} (hc : EtS F c ρ p) (hp : p = false) (h1 : Rns F B ρ o) : Rn F (.If c A B pos) ρ o := rn_if hc (fun h => by rw [hp] at h; cases h) fun _ => h1
theorem rn_skip {A : List Stmt} {p : Bool} (hc : EtS F c ρ p) (hp : p = false) : Rn F (.If c A [] pos) ρ (.nx ρ) := rn_ifF hc hp rns_nil
def rLaw (dd : List Dv) (t : Tr) : Prop := ∃ ns : List Int, ns.length ≤ 63 ∧ dd = [dis ns] ∧ t = tb true
def spLaw (K : PySem.W.Frag) : Sp := fun vs H Q _ => ∃ (a : Addr) (ns : List Int), vs = [.ref a] ∧ SqL K H a (ns.map V.int) ∧ ns.length ≤ 63 ∧ ∀ H', Q (.bl true) H'
theorem law_ok {P : Program} {w : World} {K : PySem.W.Frag} {mg : Str → Option Value} {base : Heap} {k : Nat} {f : Addr} {fd : FuncData} (F : FnOk P w K mg base CX0 k f fd ["_law_script"] (spT K rLaw)) : FnOk P w K mg base CX0 k f fd ["_law_script"] (spLaw K) :=
  F.imp fun vs H Q E ⟨a, ns, e, h1, h2, h3⟩ => ⟨H, [dis ns], tb true, Same.refl _, ⟨.ref a, [], e, ⟨a, _, rfl, h1, ints_hvl⟩, rfl⟩, ⟨ns, h2, rfl, rfl⟩, fun v G' H' fq st o w => by rw [hvi o.2]; exact h3 H'⟩
end
end L2
namespace Fra
def gc (a b : Int) : Int := (Int.gcd a b : Int)
theorem gc_pos {a b : Int} (h : b ≠ 0) : 0 < gc a b := by
  have : 0 < Int.gcd a b := Int.gcd_pos_of_ne_zero_right _ h
  unfold gc; omega
theorem gc_dvd_l (a b : Int) : gc a b ∣ a := Int.gcd_dvd_left ..
theorem gc_dvd_r (a b : Int) : gc a b ∣ b := Int.gcd_dvd_right ..
theorem gc_zero (a : Int) : gc a 0 = (a.natAbs : Int) := by unfold gc; rw [Int.gcd_zero_right]
theorem gc_step (a : Int) {b : Int} : gc b (a % b) = gc a b := by
  unfold gc
  congr 1
  apply Nat.dvd_antisymm
  · refine Int.dvd_gcd ?_ (Int.gcd_dvd_left ..)
    have h1 : (↑(Int.gcd b (a % b)) : Int) ∣ b := Int.gcd_dvd_left ..
    have h2 : (↑(Int.gcd b (a % b)) : Int) ∣ a % b := Int.gcd_dvd_right ..
    have := Int.dvd_add (Int.dvd_trans h1 (Int.dvd_mul_right b (a / b))) h2
    rwa [Int.mul_ediv_add_emod] at this
  · refine Int.dvd_gcd (Int.gcd_dvd_right ..) ?_
    have h1 : (↑(Int.gcd a b) : Int) ∣ a := Int.gcd_dvd_left ..
    have h2 : (↑(Int.gcd a b) : Int) ∣ b := Int.gcd_dvd_right ..
    rw [Int.emod_def]
    exact Int.dvd_sub h1 (Int.dvd_trans h2 (Int.dvd_mul_right b (a / b)))
theorem gc_abs (a b : Int) : gc (a.natAbs : Int) (b.natAbs : Int) = gc a b := by
  unfold gc; simp [Int.gcd]
theorem gc_le_r {a b : Int} (h : 0 < b) : gc a b ≤ b := Int.le_of_dvd h (gc_dvd_r a b)
def lT (t b : Int) : Int := (if b < 0 then -t else t) / gc t b
def lB (t b : Int) : Int := (b.natAbs : Int) / gc t b
theorem lT_pos {t b : Int} (h : 0 < b) : lT t b = t / gc t b := by unfold lT; rw [if_neg (by omega)]
theorem lB_pos {t b : Int} (h : 0 < b) : lB t b = b / gc t b := by unfold lB; rw [show (b.natAbs : Int) = b by omega]
theorem lT_mul (t b : Int) : lT t b * gc t b = if b < 0 then -t else t := by
  unfold lT
  refine Int.ediv_mul_cancel ?_
  split
  · exact Int.dvd_neg.mpr (gc_dvd_l t b)
  · exact gc_dvd_l t b
theorem lB_mul (t b : Int) : lB t b * gc t b = (b.natAbs : Int) := by
  unfold lB
  refine Int.ediv_mul_cancel ?_
  exact Int.dvd_natAbs.mpr (gc_dvd_r t b)
theorem lB_ge {t b : Int} (h : b ≠ 0) : 1 ≤ lB t b := by
  have h1 := lB_mul t b
  have h2 := gc_pos (a := t) h
  have h3 : 0 < lB t b := Int.pos_of_mul_pos_left (by rw [h1]; omega) h2
  omega
theorem lB_le {t b : Int} (h : b ≠ 0) : lB t b ≤ (b.natAbs : Int) := by
  unfold lB
  exact Int.ediv_le_self _ (by omega)
theorem lT_abs {t b : Int} (h : b ≠ 0) : (lT t b).natAbs ≤ t.natAbs := by
  have h1 := lT_mul t b
  have h2 := gc_pos (a := t) h
  have h3 : (lT t b * gc t b).natAbs = t.natAbs := by rw [h1]; split <;> omega
  rw [Int.natAbs_mul] at h3
  have h4 : 1 ≤ (gc t b).natAbs := by omega
  calc (lT t b).natAbs = (lT t b).natAbs * 1 := by omega
    _ ≤ (lT t b).natAbs * (gc t b).natAbs := Nat.mul_le_mul_left _ h4
    _ = t.natAbs := h3
theorem l_cross {t b : Int} (h : b ≠ 0) : lT t b * b = t * lB t b := by
  have h1 := lT_mul t b
  have h2 := lB_mul t b
  have h3 := gc_pos (a := t) h
  apply Int.eq_of_mul_eq_mul_right (a := gc t b) (by omega)
  by_cases hb : b < 0
  · rw [if_pos hb] at h1
    have h4 : lB t b * gc t b = -b := by omega
    grind
  · rw [if_neg hb] at h1
    have h4 : lB t b * gc t b = b := by omega
    grind
theorem l_coprime {t b : Int} (h : b ≠ 0) : Int.gcd (lT t b) (lB t b) = 1 := by
  have h1 := lT_mul t b
  have h2 := lB_mul t b
  have h3 := gc_pos (a := t) h
  have hd1 : ((Int.gcd (lT t b) (lB t b) : Int)) ∣ lT t b := Int.gcd_dvd_left ..
  have hd2 : ((Int.gcd (lT t b) (lB t b) : Int)) ∣ lB t b := Int.gcd_dvd_right ..
  have e1 : ((Int.gcd (lT t b) (lB t b) : Int)) * gc t b ∣ t := by
    have := Int.mul_dvd_mul hd1 (Int.dvd_refl (gc t b))
    rw [h1] at this
    split at this
    · exact Int.dvd_neg.mp this
    · exact this
  have e2 : ((Int.gcd (lT t b) (lB t b) : Int)) * gc t b ∣ b := by
    have := Int.mul_dvd_mul hd2 (Int.dvd_refl (gc t b))
    rw [h2] at this
    exact Int.dvd_natAbs.mp this
  have e3 : ((Int.gcd (lT t b) (lB t b) : Int)) * gc t b ∣ gc t b := Int.dvd_coe_gcd e1 e2
  have e4 := Int.le_of_dvd h3 e3
  have e5 : 0 < Int.gcd (lT t b) (lB t b) := Int.gcd_pos_of_ne_zero_right _ (by have := lB_ge (t := t) h; omega)
  by_cases hh : Int.gcd (lT t b) (lB t b) = 1
  · exact hh
  · have e6 : (2 : Int) ≤ ((Int.gcd (lT t b) (lB t b) : Nat) : Int) := by omega
    have : 2 * gc t b ≤ ((Int.gcd (lT t b) (lB t b) : Nat) : Int) * gc t b := Int.mul_le_mul_of_nonneg_right e6 (by omega)
    omega
theorem l_unique {t b p q : Int} (hb : b ≠ 0) (hq : 0 < q) (hg : Int.gcd p q = 1) (h : p * b = t * q) : p = lT t b ∧ q = lB t b := by
  have c := l_cross (t := t) hb
  have g := l_coprime (t := t) hb
  have k := lB_ge (t := t) hb
  have e : p * lB t b = lT t b * q := by
    apply Int.eq_of_mul_eq_mul_right (a := b) hb
    grind
  have d1 : q ∣ lB t b := by
    have z : q ∣ p * lB t b := by rw [e]; exact Int.dvd_mul_left _ _
    have z' : q.natAbs ∣ p.natAbs * (lB t b).natAbs := by rw [← Int.natAbs_mul]; exact Int.natAbs_dvd_natAbs.mpr z
    have cp : Nat.Coprime q.natAbs p.natAbs := by
      have : Int.gcd q p = 1 := by rw [Int.gcd_comm]; exact hg
      exact this
    exact Int.natAbs_dvd_natAbs.mp (cp.dvd_of_dvd_mul_left z')
  have d2 : lB t b ∣ q := by
    have z : lB t b ∣ lT t b * q := by rw [← e]; exact Int.dvd_mul_left _ _
    have z' : (lB t b).natAbs ∣ (lT t b).natAbs * q.natAbs := by rw [← Int.natAbs_mul]; exact Int.natAbs_dvd_natAbs.mpr z
    have cp : Nat.Coprime (lB t b).natAbs (lT t b).natAbs := by
      have : Int.gcd (lB t b) (lT t b) = 1 := by rw [Int.gcd_comm]; exact g
      exact this
    exact Int.natAbs_dvd_natAbs.mp (cp.dvd_of_dvd_mul_left z')
  have eq : q = lB t b := Int.dvd_antisymm (by omega) (by omega) d1 d2
  refine ⟨?_, eq⟩
  rw [← eq] at e
  exact Int.eq_of_mul_eq_mul_right (a := q) (by omega) e
theorem l_eq {t b t' b' : Int} (hb : b ≠ 0) (hb' : b' ≠ 0) (h : t * b' = t' * b) : lT t b = lT t' b' ∧ lB t b = lB t' b' := by
  refine l_unique hb' (by have := lB_ge (t := t) hb; omega) (l_coprime hb) ?_
  have c := l_cross (t := t) hb
  apply Int.eq_of_mul_eq_mul_right (a := b) hb
  grind
end Fra
namespace L2
open PySem PySem.Spec PyProof.Rows
theorem rng_get {lo : Int} {n j : Nat} {d : Dv} (h : (rngD lo n)[j]? = some d) : j < n ∧ d = di (lo + (j : Int)) := by
  rw [List.getElem?_map] at h
  rcases Nat.lt_or_ge j n with hj | hj
  · rw [List.getElem?_range hj] at h; cases h; exact ⟨hj, rfl⟩
  · rw [List.getElem?_eq_none (by simpa using hj)] at h; cases h
theorem map_get {α β : Type} {f : α → β} {l : List α} {j : Nat} {d : β} (h : (l.map f)[j]? = some d) : ∃ x, l[j]? = some x ∧ d = f x := by
  rw [List.getElem?_map] at h
  cases q : l[j]? with
  | none => rw [q] at h; cases h
  | some x => rw [q] at h; cases h; exact ⟨x, rfl, rfl⟩
theorem take_get {α : Type} {l : List α} {i : Nat} {x : α} (h : l[i]? = some x) : l.take (i + 1) = l.take i ++ [x] := by rw [List.take_succ, h]; rfl
theorem Rns.fg {ι : Type} {F : Fam ι} {sts : List Stmt} {ρ ρ1 ρ2 : En} (h : Rns F sts ρ (.nx ρ1)) (f : Fg ρ1 ρ2) : Rns F sts ρ (.nx ρ2) := by
  obtain ⟨τ, x, y⟩ := h
  exact ⟨τ, x, fun D σ G0 H0 G H r k => y D σ G0 H0 G H r fun σ' G' H' r' => k σ' G' H' (f.rs r')⟩
theorem rns_freezeTo {ι : Type} {F : Fam ι} {sts : List Stmt} {ρ : En} {o : Out} {t : Tr} {d : Dv} (j : Nat) (hj : ρ[j]? = some (some t)) (e : er t = d) (h : Rns F sts (ρ.set j (some (.fz d))) o) : Rns F sts ρ o := rns_freeze j hj (e ▸ h)
theorem rns_while_by {ι : Type} {F : Fam ι} {sts body : List Stmt} {ρ : En} {o : Out} {c : Expr} {pos : Pos} {α : Type} (S : α → En) (Pp : α → Prop) (p : α → Bool) (μ : α → Nat) (a0 : α) (e : S a0 = ρ) (h0 : Pp a0) (hc : ∀ a, Pp a → EtS F c (S a) (p a)) (hb : ∀ a, Pp a → p a = true → ∃ a', Pp a' ∧ μ a' < μ a ∧ Rns F body (S a) (.nx (S a')))
    (fin : ∀ a, Pp a → p a = false → Rns F sts (S a) o) (hx : ∀ i, (F.cx i).xe = NoX := by intro _; rfl) : Rns F (.While c body [] pos :: sts) ρ o := by
  subst e
  obtain ⟨a', h1, h2, h3⟩ := rn_while_by S Pp p μ hc hb a0 h0 hx
  exact rns_cons h3 (fin a' h1 h2)
def cellF (ns : List Int) (k : Int) : Int := ns.getD k.toNat 0
theorem cell_in {ns : List Int} {k : Int} (h0 : 0 ≤ k) (h : k < ns.length) : atI (ns.map di) k = some (di (cellF ns k)) := by
  obtain ⟨j, rfl⟩ : ∃ j : Nat, k = (j : Int) := ⟨k.toNat, by omega⟩
  have hj : j < ns.length := by omega
  refine atI_nat ?_
  unfold cellF
  rw [List.getElem?_map, List.getElem?_eq_getElem hj, List.getD_eq_getElem?_getD, show (j : Int).toNat = j by omega, List.getElem?_eq_getElem hj]
  rfl
theorem cell_out {ns : List Int} {k : Int} (h0 : 0 ≤ k) (h : ns.length ≤ k) : cellF ns k = 0 := by
  unfold cellF
  rw [List.getD_eq_getElem?_getD, List.getElem?_eq_none (by omega)]
  rfl
theorem cutD_map {α β : Type} (f : α → β) (l : List α) (a b : Option Int) : cutD (l.map f) a b = (cutD l a b).map f := by
  unfold cutD
  rw [List.length_map, List.map_take, List.map_drop]
theorem cutD_len {α : Type} (l : List α) (a b : Option Int) : (cutD l a b).length ≤ l.length := by
  unfold cutD
  rw [List.length_take, List.length_drop]
  omega
mutual
def okD : Dv → Bool
  | .fl v => flatV v
  | .lst ds => okDs ds
  | .tup ds => okDs ds
def okDs : List Dv → Bool
  | [] => true
  | d :: ds => okD d && okDs ds
end
mutual
theorem eqD_refl : ∀ {d : Dv}, okD d = true → eqD d d = true
  | .fl v, h => eqV_refl h
  | .lst ds, h => eqDs_refl h
  | .tup ds, h => eqDs_refl h
theorem eqDs_refl : ∀ {ds : List Dv}, okDs ds = true → eqDs ds ds = true
  | [], _ => rfl
  | d :: ds, h => by
    have h' : (okD d && okDs ds) = true := h
    rw [Bool.and_eq_true] at h'
    show (eqD d d && eqDs ds ds) = true
    rw [eqD_refl h'.1, eqDs_refl h'.2]
    rfl
end
theorem okDs_map {α : Type} {f : α → Dv} (h : ∀ a, okD (f a) = true) : ∀ l : List α, okDs (l.map f) = true
  | [] => rfl
  | a :: l => by
    show (okD (f a) && okDs (l.map f)) = true
    rw [h a, okDs_map h l]
    rfl
theorem dpDs_le {n : Nat} : ∀ {ds : List Dv}, (∀ d ∈ ds, dpD d ≤ n) → dpDs ds ≤ n
  | [], _ => Nat.zero_le _
  | d :: ds, h => by
    show max (dpD d) (dpDs ds) ≤ n
    exact Nat.max_le.mpr ⟨h d (.head _), dpDs_le fun x hx => h x (.tail _ hx)⟩
theorem okD_dis (l : List Int) : okD (dis l) = true := okDs_map (fun _ => rfl) l
theorem dpD_dis (l : List Int) : dpD (dis l) ≤ 1 := by
  show dpDs _ + 1 ≤ 1
  have : dpDs (l.map di) ≤ 0 := dpDs_le fun d hd => by
    obtain ⟨_, _, rfl⟩ := List.mem_map.mp hd
    exact Nat.le_refl _
  omega
theorem dpD_lst {n : Nat} {ds : List Dv} (h : ∀ d ∈ ds, dpD d ≤ n) : dpD (.lst ds) ≤ n + 1 := Nat.succ_le_succ (dpDs_le h)
theorem dpD_tup {n : Nat} {ds : List Dv} (h : ∀ d ∈ ds, dpD d ≤ n) : dpD (.tup ds) ≤ n + 1 := Nat.succ_le_succ (dpDs_le h)
theorem okD_lst {α : Type} {f : α → Dv} (h : ∀ a, okD (f a) = true) (l : List α) : okD (.lst (l.map f)) = true := okDs_map h l
end L2
namespace L2
open PySem PySem.Spec PyProof.Rows
theorem OwL.setAt {K : PySem.W.Frag} {G H : Hp} : ∀ {us : List Tr} {vs : List V} {fq : List Addr} {m : Nat} {t : Tr} {v : V} {f : List Addr}, OwL K G H us vs fq → m < us.length → Ow K G H t v f → fq.Nodup → f.Nodup → (∀ a ∈ f, a ∉ fq) →
    ∃ fw, OwL K G H (us.set m t) (vs.set m v) fw ∧ fw.Nodup ∧ ∀ a ∈ fw, a ∈ fq ∨ a ∈ f
  | u :: us, _, _, 0, t, v, f, ⟨w, r, f1, f2, h1, h2, h3, h4⟩, _, o, nd, nf, dj => by
    subst h1 h2
    have nda := List.nodup_append.mp nd
    refine ⟨f ++ f2, ⟨v, r, f, f2, rfl, rfl, o, h4⟩, List.nodup_append.mpr ⟨nf, nda.2.1, fun a ha b hb e => dj a ha (e ▸ List.mem_append_right _ hb)⟩, fun a ha => ?_⟩
    rcases List.mem_append.mp ha with z | z
    · exact .inr z
    · exact .inl (List.mem_append_right _ z)
  | u :: us, _, _, m + 1, t, v, f, ⟨w, r, f1, f2, h1, h2, h3, h4⟩, hm, o, nd, nf, dj => by
    subst h1 h2
    have nda := List.nodup_append.mp nd
    obtain ⟨fw, q1, q2, q3⟩ := OwL.setAt (m := m) h4 (Nat.lt_of_succ_lt_succ hm) o nda.2.1 nf fun a ha z => dj a ha (List.mem_append_right _ z)
    refine ⟨f1 ++ fw, ⟨w, _, f1, fw, rfl, rfl, h3, q1⟩, List.nodup_append.mpr ⟨nda.1, q2, fun a ha b hb e => ?_⟩, fun a ha => ?_⟩
    · subst e
      rcases q3 a hb with z | z
      · exact nda.2.2 a ha a z rfl
      · exact dj a z (List.mem_append_left _ ha)
    · rcases List.mem_append.mp ha with z | z
      · exact .inl (List.mem_append_left _ z)
      · exact (q3 a z).imp (List.mem_append_right _) id
theorem rn_ixset {ι : Type} {F : Fam ι} {e : Expr} {ρ : En} {t : Tr} {pos : Pos} (j : Nat) {x : Str} {us : List Tr} {n : Int} {m : Nat} {nE : Expr} {p1 p2 : Pos} (h : ρ[j]? = some (some (.ow us))) (hn : EvS F nE ρ (ti n)) (hm : ixN us.length n = some m) (he : EvS F e ρ t) (hN : ∀ i, (F.cx i).N[j]? = some x := by intro _; rfl)
    (hv : ∀ i, Vis (F.cx i).env.scope x := by intro _; first | exact Or.inl rfl | exact Or.inr (Or.inl rfl) | exact Or.inr (Or.inr rfl)) (hd : (x == ("__debug__" : Str)) = false := by decide) (hc : (x == ("__classdict__" : Str)) = false := by decide)
    (hs : ∀ i, swapsWithSole [.Subscript (.Name x p1) nE p2] e pos.line (F.cx i).env = pure false := by intro _; rfl) (hw : ∀ i, swappedStores [.Subscript (.Name x p1) nE p2] e (F.cx i).env = pure none := by intro _; rfl)
    (h1 : ∀ i, (assignEach [.Subscript (.Name x p1) nE p2] (F.cx i).env).map (·.2) = [assign (.Subscript (.Name x p1) nE p2) (F.cx i).env] := by intro _; rfl)
    (hps : ∀ i, PG (F.cx i) (.Subscript (.Name x p1) nE p2) (gSub (tVar j) (uE F nE) rSetL)) :
    Rn F (.Assign [.Subscript (.Name x p1) nE p2] e pos) ρ (.nx (ρ.set j (some (.ow (us.set m t))))) := by
  obtain ⟨τ, y, z⟩ := he
  obtain ⟨τn, yn, zn⟩ := hn
  refine ⟨tAsg τ (gSub (tVar j) (uE F nE) rSetL), fun i => ps_asg (y i) (hps i) (hs i) (hw i) (h1 i), fun D σ G0 H0 G H r k => ?_⟩
  obtain ⟨fp, r⟩ := r
  refine z σ G H fp _ r.st.s r.own r.g fun v1 G1 H1 f1 s1 o1 w1 => ?_
  have r1 : RSf F.K G0 H0 G1 H1 ρ σ fp := ⟨r.st.trans s1, r.own.mono s1.g s1.h, r.own.off s1 r.g, r.n, r.d⟩
  obtain ⟨l0, vs0, fq0, c1, c2, _⟩ := r1.mut h (.refl r1.st.s)
  refine ⟨_, c1, τn, yn, zn σ G1 H1 fp _ r1.st.s r1.own r1.g fun vn G2 H2 f2 s2 o2 w2 => ?_⟩
  obtain ⟨l, vs, fq, d1, d2, d3, d4, d5, d6, d7⟩ := r.mut h (s1.trans s2)
  rw [c1] at d1
  cases d1
  have hm' : m < us.length := (ixN_seq hm).2.1
  have nf : ∀ a ∈ f1, a ∉ fq := fun a ha hb => by
    obtain ⟨u, hu⟩ := r.own.there a (d6 a hb)
    rw [w1.n a ha] at hu; cases hu
  obtain ⟨fw, q1, q2, q3⟩ := d4.setAt hm' (o1.mono s2.g s2.h) d5 w1.d nf
  refine ⟨l0, vs, n, m, rfl, hvi o2.2, d3, by rw [← d4.length]; exact hm, k σ G2 _ (d7 (us.set m t) (vs.set m v1) fw q1 q2 fun a ha => (q3 a ha).imp id fun z => ⟨w1.n a z, ?_⟩)⟩
  cases q : G2 a with
  | none => rfl
  | some u =>
    obtain ⟨u', hu'⟩ := o1.there a z
    have := s2.n a (w1.g a z) (by rw [q]; exact fun z => nomatch z)
    rw [hu'] at this; cases this
end L2
namespace L2
open PySem PySem.Spec PyProof.Rows
def tRange (ta : TA) : TE := fun σ H Q => ta σ H fun vs H1 => ∃ j : Int, vs = [.int j] ∧ ∀ p, H1 p = none → Q (.ref p) (upd H1 p (.rng 0 j))
section
variable {X : Cx}
theorem pe_range1 {a : Expr} {ta : TA} {p pos : Pos} (hg : Gl X "range") (hm : X.mg "range" = none) (ha : PA X [a] ta) (hs : starEach [a] X.env = [(false, eval a X.env)] := by rfl) : PE X (.Call (.Name "range" p) [a] [] pos) (tRange ta) := by
  intro pins s σ H Q I h
  refine Call_ (ld_blt I hg hm boot_range (PyProof.Rows.callWith_type1 (thn (ha pos pins s σ H _ I h) fun us s1 ⟨vs, H1, I1, r1, q1⟩ => ?_) hs rfl))
  obtain ⟨j, e, q⟩ := q1
  subst e
  cases r1 with
  | cons r rr =>
    cases rr
    obtain ⟨t, rfl⟩ := r
    refine call_range_1 ⟨.ref _, _, I1.laid (t' := s1.toks + 1 + 1) (o := .rng 0 j) (fun b ob q => Heap.get?_push_of_some _ q) (Nat.le_refl _) ?_, rfl, q _ (I1.hok.fresh (Nat.le_refl _))⟩
    exact ⟨_, _, _, Heap.get?_push_size _ rfl⟩
theorem call_list_rng (hc : X.calm = true) : CallR X (.type "list") (fun xs H Q => ∃ p n, xs = [.ref p] ∧ H p = some (.rng 0 n) ∧ 0 ≤ n ∧ n < 2 ^ 20 ∧ ∀ l, H l = none → Q (.ref l) (upd H l (.lst ((List.range n.toNat).map fun i => .int (0 + ((i : Nat) : Int)))))) := by
  intro pins s σ H xs us Q I r h
  obtain ⟨p, n, rfl, hH, h0, h1, q⟩ := h
  obtain ⟨u, rfl, rx⟩ := vals1 r
  cases rx
  obtain ⟨t, u, v, e⟩ := (show ObjOk X.prog X.w H s.heap p (.rng 0 n) from I.hok p _ hH)
  have hsize : Builtin.Range.rangeSize 0 n 1 = (n.toNat : Nat) := by rw [rangeSize_pos (by decide) h0]; omega
  refine call_list_range (n := n.toNat) (I.ok.hd hc) e (step_small h0 (by omega) (by decide) (by decide)) hsize (by omega) fun h' tk acc' c' kp e' it => ?_
  refine ⟨.ref s.heap.objs.size, _, I.laid (t' := tk) (o := .lst ((List.range n.toNat).map fun i => .int (0 + ((i : Nat) : Int)))) kp (Nat.le_refl _) ?_, rfl, q _ (I.hok.fresh (Nat.le_refl _))⟩
  have hs : sizeLine = 16777216 := sizeLine_eq
  refine ⟨by rw [List.length_map, List.length_range]; omega, acc'.toList, c', ?_, by rw [Array.toArray_toList]; exact e'⟩
  obtain ⟨i1, i2⟩ := it
  have gen : ∀ (l : List Value) (k : Nat), (∀ j v, l[j]? = some v → ∃ t, v = Value.int (0 + ((k + j : Nat) : Int)) t) → Vals ((List.range l.length).map fun i => V.int (0 + ((k + i : Nat) : Int))) l := by
    intro l
    induction l with
    | nil => intro k _; exact .nil
    | cons a l ih =>
      intro k hk
      rw [List.length_cons, List.range_succ_eq_map, List.map_cons, List.map_map]
      obtain ⟨t, ht⟩ := hk 0 a rfl
      refine .cons ⟨t, by rw [ht]⟩ ?_
      have := ih (k + 1) (fun j v hj => by
        obtain ⟨t, ht⟩ := hk (j + 1) v hj
        exact ⟨t, by rw [ht, show k + (j + 1) = k + 1 + j by omega]⟩)
      refine (List.map_congr_left fun i _ => ?_) ▸ this
      show V.int (0 + ((k + 1 + i : Nat) : Int)) = V.int (0 + ((k + (i + 1) : Nat) : Int))
      rw [show k + 1 + i = k + (i + 1) by omega]
  have g0 := gen acc'.toList 0 fun j v hj => by
    obtain ⟨t, ht⟩ := i2 j v (by rw [← Array.getElem?_toList]; exact hj)
    refine ⟨t, ?_⟩
    rw [ht, Int.mul_one, Nat.zero_add]
  rw [Array.length_toList, i1] at g0
  have e0 : ((List.range n.toNat).map fun i => V.int (0 + ((0 + i : Nat) : Int))) = (List.range n.toNat).map fun i => V.int (0 + ((i : Nat) : Int)) := List.map_congr_left fun i _ => by rw [Nat.zero_add]
  rw [e0] at g0
  exact g0
def rAny (K : PySem.W.Frag) : List V → Hp → VK → Prop := fun xs H Q => ∃ (p : Addr) (bs : List Bool), xs = [.ref p] ∧ SqL K H p (bs.map V.bl) ∧ Q (.bl (bs.any id)) H
theorem range_any (bs : List Bool) : ((List.range bs.length).any fun i => (bs[i]?).getD false) = bs.any id := by
  have := congrArg (fun l : List Bool => l.any id) (map_range_get bs false id)
  simp only [List.any_map, List.map_id] at this
  exact this
theorem call_any (hc : X.calm = true) : CallR X (.builtin "any") (rAny X.K) := by
  intro pins s σ H xs us Q I r h
  obtain ⟨p, bs, rfl, hq, q⟩ := h
  cases r with
  | cons r1 rr =>
    cases rr
    cases r1
    obtain ⟨its, rv, pl, hz⟩ := I.list hq
    have hb := boolsAre rv
    have hl : s.heap.IsList p its.toArray := pl.isList
    have hlt : p < s.heap.objs.size := by obtain ⟨_, e, _⟩ := hl; exact Heap.lt_size e
    refine call_any_walk (wpAny_pyIter_list hl ?_)
    refine ⟨s.heap.objs.size, [s.heap.objs.size, p], [s.heap.objs.size], its.toArray.size, _, _, fun i => (bs[i]?).getD false, rfl, Walks.list (A := X.A.in1) (I.ok.hd hc) _ p (Nat.ne_of_lt hlt) its.toArray,
      ⟨⟨_, Heap.get?_push_size _ rfl, rfl, rfl⟩, hl.push _⟩, fun i v s' Q' E' hP hQ => ?_, fun h' tk hk => ?_⟩
    · obtain ⟨b, e, rfl⟩ := hb.get i v (by simpa using hP)
      simp only [e, Option.getD_some] at hQ
      exact wpAny_truthy_bool hQ
    · have e : ((List.range its.toArray.size).any fun i => (bs[i]?).getD false) = bs.any id := by
        rw [List.size_toArray, hb.length]; exact range_any bs
      rw [e]
      exact ⟨.bl _, H, I.kept (t' := tk) (LSm.kept_iter hk), rfl, q⟩
def unlike (ns : List Int) : Nat := (firstMet (fun i => ns.getD i 0) ns.length).length
theorem call_set_ints (hc : X.calm = true) : CallR X (.type "set") (fun xs H Q => ∃ (p : Addr) (ns : List Int), xs = [.ref p] ∧ SqL X.K H p (ns.map V.int) ∧ ns.length < 1000 ∧ ∀ l S, H l = none → Q (.ref l) (upd H l (.set S (unlike ns)))) := by
  intro pins s σ H xs us Q I r h
  obtain ⟨p, ns, rfl, hq, hz, q⟩ := h
  obtain ⟨u, rfl, rx⟩ := vals1 r
  cases rx
  obtain ⟨its, rv, pl, _⟩ := I.list hq
  have hi := intsAre_of rv
  have hl := rv.length
  rw [List.length_map] at hl
  refine call_set_list (ns := ns) (I.ok.hd hc) pl.isList (by simpa using hi) (by rw [List.size_toArray, ← hl]; exact Nat.lt_of_lt_of_le (Nat.succ_lt_succ hz) (by decide)) fun h' tk hs kp => ?_
  have hsz : its.toArray.size = ns.length := by rw [List.size_toArray, ← hl]
  rw [hsz] at hs
  exact ⟨.ref s.heap.objs.size, _, I.laid (t' := tk) (o := .set _ (unlike ns)) (fun b o e => kp b o (Heap.lt_size e) e) (Nat.le_refl _) hs, rfl, q _ _ (I.hok.fresh (Nat.le_refl _))⟩
theorem call_len_setI : CallR X (.builtin "len") (fun xs H Q => ∃ p S n, xs = [.ref p] ∧ H p = some (.set S n) ∧ Q (.int n) H) := by
  intro pins s σ H xs us Q I r h
  obtain ⟨p, S, n, rfl, hH, q⟩ := h
  obtain ⟨u, rfl, rx⟩ := vals1 r
  cases rx
  obtain ⟨o, es, ep, t, h1, h2, h3, _, _, h4, h5, h6⟩ := (show ObjOk X.prog X.w H s.heap p (.set S n) from I.hok p _ hH)
  subst h6
  refine call_len_set h1 h2 h3 h5 (by have : es.size < 4096 := h4; omega) ⟨.int _, H, I.tok _, ⟨_, rfl⟩, q⟩
theorem unlike_nodup {ns : List Int} (h : ns.Nodup) : unlike ns = ns.length := by
  have gen : ∀ i, i ≤ ns.length → firstMet (fun i => ns.getD i 0) i = ns.take i := by
    intro i
    induction i with
    | zero => intro _; rw [firstMet_zero]; simp
    | succ i ih =>
      intro hi
      rw [firstMet_succ, ih (by omega)]
      have hx : ns[i]? = some (ns[i]'(by omega)) := List.getElem?_eq_getElem _
      rw [take_get hx]
      have e : ns.getD i 0 = ns[i]'(by omega) := by rw [List.getD_eq_getElem?_getD, hx]; rfl
      show step_dedup (ns.take i) (ns.getD i 0) = _
      rw [e]
      unfold step_dedup
      have : ((ns.take i).any (· == ns[i]'(by omega))) = false := by
        rw [Bool.eq_false_iff]
        intro z
        obtain ⟨y, hy, hyy⟩ := List.any_eq_true.mp z
        have hy' : y = ns[i]'(by omega) := by simpa using hyy
        subst hy'
        obtain ⟨j, hj, hje⟩ := List.mem_iff_getElem.mp hy
        rw [List.getElem_take] at hje
        rw [List.length_take] at hj
        have := (List.getElem_inj (xs := ns) h).mp hje
        omega
      rw [this]
      rfl
  unfold unlike
  rw [gen ns.length (Nat.le_refl _), List.take_length]
end
section
variable {ι : Type} {F : Fam ι} {e a b c : Expr} {es : List Expr} {ρ : En} {t ta tb' : Tr} {ts : List Tr} {pos : Pos}
theorem ints_tr (l : List Int) : (l.map di).map Tr.fz = l.map fun n => Tr.fz (di n) := by rw [List.map_map]; rfl
theorem ev_listrange {n : Int} (hm : F.mg "list" = none) (hm2 : F.mg "range" = none) (ha : Ev F a ρ (ti n)) (h0 : 0 ≤ n) (h1 : n < 2 ^ 20) {p1 p2 pos1 : Pos} (hg : ∀ i, Gl (F.cx i) "list" := by intro _; rfl) (hg2 : ∀ i, Gl (F.cx i) "range" := by intro _; rfl)
    (hs : ∀ i, starEach [a] (F.cx i).env = [(false, eval a (F.cx i).env)] := by intro _; rfl) (hs2 : ∀ i, starEach [.Call (.Name "range" p2) [a] [] pos1] (F.cx i).env = [(false, eval (.Call (.Name "range" p2) [a] [] pos1) (F.cx i).env)] := by intro _; rfl) :
    Ev F (.Call (.Name "list" p1) [.Call (.Name "range" p2) [a] [] pos1] [] pos) ρ (.ow (((List.range n.toNat).map fun i => (0 + ((i : Nat) : Int))).map fun n => .fz (di n))) := by
  obtain ⟨τ, p, q⟩ := ha.use
  refine ⟨_, fun i => pe_callTy (call_list_rng (F.calm i)) (hg i) ((F.hm i).symm ▸ hm) bt_list (pa_cons (pe_range1 (hg2 i) ((F.hm i).symm ▸ hm2) (pa_cons (p i) pa_nil (hs i)) (hs i)) pa_nil (hs2 i)) (by decide) (by decide) (hs2 i) rfl, fun σ G H Q s rr k => q σ G H _ s rr fun x G1 H1 s1 hx => ?_⟩
  refine ⟨n, by rw [hvi hx], fun p0 hp0 => ⟨p0, n, rfl, upd_same, h0, h1, fun l hl => ?_⟩⟩
  have k2 := k.step (s1.trans (Step.newO (o := .rng 0 n) s1.s hp0))
  have e : ((List.range n.toNat).map fun i => V.int (0 + ((i : Nat) : Int))) = ((List.range n.toNat).map fun i => (0 + ((i : Nat) : Int))).map V.int := by rw [List.map_map]; rfl
  rw [e]
  refine k2.lst (s1.s.trans (Same.new hp0)) ?_ hl
  rw [← ints_tr]
  exact ints_hvl.owl
theorem ev_any {bs : List Bool} (hm : F.mg "any" = none) (ha : Ev F e ρ ta) (ea : er ta = .lst (bs.map db)) {p' : Pos} (hg : ∀ i, Gl (F.cx i) "any" := by intro _; rfl)
    (hs : ∀ i, starEach [e] (F.cx i).env = [(false, eval e (F.cx i).env)] := by intro _; rfl) : Ev F (.Call (.Name "any" p') [e] [] pos) ρ (tb (bs.any id)) :=
  ev_callB (r := rAny F.K) (fun i => F.hK i ▸ call_any (F.calm i)) hm bt_any (eva_cons ha eva_nil hs) (fun G H vs Q s hx k => by
    obtain ⟨x, rfl, hxx⟩ := hvl1 hx
    rw [ea] at hxx
    obtain ⟨l, ys, rfl, h1, h2⟩ := hxx
    have := hvl_bools h2
    subst this
    exact ⟨l, bs, rfl, s.seq h1, k.sc s rfl⟩) hg (by decide) (by decide) hs (fun _ => rfl)
theorem bt_set : bootBuiltins "set" = some (.type "set") := by decide +kernel
theorem ev_lenset {ns : List Int} (hm : F.mg "len" = none) (hm2 : F.mg "set" = none) (ha : Ev F a ρ ta) (ea : er ta = dis ns) (hz : ns.length < 1000) {p1 p2 pos1 : Pos} (hg : ∀ i, Gl (F.cx i) "len" := by intro _; rfl) (hg2 : ∀ i, Gl (F.cx i) "set" := by intro _; rfl)
    (hs : ∀ i, starEach [a] (F.cx i).env = [(false, eval a (F.cx i).env)] := by intro _; rfl) (hs2 : ∀ i, starEach [.Call (.Name "set" p2) [a] [] pos1] (F.cx i).env = [(false, eval (.Call (.Name "set" p2) [a] [] pos1) (F.cx i).env)] := by intro _; rfl) :
    Ev F (.Call (.Name "len" p1) [.Call (.Name "set" p2) [a] [] pos1] [] pos) ρ (ti (unlike ns : Nat)) := by
  obtain ⟨τ, p, q⟩ := ha.use
  refine ⟨tCB _ (tCons (tCB (fun xs H Q => ∃ (p : Addr) (ns : List Int), xs = [.ref p] ∧ SqL F.K H p (ns.map V.int) ∧ ns.length < 1000 ∧ ∀ l S, H l = none → Q (.ref l) (upd H l (.set S (unlike ns)))) (tCons τ tNil)) tNil), fun i => pe_callB call_len_setI (hg i) ((F.hm i).symm ▸ hm) bt_len (pa_cons (pe_callTy (F.hK i ▸ call_set_ints (F.calm i)) (hg2 i) ((F.hm i).symm ▸ hm2) bt_set (pa_cons (p i) pa_nil (hs i)) (by decide) (by decide) (hs i) rfl) pa_nil (hs2 i)) (by decide) (by decide) (hs2 i) rfl, fun σ G H Q s rr k => q σ G H _ s rr fun x G1 H1 s1 hx => ?_⟩
  rw [ea] at hx
  obtain ⟨l, ys, rfl, h1, h2⟩ := hx
  have := hvl_ints h2
  subst this
  refine ⟨l, ns, rfl, s1.s.seq h1, hz, fun l0 S hl0 => ⟨l0, S, _, rfl, upd_same, ?_⟩⟩
  exact (k.step (s1.trans (Step.newO (o := .set S (unlike ns)) s1.s hl0))).sc (s1.s.trans (Same.new hl0)) rfl
theorem OwL.erase {K : PySem.W.Frag} {G H : Hp} : ∀ {us : List Tr} {vs : List V} {fq : List Addr} {m : Nat} {u : Tr}, OwL K G H us vs fq → us[m]? = some u → fq.Nodup → ∃ v f fw, vs[m]? = some v ∧ Ow K G H u v f ∧ OwL K G H (us.eraseIdx m) (vs.eraseIdx m) fw ∧ fw.Nodup ∧ f.Nodup ∧ (∀ a ∈ fw, a ∈ fq) ∧ (∀ a ∈ f, a ∈ fq) ∧ ∀ a ∈ f, a ∉ fw
  | t :: us, _, _, 0, u, ⟨v, r, f1, f2, h1, h2, h3, h4⟩, hu, nd => by
    cases hu
    subst h1 h2
    have nda := List.nodup_append.mp nd
    exact ⟨v, f1, f2, rfl, h3, h4, nda.2.1, nda.1, fun a ha => List.mem_append_right _ ha, fun a ha => List.mem_append_left _ ha, fun a ha hb => nda.2.2 a ha a hb rfl⟩
  | t :: us, _, _, m + 1, u, ⟨v, r, f1, f2, h1, h2, h3, h4⟩, hu, nd => by
    subst h1 h2
    have nda := List.nodup_append.mp nd
    obtain ⟨v', f, fw, q1, q2, q3, q4, q5, q6, q7, q8⟩ := OwL.erase (m := m) h4 hu nda.2.1
    refine ⟨v', f, f1 ++ fw, q1, q2, ⟨v, _, f1, fw, rfl, rfl, h3, q3⟩, List.nodup_append.mpr ⟨nda.1, q4, fun a ha b hb e => nda.2.2 a ha b (q6 b hb) e⟩, q5, fun a ha => ?_, fun a ha => List.mem_append_right _ (q7 a ha), fun a ha hb => ?_⟩
    · rcases List.mem_append.mp ha with z | z
      · exact List.mem_append_left _ z
      · exact List.mem_append_right _ (q6 a z)
    · rcases List.mem_append.mp hb with z | z
      · exact nda.2.2 a z a (q7 a ha) rfl
      · exact q8 a ha z
theorem rn_append_pop (j j2 : Nat) {x y : Str} {us ws : List Tr} {d : Dv} {n : Int} {m : Nat} {nE : Expr} {p1 p2 p3 p4 p5 p6 : Pos} (hjj : j ≠ j2) (h : ρ[j]? = some (some (.ow us))) (h2 : ρ[j2]? = some (some (.ow ws))) (hn : EvS F nE ρ (ti n)) (hm : ixN ws.length n = some m) (hb : -(2 ^ 62) ≤ n ∧ n < 2 ^ 62) (hu : ws[m]? = some (.fz d)) (hz : us.length < sizeLine)
    (hN : ∀ i, (F.cx i).N[j]? = some x := by intro _; rfl) (hN2 : ∀ i, (F.cx i).N[j2]? = some y := by intro _; rfl)
    (hv : ∀ i, Vis (F.cx i).env.scope x := by intro _; first | exact Or.inl rfl | exact Or.inr (Or.inl rfl) | exact Or.inr (Or.inr rfl)) (hv2 : ∀ i, Vis (F.cx i).env.scope y := by intro _; first | exact Or.inl rfl | exact Or.inr (Or.inl rfl) | exact Or.inr (Or.inr rfl))
    (hd : (x == ("__debug__" : Str)) = false := by decide) (hc : (x == ("__classdict__" : Str)) = false := by decide) (hd2 : (y == ("__debug__" : Str)) = false := by decide) (hc2 : (y == ("__classdict__" : Str)) = false := by decide)
    (hbase : ∀ i, attributeBase (.Name x p1) "append" (F.cx i).env (eval (.Name x p1) (F.cx i).env) = eval (.Name x p1) (F.cx i).env := by intro _; rfl) (hbase2 : ∀ i, attributeBase (.Name y p4) "pop" (F.cx i).env (eval (.Name y p4) (F.cx i).env) = eval (.Name y p4) (F.cx i).env := by intro _; rfl)
    (hfew : ∀ i, ((backTo p3 (starEach [.Call (.Attribute (.Name y p4) "pop" p5) [nE] [] p6] (F.cx i).env)).all (fun x => !x.1) && (backToKw p3 (keywordEach [] (F.cx i).env)).all (fun x => x.1.isSome) && decide (([.Call (.Attribute (.Name y p4) "pop" p5) [nE] [] p6] : List Expr).length + ([] : List Keyword).length + (if ([] : List Keyword).isEmpty then 0 else 1) < 30)) = true := by intro _; rfl)
    (hfew2 : ∀ i, ((backTo p6 (starEach [nE] (F.cx i).env)).all (fun x => !x.1) && (backToKw p6 (keywordEach [] (F.cx i).env)).all (fun x => x.1.isSome) && decide (([nE] : List Expr).length + ([] : List Keyword).length + (if ([] : List Keyword).isEmpty then 0 else 1) < 30)) = true := by intro _; rfl)
    (hline : (p2.endLine == p3.line) = true := by rfl) (hline2 : (p5.endLine == p6.line) = true := by rfl) (hs : ∀ i, starEach [.Call (.Attribute (.Name y p4) "pop" p5) [nE] [] p6] (F.cx i).env = [(false, eval (.Call (.Attribute (.Name y p4) "pop" p5) [nE] [] p6) (F.cx i).env)] := by intro _; rfl) (hs2 : ∀ i, starEach [nE] (F.cx i).env = [(false, eval nE (F.cx i).env)] := by intro _; rfl)
    (hsw : ∀ i, swapsWith (.Call (.Attribute (.Name x p1) "append" p2) [.Call (.Attribute (.Name y p4) "pop" p5) [nE] [] p6] [] p3) none pos.line (F.cx i).env = pure false := by intro _; rfl) :
    Rn F (.Expr (.Call (.Attribute (.Name x p1) "append" p2) [.Call (.Attribute (.Name y p4) "pop" p5) [nE] [] p6] [] p3) pos) ρ (.nx ((ρ.set j2 (some (.ow (ws.eraseIdx m)))).set j (some (.ow (us ++ [.fz d]))))) := by
  obtain ⟨τn, yn, zn⟩ := hn
  refine ⟨tDrop (tBM F.K "list" rAppend (tVar j) (tCons (tBM F.K "list" rPopAt (tVar j2) (tCons τn tNil)) tNil)), fun i => ps_expr (F.hK i ▸ pe_bm PySem.F.plainAttrs_list PySem.F.slot_list_append PySem.F.type_list_append mt_append (pe_var (hN i) (hv i) hd hc) (pa_cons (pe_bm PySem.F.plainAttrs_list PySem.F.slot_list_pop PySem.F.type_list_pop mt_popAt (pe_var (hN2 i) (hv2 i) hd2 hc2) (pa_cons (yn i) pa_nil (hs2 i)) (hbase2 i) (hfew2 i) hline2 (hs2 i) rfl) pa_nil (hs i)) (hbase i) (hfew i) hline (hs i) rfl) (hsw i), fun D σ G0 H0 G H r k => ?_⟩
  obtain ⟨fp, r⟩ := r
  obtain ⟨l0, vs0, fq0, c1, c2, _⟩ := r.mut h (.refl r.st.s)
  obtain ⟨l2, vs2, fq2, e1, e2, _⟩ := r.mut h2 (.refl r.st.s)
  refine ⟨_, c1, .inl ⟨rfl, _, SqL.of c2⟩, _, e1, .inl ⟨rfl, _, SqL.of e2⟩, ?_⟩
  refine zn σ G H fp _ r.st.s r.own r.g fun vn G1 H1 f1 s1 o1 w1 => ?_
  obtain ⟨l, vs, fq, d1, d2, d3, d4, d5, d6, d7⟩ := r.mut h2 s1
  rw [e1] at d1
  cases d1
  obtain ⟨v, f, fw, g1, g2, g3, g4, g5, g6, g7, g8⟩ := d4.erase hu d5
  obtain ⟨rfl, hv'⟩ := g2
  obtain ⟨ix1, ix2, ix3, ix4⟩ := ixN_seq hm
  refine ⟨l2, vs, n, m, v, rfl, by rw [hvi o1.2], d3, by omega, by omega, by rw [← d4.length]; exact ix1, g1, ?_⟩
  have r2 := d7 (ws.eraseIdx m) (vs.eraseIdx m) fw g3 g4 fun a ha => .inl (g6 a ha)
  obtain ⟨fp2, r2⟩ := r2
  have hj' : (ρ.set j2 (some (.ow (ws.eraseIdx m))))[j]? = some (some (.ow us)) := by rw [List.getElem?_set_ne (Ne.symm hjj)]; exact h
  obtain ⟨l3, vs3, fq3, b1, b2, b3, b4, b5, b6, b7⟩ := r2.mut hj' (.refl r2.st.s)
  rw [c1] at b1
  cases b1
  refine ⟨l0, vs3, v, rfl, rfl, b2, by rw [← b4.length]; exact hz, k σ G1 _ ?_⟩
  exact b7 (us ++ [.fz d]) (vs3 ++ [v]) (fq3 ++ ([] ++ [])) (b4.append (us := [.fz d]) ⟨v, [], [], [], rfl, rfl, ⟨rfl, hv'⟩, rfl, rfl⟩) (by simpa using b5) fun a ha => .inl (by simpa using ha)
end
end L2
namespace L2
open PySem PySem.Spec PyProof.Rows
theorem enu_get {xs : List Dv} {k : Nat} {d : Dv} (h : (enuD xs)[k]? = some d) : ∃ x, xs[k]? = some x ∧ d = .tup [di (k : Nat), x] := by
  unfold enuD at h
  rw [List.getElem?_zipWith] at h
  cases hx : xs[k]? with
  | none =>
    rw [hx] at h
    cases q2 : (List.range xs.length)[k]? with
    | none => rw [q2] at h; cases h
    | some z => rw [q2] at h; cases h
  | some x =>
    have lj : k < xs.length := (List.getElem?_eq_some_iff.mp hx).1
    rw [hx, List.getElem?_range lj] at h
    cases h
    exact ⟨x, rfl, rfl⟩
theorem er_map {α : Type} (l : List α) (f : α → Int) : er (.ow (l.map fun k => Tr.fz (di (f k)))) = dis (l.map f) := by
  show Dv.lst _ = Dv.lst _
  rw [ers_map, List.map_map, List.map_map]; rfl
abbrev tInts (l : List Int) : Tr := .ow (l.map fun n => .fz (di n))
abbrev tRows (L : List (List Int)) : Tr := .ow (L.map tInts)
theorem er_tInts (l : List Int) : er (tInts l) = dis l := by
  show Dv.lst _ = _
  rw [ers_map, List.map_map]; rfl
theorem er_tRows (L : List (List Int)) : er (tRows L) = .lst (L.map dis) := by
  show Dv.lst _ = _
  rw [ers_map, List.map_map]
  congr 1
  exact List.map_congr_left fun l _ => er_tInts l
theorem cl_tRows : ∀ L : List (List Int), Cls' (L.map tInts)
  | [] => True.intro
  | l :: L => ⟨cl_ints l, cl_tRows L⟩
theorem okD_rows (L : List (List Int)) : okD (.lst (L.map dis)) = true := okD_lst okD_dis L
theorem dpD_rows (L : List (List Int)) : dpD (.lst (L.map dis)) ≤ 2 := dpD_lst fun d hd => by
  obtain ⟨m, _, rfl⟩ := List.mem_map.mp hd
  exact dpD_dis m
def tabD (c : List Int) (os : List (List Int)) : Dv := .tup [dis c, .lst (os.map dis)]
theorem okD_tab (c : List Int) (os : List (List Int)) : okD (tabD c os) = true := by
  show (okD (dis c) && (okD (.lst (os.map dis)) && true)) = true
  rw [okD_dis, okD_rows]; rfl
theorem dpD_tab (c : List Int) (os : List (List Int)) : dpD (tabD c os) ≤ 3 := dpD_tup fun d hd => by
  rcases List.mem_cons.mp hd with rfl | hd
  · exact Nat.le_trans (dpD_dis c) (by decide)
  · rw [List.mem_singleton.mp hd]; exact dpD_rows os
def restF (n : Nat) (o : List Int) : List Int := ((List.range n).filter fun k => !o.contains (0 + ((k : Nat) : Int))).map fun k => 0 + ((k : Nat) : Int)
def fullF (n : Nat) (o : List Int) : List Int := o ++ [(n : Int)] ++ restF n o
theorem restF_len (n : Nat) (o : List Int) : (restF n o).length ≤ n := by
  unfold restF
  rw [List.length_map]
  have := List.length_filter_le (fun k => !o.contains (0 + ((k : Nat) : Int))) (List.range n)
  rwa [List.length_range] at this
theorem atI_get? {α : Type} {l : List α} {k : Nat} {x : α} (h : l[k]? = some x) : atI l ((k : Nat) : Int) = some x := atI_nat h
structure TabOk (c : List Int) (os : List (List Int)) : Prop where
  c6 : c.length ≤ 6
  cnt : ∀ x ∈ c, 0 ≤ x ∧ x ≤ 9
  o1 : 1 ≤ os.length
  o6 : os.length ≤ 6
  nd : ∀ o ∈ os, o.Nodup
  rng : ∀ o ∈ os, ∀ x ∈ o, 0 ≤ x ∧ x < c.length
theorem nodup_len {n : Nat} {l : List Int} (nd : l.Nodup) (h : ∀ x ∈ l, 0 ≤ x ∧ x < n) : l.length ≤ n := by
  have sub : l ⊆ (List.range n).map fun k => ((k : Nat) : Int) := fun x hx => by
    obtain ⟨h0, h1⟩ := h x hx
    exact List.mem_map.mpr ⟨x.toNat, List.mem_range.mpr (by omega), by omega⟩
  have := nd.length_le_of_subset sub
  simpa using this
theorem TabOk.olen {c : List Int} {os : List (List Int)} (h : TabOk c os) {o : List Int} (ho : o ∈ os) : o.length ≤ 6 := Nat.le_trans (nodup_len (h.nd o ho) (h.rng o ho)) h.c6
end L2
namespace L2
open PySem PySem.Spec PyProof.Rows
theorem EvI.to {ι : Type} {F : Fam ι} {tg iter : Expr} {ρ : En} {a b : List Dv} (h : EvI F tg iter ρ a) (e : a = b) : EvI F tg iter ρ b := e ▸ h
theorem erase_perm {α : Type} : ∀ {l : List α} {m : Nat} (h : m < l.length), (l[m] :: l.eraseIdx m).Perm l
  | x :: l, 0, _ => .refl _
  | x :: l, m + 1, h => by
    have h' : m < l.length := by simpa using h
    show (l[m] :: x :: l.eraseIdx m).Perm (x :: l)
    exact (List.Perm.swap ..).trans ((erase_perm h').cons x)
theorem erase_map {α β : Type} (f : α → β) : ∀ (l : List α) (m : Nat), (l.map f).eraseIdx m = (l.eraseIdx m).map f
  | [], _ => rfl
  | _ :: _, 0 => rfl
  | x :: l, m + 1 => by
    show f x :: (l.map f).eraseIdx m = f x :: (l.eraseIdx m).map f
    rw [erase_map f l m]
end L2
namespace L2
open PySem PySem.Spec PyProof.Rows
section
variable {ι : Type} {F : Fam ι} {e a b c : Expr} {es : List Expr} {ρ : En} {t ta tb' : Tr} {ts : List Tr} {pos : Pos}
theorem filt_get {α β : Type} (q : α → Bool) (h : α → β) (d : β) : ∀ l : List α, ((List.range l.length).filter fun k => ((l[k]?).map q).getD false).map (fun k => ((l[k]?).map h).getD d) = (l.filter q).map h
  | [] => rfl
  | a :: l => by
    have ih := filt_get q h d l
    rw [List.length_cons, List.range_succ_eq_map, List.filter_cons, List.filter_cons, List.filter_map]
    show List.map _ (if q a = true then _ else _) = _
    cases q a with
    | true =>
      show h a :: ((_ : List Nat).map Nat.succ).map _ = h a :: _
      rw [List.map_map, ← ih]; rfl
    | false =>
      show ((_ : List Nat).map Nat.succ).map _ = _
      rw [List.map_map]; exact ih
variable {js : List Nat} {sp : Dv → Option (List Dv)} {elt tg iter : Expr}
theorem elcf {α : Type} (l : List α) (g : α → Dv) (q : α → Bool) (h : α → Tr) {ifs : List Expr} {sc : Scope} {own : List Str} {fr : List Nat} {cl : ι → List (Str × Addr)} (hi : EvI F tg iter ρ (l.map g)) (hg : EvG (famLc F own fr sc cl) tg js sp) (hjs : ∀ j ∈ js, j < own.length) (hz : l.length < sizeLine)
    (step : ∀ a ∈ l, ∃ dd, sp (g a) = some dd ∧ El (famLc F own fr sc cl) ifs (setAll js (dd.map .fz) (lcEn own fr ρ)) (q a) ∧ (q a = true → Ev (famLc F own fr sc cl) elt (setAll js (dd.map .fz) (lcEn own fr ρ)) (h a)))
    (hdrop : ∀ dd : List Dv, dropAll js (setAll js (dd.map .fz) (lcEn own fr ρ)) = lcEn own fr ρ) : Elc F own fr sc cl elt tg iter ifs ρ (.ow ((l.filter q).map h)) := by
  have := elc (ifs := ifs) hi hg hjs (fun k => ((l[k]?).map q).getD false) (fun k => ((l[k]?).map h).getD tn) (by rw [List.length_map]; exact hz) (fun k d hd => by
    obtain ⟨a, ha, rfl⟩ := map_get hd
    obtain ⟨dd, s1, s2, s3⟩ := step a (List.mem_of_getElem? ha)
    refine ⟨dd, s1, ?_, ?_⟩
    · show El _ _ _ (((l[k]?).map q).getD false)
      rw [ha]; exact s2
    · show ((l[k]?).map q).getD false = true → Ev _ _ _ (((l[k]?).map h).getD tn)
      rw [ha]; exact s3) hdrop
  rw [List.length_map, filt_get] at this
  exact this
theorem elcm {α : Type} (l : List α) (g : α → Dv) (h : α → Tr) {sc : Scope} {own : List Str} {fr : List Nat} {cl : ι → List (Str × Addr)} (hi : EvI F tg iter ρ (l.map g)) (hg : EvG (famLc F own fr sc cl) tg js sp) (hjs : ∀ j ∈ js, j < own.length) (hz : l.length < sizeLine)
    (step : ∀ a ∈ l, ∃ dd, sp (g a) = some dd ∧ Ev (famLc F own fr sc cl) elt (setAll js (dd.map .fz) (lcEn own fr ρ)) (h a))
    (hdrop : ∀ dd : List Dv, dropAll js (setAll js (dd.map .fz) (lcEn own fr ρ)) = lcEn own fr ρ) : Elc F own fr sc cl elt tg iter [] ρ (.ow (l.map h)) := by
  have := elcf l g (fun _ => true) h hi hg hjs hz (fun a ha => let ⟨dd, s1, s2⟩ := step a ha; ⟨dd, s1, el_nil, fun _ => s2⟩) hdrop
  rwa [List.filter_eq_self.mpr fun _ _ => rfl] at this
theorem ev_lcf {α : Type} (l : List α) (g : α → Dv) (q : α → Bool) (h : α → Tr) {ifs : List Expr} {sc : Scope} {own : List Str} {fr : List Nat} {cl : ι → List (Str × Addr)} (L : ∀ i, LcScope (F.cx i) sc (cl i) fr) (hi : EvI F tg iter ρ (l.map g)) (hg : EvG (famLc F own fr sc cl) tg js sp) (hjs : ∀ j ∈ js, j < own.length) (hz : l.length < sizeLine)
    (step : ∀ a ∈ l, ∃ dd, sp (g a) = some dd ∧ El (famLc F own fr sc cl) ifs (setAll js (dd.map .fz) (lcEn own fr ρ)) (q a) ∧ (q a = true → Ev (famLc F own fr sc cl) elt (setAll js (dd.map .fz) (lcEn own fr ρ)) (h a)))
    (hdrop : ∀ dd : List Dv, dropAll js (setAll js (dd.map .fz) (lcEn own fr ρ)) = lcEn own fr ρ) (hs : ∀ i x, foldedSetIterable iter (F.cx i).env x = pure x := by intro _ _; rfl) : Ev F (.ListComp elt [⟨tg, iter, ifs, 0⟩] sc pos) ρ (.ow ((l.filter q).map h)) := by
  have := ev_lc (ifs := ifs) (pos := pos) L hi hg hjs (fun k => ((l[k]?).map q).getD false) (fun k => ((l[k]?).map h).getD tn) (by rw [List.length_map]; exact hz) (fun k d hd => by
    obtain ⟨a, ha, rfl⟩ := map_get hd
    obtain ⟨dd, s1, s2, s3⟩ := step a (List.mem_of_getElem? ha)
    refine ⟨dd, s1, ?_, ?_⟩
    · show El _ _ _ (((l[k]?).map q).getD false)
      rw [ha]; exact s2
    · show ((l[k]?).map q).getD false = true → Ev _ _ _ (((l[k]?).map h).getD tn)
      rw [ha]; exact s3) hdrop hs
  rw [List.length_map, filt_get] at this
  exact this
theorem ev_lcm {α : Type} (l : List α) (g : α → Dv) (h : α → Tr) {sc : Scope} {own : List Str} {fr : List Nat} {cl : ι → List (Str × Addr)} (L : ∀ i, LcScope (F.cx i) sc (cl i) fr) (hi : EvI F tg iter ρ (l.map g)) (hg : EvG (famLc F own fr sc cl) tg js sp) (hjs : ∀ j ∈ js, j < own.length) (hz : l.length < sizeLine)
    (step : ∀ a ∈ l, ∃ dd, sp (g a) = some dd ∧ Ev (famLc F own fr sc cl) elt (setAll js (dd.map .fz) (lcEn own fr ρ)) (h a))
    (hdrop : ∀ dd : List Dv, dropAll js (setAll js (dd.map .fz) (lcEn own fr ρ)) = lcEn own fr ρ) (hs : ∀ i x, foldedSetIterable iter (F.cx i).env x = pure x := by intro _ _; rfl) : Ev F (.ListComp elt [⟨tg, iter, [], 0⟩] sc pos) ρ (.ow (l.map h)) := by
  have := ev_lcf (pos := pos) l g (fun _ => true) h L hi hg hjs hz (fun a ha => let ⟨dd, s1, s2⟩ := step a ha; ⟨dd, s1, el_nil, fun _ => s2⟩) hdrop hs
  rwa [List.filter_eq_self.mpr fun _ _ => rfl] at this
theorem er_ow_map {α : Type} (l : List α) (h : α → Tr) : er (.ow (l.map h)) = .lst (l.map fun a => er (h a)) := by
  show Dv.lst (ers _) = _
  rw [ers_map, List.map_map]; rfl
end
end L2
namespace L2
open PySem PySem.Spec PyProof.Rows Fra
section
variable {ι : Type} {F : Fam ι} {e a b c : Expr} {es : List Expr} {ρ : En} {t ta tb' : Tr} {ts : List Tr} {pos : Pos}
theorem ev_callD {k : Nat} {f : Addr} {fd : FuncData} {ps : List Str} {R : List Dv → Tr → Prop} {x : Str} {n : Int} {tk : Tok} (Fn : Kn F.P F.w F.K F.mg F.base CX0 k x f fd ps (spT F.K R)) (B : Binds F.K fd ps [.int n tk]) (hk : k ≤ F.room) (ha : EvA F (e :: es) ρ ts) (hR : R (ers ts ++ [di n]) t) {p' : Pos} (hg : ∀ i, Gl (F.cx i) x := by intro _; rfl) (hdb : (x == ("__debug__" : Str)) = false := by decide)
    (he : ∀ i, starEach (e :: es) (F.cx i).env = (false, eval e (F.cx i).env) :: starEach es (F.cx i).env := by intro _; rfl) (hpl : ∀ i, (backTo pos (starEach es (F.cx i).env)).any (·.1) = false := by intro _; rfl) : Ev F (.Call (.Name x p') (e :: es) [] pos) ρ t := by
  obtain ⟨τ, y, z⟩ := ha.use
  refine ⟨tCall (spT F.K R) [.int n] E0 τ, fun i => ?_, fun σ G H Q s rr k => z σ G H _ s rr fun vs G1 H1 s1 hx => ?_⟩
  · have Fn' : Kn (F.cx i).prog (F.cx i).w (F.cx i).K (F.cx i).mg (F.cx i).base CX0 k x f fd ps (spT F.K R) := by
      rw [F.hP i, F.hw i, F.hK i, F.hm i, F.hb i]
      exact Fn
    exact pe_call Fn'.ok ((F.hr i).mono hk) (hg i) Fn'.mgx Fn'.kp (by rw [F.hK i]; exact B) (.cons ⟨tk, rfl⟩ .nil) pass0 (y i) hdb (he i) (hpl i)
  · show spT F.K R (vs ++ [.int n]) H1 Q E0
    have app : ∀ {ds : List Dv} {vs : List V}, HvL F.K G1 ds vs → HvL F.K G1 (ds ++ [di n]) (vs ++ [.int n]) := by
      intro ds
      induction ds with
      | nil => intro vs h; have h' : vs = [] := h; subst h'; exact ⟨_, _, rfl, ⟨rfl, rfl⟩, rfl⟩
      | cons d ds ih => intro vs ⟨x, r, h1, h2, h3⟩; subst h1; exact ⟨x, _, rfl, h2, ih h3⟩
    exact ⟨G1, _, t, s1.s, app hx, hR, k.step s1⟩
theorem ev_intb {q : Bool} (hm : F.mg "int" = none) (ha : Ev F e ρ (tb q)) {p' : Pos} (hg : ∀ i, Gl (F.cx i) "int" := by intro _; rfl)
    (hs : ∀ i, starEach [e] (F.cx i).env = [(false, eval e (F.cx i).env)] := by intro _; rfl) : Ev F (.Call (.Name "int" p') [e] [] pos) ρ (ti (if q then 1 else 0)) :=
  ev_callT (r := fun xs H Q => (∃ i, xs = [.int i] ∧ Q (.int i) H) ∨ ∃ k, xs = [.bl k] ∧ Q (.int (if k then 1 else 0)) H) (fun i => call_int1) hm bt_int (eva_cons ha eva_nil hs) (fun G H vs Q s hx k => by
    obtain ⟨x, rfl, hxx⟩ := hvl1 hx
    exact .inr ⟨q, by rw [hvi hxx], k.sc s rfl⟩) hg (by decide) (by decide) hs (fun _ => rfl)
end
abbrev dF (p : Int × Int) : Dv := .tup [di p.1, di p.2]
abbrev tF (p : Int × Int) : Tr := .fz (dF p)
def fW (W s : Int) : Int × Int := (lT s W, lB s W)
theorem fW_pos {W s : Int} (h : 0 < W) : 0 < (fW W s).2 := by have := lB_ge (t := s) (show W ≠ 0 by omega); show 0 < lB s W; omega
theorem fW_le {W s : Int} (h : 0 < W) : (fW W s).2 ≤ W := by have := lB_le (t := s) (show W ≠ 0 by omega); show lB s W ≤ W; omega
theorem fW_top {W s : Int} (h : 0 < W) : (fW W s).1.natAbs ≤ s.natAbs := lT_abs (show W ≠ 0 by omega)
theorem fW_cross {W s : Int} (h : 0 < W) : (fW W s).1 * W = s * (fW W s).2 := l_cross (show W ≠ 0 by omega)
theorem fW_nonneg {W s : Int} (h : 0 < W) (hs : 0 ≤ s) : 0 ≤ (fW W s).1 := by
  have c := fW_cross (s := s) h
  have p := fW_pos (s := s) h
  rcases Int.lt_or_le (fW W s).1 0 with z | z
  · have : (fW W s).1 * W < 0 := Int.mul_neg_of_neg_of_pos z h
    have : 0 ≤ s * (fW W s).2 := Int.mul_nonneg hs (by omega)
    omega
  · exact z
theorem fW_same {W s t b : Int} (h : 0 < W) (hb : b ≠ 0) (e : t * W = s * b) : (lT t b, lB t b) = fW W s := by
  obtain ⟨h1, h2⟩ := l_eq hb (show W ≠ 0 by omega) e
  show _ = (_, _)
  rw [h1, h2]
theorem fW_plus {W s t : Int} (h : 0 < W) : (lT ((fW W s).1 * (fW W t).2 + (fW W t).1 * (fW W s).2) ((fW W s).2 * (fW W t).2), lB ((fW W s).1 * (fW W t).2 + (fW W t).1 * (fW W s).2) ((fW W s).2 * (fW W t).2)) = fW W (s + t) := by
  have p1 := fW_pos (s := s) h
  have p2 := fW_pos (s := t) h
  have c1 := fW_cross (s := s) h
  have c2 := fW_cross (s := t) h
  generalize (fW W s).1 = a at *
  generalize (fW W s).2 = b at *
  generalize (fW W t).1 = c at *
  generalize (fW W t).2 = d at *
  refine fW_same h (by have := Int.mul_pos p1 p2; omega) ?_
  have e1 : (a * d + c * b) * W = (a * W) * d + (c * W) * b := by
    rw [Int.add_mul, Int.mul_right_comm a d W, Int.mul_right_comm c b W]
  rw [e1, c1, c2, Int.add_mul, Int.mul_assoc s b d, Int.mul_assoc t d b, Int.mul_comm d b]
theorem fW_inj {W s t : Int} (h : 0 < W) (e : fW W s = fW W t) : s = t := by
  have c1 := fW_cross (s := s) h
  have c2 := fW_cross (s := t) h
  rw [e] at c1
  have p := fW_pos (s := t) h
  have : s * (fW W t).2 = t * (fW W t).2 := by rw [← c1, ← c2]
  exact Int.eq_of_mul_eq_mul_right (by omega) this
theorem fW_self {W : Int} (h : 0 < W) : fW W W = (1, 1) := by
  have := l_unique (t := W) (b := W) (p := 1) (q := 1) (by omega) (by decide) (by decide) (by rw [Int.one_mul, Int.mul_one])
  show (_, _) = _
  rw [← this.1, ← this.2]
theorem fW_zero {W : Int} (h : 0 < W) : fW W 0 = (0, 1) := by
  have := l_unique (t := 0) (b := W) (p := 0) (q := 1) (by omega) (by decide) (by decide) (by rw [Int.zero_mul, Int.zero_mul])
  show (_, _) = _
  rw [← this.1, ← this.2]
theorem fW_lt {W s t : Int} (h : 0 < W) : (fW W s).1 * (fW W t).2 < (fW W t).1 * (fW W s).2 ↔ s < t := by
  have p1 := fW_pos (s := s) h
  have p2 := fW_pos (s := t) h
  have c1 := fW_cross (s := s) h
  have c2 := fW_cross (s := t) h
  generalize (fW W s).1 = a at *
  generalize (fW W s).2 = b at *
  generalize (fW W t).1 = c at *
  generalize (fW W t).2 = d at *
  have bd : 0 < b * d := Int.mul_pos p1 p2
  have e1 : a * d * W = s * (b * d) := by rw [Int.mul_right_comm, c1, Int.mul_assoc]
  have e2 : c * b * W = t * (b * d) := by rw [Int.mul_right_comm, c2, Int.mul_assoc, Int.mul_comm d b]
  constructor
  · intro z
    have := Int.mul_lt_mul_of_pos_right z h
    rw [e1, e2] at this
    exact Int.lt_of_mul_lt_mul_right this (by omega)
  · intro z
    have := Int.mul_lt_mul_of_pos_right z bd
    rw [← e1, ← e2] at this
    exact Int.lt_of_mul_lt_mul_right this (by omega)
end L2
namespace L2
open PySem PySem.Spec PyProof.Rows
section
variable {ι : Type} {F : Fam ι} {e a b c : Expr} {es : List Expr} {ρ : En} {t ta tb' : Tr} {ts : List Tr} {pos : Pos}
theorem Rn.to {st : Stmt} {ρ1 ρ2 : En} (h : Rn F st ρ (.nx ρ1)) (e : ρ1 = ρ2) : Rn F st ρ (.nx ρ2) := e ▸ h
end
end L2
namespace L2
open PySem PySem.Spec PyProof.Rows
theorem RS.frz {K : PySem.W.Frag} {G0 H0 G H : Hp} {ρ : En} {σ : St} {j : Nat} {t : Tr} (r : RS K G0 H0 G H ρ σ) (h : ρ[j]? = some (some t)) : ∃ G1, RS K G0 H0 G1 H (ρ.set j (some (.fz (er t)))) σ := by
  obtain ⟨fp, r⟩ := r
  obtain ⟨v, f, fr, q1, q2, q3, q4⟩ := r.own.split h
  have nd := q4.nodup_iff.mp r.d
  have inf : ∀ a ∈ f, a ∈ fp := fun a ha => q4.mem_iff.mpr (List.mem_append_left _ ha)
  have inr : ∀ a ∈ fr, a ∈ fp := fun a ha => q4.mem_iff.mpr (List.mem_append_right _ ha)
  have w : Nw H0 G f := ⟨fun a ha => r.n a (inf a ha), fun a ha => r.g a (inf a ha), (List.nodup_append.mp nd).1⟩
  have hv : Hv K (frzd G H f) (er t) v := q2.hv (frzd_same w.g) fun a ha => frzd_in ha
  have own2 : OwS K (frzd G H f) H (ρ.set j none) σ fr := q3.mono (frzd_same w.g) (Same.refl H)
  have hj : j < ρ.length := by
    rcases Nat.lt_or_ge j ρ.length with z | z
    · exact z
    · rw [List.getElem?_eq_none z] at h; cases h
  obtain ⟨fp', p1, p2⟩ := own2.put (get_set_none hj) (t := .fz (er t)) (v := v) (f := []) ⟨rfl, hv⟩
  rw [List.set_set] at p1
  have es : σ.set j (some v) = σ := by
    refine List.ext_getElem? fun i => ?_
    rw [List.getElem?_set]
    split
    · rename_i e
      subst e
      split
      · exact q1.symm
      · rename_i z; rw [List.getElem?_eq_none (by omega)] at q1; cases q1
    · rfl
  rw [es] at p1
  have inq : ∀ a ∈ fp', a ∈ fr := fun a ha => by simpa using p2.mem_iff.mp ha
  refine ⟨frzd G H f, fp', r.st.frz w, p1, fun a ha => ?_, fun a ha => r.n a (inr a (inq a ha)), p2.nodup_iff.mpr (by simpa using (List.nodup_append.mp nd).2.1)⟩
  have hn : a ∉ f := fun z => (List.nodup_append.mp nd).2.2 a z a (inq a ha) rfl
  rw [frzd_out hn]
  exact r.g a (inr a (inq a ha))
section
variable {ι : Type} {F : Fam ι} {sts : List Stmt} {ρ : En} {o : Out} {t : Tr}
theorem rns_frz (j : Nat) (h : ρ[j]? = some (some t)) (hr : Rns F sts (ρ.set j (some (.fz (er t)))) o) : Rns F sts ρ o := by
  obtain ⟨τ, x, y⟩ := hr
  exact ⟨τ, x, fun D σ G0 H0 G H r k => by
    obtain ⟨G1, r1⟩ := r.frz h
    exact y D σ G0 H0 G1 H r1 k⟩
end
theorem lcs2' {X : Cx} {own0 : List Str} {fr0 : List Nat} {sc0 : Scope} {cl0 : List (Str × Addr)} {C : Addr} {s : Shared} {H : Hp} {ex : List Addr} {pn : List (Addr × Obj)} {sc : Scope} {fr : List Nat} (N2 : List Str)
    (L : LcNames2 N2 sc0 sc fr) (hcl : ∀ y, (y, NameKind.free) ∈ sc0.names → ∃ c, cl0.lookup y = some c) (eN : (own0 ++ fr0.map fun j => X.N.getD j "") = N2 := by rfl) :
    LcScope (cxLc X own0 fr0 sc0 cl0 C s H ex pn) sc (closF (cellsFrom (C + 1) sc0.names cl0) sc.names []) fr := by
  subst eN
  exact lcs2 L hcl
end L2
namespace L2
open PySem PySem.Spec PyProof.Rows
theorem ints_ow {K : PySem.W.Frag} {G H : Hp} : ∀ {o : List Int} {xs : List V} {fq : List Addr}, OwL K G H (o.map fun n => .fz (di n)) xs fq → xs = o.map V.int ∧ fq = []
  | [], _, _, h => h
  | n :: o, _, _, ⟨v, r, f1, f2, h1, h2, ⟨h3, h3'⟩, h4⟩ => by
    obtain ⟨e1, e2⟩ := ints_ow h4
    subst h1 h2 h3 e1 e2
    rw [hvi h3']
    exact ⟨rfl, rfl⟩
theorem rows_ow {K : PySem.W.Frag} {G H : Hp} : ∀ {os : List (List Int)} {vs : List V} {fq : List Addr}, OwL K G H (os.map tInts) vs fq → ∃ ps : List (Addr × List Int), vs = ps.map (fun p => V.ref p.1) ∧ fq = ps.map (·.1) ∧ ps.map (·.2) = os ∧ ∀ p ∈ ps, H p.1 = some (.lst (p.2.map V.int))
  | [], _, _, ⟨h1, h2⟩ => ⟨[], h1, h2, rfl, fun _ z => nomatch z⟩
  | o :: os, _, _, ⟨v, r, f1, f2, h1, h2, ⟨a, xs, fa, g1, g2, g3, g4⟩, h4⟩ => by
    obtain ⟨ps, e1, e2, e3, e4⟩ := rows_ow h4
    obtain ⟨i1, i2⟩ := ints_ow g3
    subst h1 h2 e1 e2 g1 g4 i1 i2
    refine ⟨(a, o) :: ps, rfl, rfl, by rw [List.map_cons, e3], fun p hp => ?_⟩
    rcases List.mem_cons.mp hp with rfl | hp
    · exact g2
    · exact e4 p hp
def Md (f : List Addr) (H H2 : Hp) : Prop := ∀ b o, b ∉ f → H b = some o → H2 b = some o
theorem Md.refl {f : List Addr} {H : Hp} : Md f H H := fun _ _ _ h => h
theorem Md.trans {f : List Addr} {H H1 H2 : Hp} (a : Md f H H1) (b : Md f H1 H2) : Md f H H2 := fun x o n h => b x o n (a x o n h)
theorem Md.upd {f : List Addr} {H : Hp} {l : Addr} {o : HO} (hl : l ∈ f) : Md f H (L2.upd H l o) := fun b u n h => by
  rw [upd_ne (show b ≠ l from fun z => n (z ▸ hl))]; exact h
theorem Md.sub {f f' : List Addr} {H H' : Hp} (m : Md f H H') (s : ∀ a ∈ f, a ∈ f') : Md f' H H' := fun b o n h => m b o (fun z => n (s b z)) h
mutual
theorem Ow.agree {K : PySem.W.Frag} {G H H2 : Hp} : ∀ {t : Tr} {v : V} {fp : List Addr}, Ow K G H t v fp → (∀ a ∈ fp, H2 a = H a) → Ow K G H2 t v fp
  | .fz _, _, _, h, _ => h
  | .ow _, _, _, ⟨b, vs, fq, h1, h2, h3, h4⟩, n => by
    subst h4
    exact ⟨b, vs, fq, h1, (n b (.head _)).trans h2, OwL.agree h3 fun a z => n a (.tail _ z), rfl⟩
  | .tp _, _, _, ⟨b, vs, fq, h1, h2, h3, h4⟩, n => by
    subst h4
    exact ⟨b, vs, fq, h1, (n b (.head _)).trans h2, OwL.agree h3 fun a z => n a (.tail _ z), rfl⟩
theorem OwL.agree {K : PySem.W.Frag} {G H H2 : Hp} : ∀ {ts : List Tr} {vs : List V} {fp : List Addr}, OwL K G H ts vs fp → (∀ a ∈ fp, H2 a = H a) → OwL K G H2 ts vs fp
  | [], _, _, h, _ => h
  | _ :: _, _, _, ⟨v, r, f1, f2, h1, h2, h3, h4⟩, n => by
    subst h2
    exact ⟨v, r, f1, f2, h1, rfl, h3.agree fun a z => n a (List.mem_append_left _ z), OwL.agree h4 fun a z => n a (List.mem_append_right _ z)⟩
end
theorem OwS.agree {K : PySem.W.Frag} {G H H2 : Hp} : ∀ {ρ : En} {σ : St} {fp : List Addr}, OwS K G H ρ σ fp → (∀ a ∈ fp, H2 a = H a) → OwS K G H2 ρ σ fp
  | [], _, _, h, _ => h
  | none :: _, _, _, ⟨o, r, h1, h2⟩, n => ⟨o, r, h1, OwS.agree h2 n⟩
  | some _ :: _, _, _, ⟨v, r, f1, f2, h1, h2, h3, h4⟩, n => by
    subst h2
    exact ⟨v, r, f1, f2, h1, rfl, h3.agree fun a z => n a (List.mem_append_left _ z), OwS.agree h4 fun a z => n a (List.mem_append_right _ z)⟩
theorem OwS.setn {K : PySem.W.Frag} {G H : Hp} {u : Option V} : ∀ {ρ : En} {σ : St} {fp : List Addr} {y : Nat}, OwS K G H ρ σ fp → ρ[y]? = some none → OwS K G H ρ (σ.set y u) fp
  | none :: _, _, _, 0, ⟨o, r, h1, h2⟩, _ => by subst h1; exact ⟨u, r, rfl, h2⟩
  | none :: _, _, _, y + 1, ⟨o, r, h1, h2⟩, h => by subst h1; exact ⟨o, _, rfl, OwS.setn (y := y) h2 h⟩
  | some _ :: _, _, _, 0, _, h => by cases h
  | some _ :: _, _, _, y + 1, ⟨v, r, f1, f2, h1, h2, h3, h4⟩, h => by subst h1; exact ⟨v, _, f1, f2, rfl, h2, h3, OwS.setn (y := y) h4 h⟩
theorem RS.setn {K : PySem.W.Frag} {G0 H0 G H : Hp} {ρ : En} {σ : St} {y : Nat} {u : Option V} (r : RS K G0 H0 G H ρ σ) (h : ρ[y]? = some none) : RS K G0 H0 G H ρ (σ.set y u) := by
  obtain ⟨fp, r⟩ := r
  exact ⟨fp, r.st, r.own.setn h, r.g, r.n, r.d⟩
end L2
namespace L2
open PySem PySem.Spec PyProof.Rows
section
variable {ι : Type} {F : Fam ι} {e a b c : Expr} {ρ : En} {t ta tb' : Tr} {pos : Pos}
theorem et_eqF {u v : V} (ha : Ev F a ρ (.fz (.fl u))) (hb : Ev F b ρ (.fz (.fl v))) (hs : scal u v = true) : Et F (.Compare a [.Eq] [b] pos) ρ (decide (u = v)) :=
  et_cmp (fun _ => op_eq) ha hb (fun G H x y Q s hx hy k => by rw [hvi hx, hvi hy]; exact ⟨hs, k⟩) (nomark _)
end
end L2
namespace L2
open PySem PySem.Spec PyProof.Rows
theorem EtS.to {ι : Type} {F : Fam ι} {e : Expr} {ρ : En} {p q : Bool} (h : EtS F e ρ p) (z : p = q) : EtS F e ρ q := z ▸ h
end L2
namespace L2
open PySem PySem.Spec PyProof.Rows
theorem RSf.swap1 {K : PySem.W.Frag} {G0 H0 G H : Hp} {ρ : En} {σ : St} {fp : List Addr} {j : Nat} {t : Tr} (r : RSf K G0 H0 G H ρ σ fp) (hj : ρ[j]? = some (some t)) :
    ∃ v f, σ[j]? = some (some v) ∧ Ow K G H t v f ∧ f.Nodup ∧ ∀ H2 t2, Md f H H2 → Ow K G H2 t2 v f → RS K G0 H0 G H2 (ρ.set j (some t2)) σ := by
  obtain ⟨v, f, fr, a1, a2, a3, a4⟩ := r.own.split hj
  have nda := List.nodup_append.mp (a4.nodup_iff.mp r.d)
  have qfp : ∀ a ∈ f, a ∈ fp := fun a ha => a4.mem_iff.mpr (List.mem_append_left _ ha)
  have ltj : j < ρ.length := (List.getElem?_eq_some_iff.mp hj).1
  refine ⟨v, f, a1, a2, nda.1, fun H2 t2 m o2 => ?_⟩
  have q3 : OwS K G H2 (ρ.set j none) σ fr := a3.agree fun a ha => by
    obtain ⟨o, ho⟩ := a3.there a ha
    rw [m a o (fun z => nda.2.2 a z a ha rfl) ho, ho]
  obtain ⟨fp1, p1, p2⟩ := q3.put (get_set_none ltj) o2
  rw [List.set_set, set_self a1] at p1
  have pm : ∀ a, a ∈ fp1 → a ∈ fp := fun a ha => a4.mem_iff.mpr (p2.mem_iff.mp ha)
  exact ⟨fp1, ⟨r.st.g, fun b u hb => m b u (fun z => by rw [r.n b (qfp b z)] at hb; cases hb) (r.st.h b u hb), fun b u hb => m b u (fun z => by rw [r.g b (qfp b z)] at hb; cases hb) (r.st.s b u hb), r.st.n⟩, p1, fun a ha => r.g a (pm a ha), fun a ha => r.n a (pm a ha), p2.nodup_iff.mpr (a4.nodup_iff.mp r.d)⟩
end L2
namespace L2
open PySem PySem.Spec PyProof.Rows
theorem hvl_app {K : PySem.W.Frag} {G : Hp} {d2 : List Dv} {v2 : List V} (h2 : HvL K G d2 v2) : ∀ {d1 : List Dv} {v1 : List V}, HvL K G d1 v1 → HvL K G (d1 ++ d2) (v1 ++ v2)
  | [], v1, h => by
    have h' : v1 = [] := h
    subst h'
    exact h2
  | d :: d1, _, ⟨x, r, h1, h2', h3⟩ => by
    subst h1
    exact ⟨x, _, rfl, h2', hvl_app h2 h3⟩
section
variable {ι : Type} {F : Fam ι} {ρ : En} {e : Expr} {es : List Expr} {ts : List Tr} {t : Tr} {pos : Pos}
theorem ev_callS {k : Nat} {f : Addr} {fd : FuncData} {ps : List Str} {R : List Dv → Tr → Prop} {x : Str} {s : Str} {tk : Tok} (Fn : Kn F.P F.w F.K F.mg F.base CX0 k x f fd ps (spT F.K R)) (B : Binds F.K fd ps [.str s tk]) (hk : k ≤ F.room) (ha : EvA F (e :: es) ρ ts) (hR : R (ers ts ++ [ds s]) t) {p' : Pos} (hg : ∀ i, Gl (F.cx i) x := by intro _; rfl) (hdb : (x == ("__debug__" : Str)) = false := by decide)
    (he : ∀ i, starEach (e :: es) (F.cx i).env = (false, eval e (F.cx i).env) :: starEach es (F.cx i).env := by intro _; rfl) (hpl : ∀ i, (backTo pos (starEach es (F.cx i).env)).any (·.1) = false := by intro _; rfl) : Ev F (.Call (.Name x p') (e :: es) [] pos) ρ t := by
  obtain ⟨τ, y, z⟩ := ha.use
  refine ⟨tCall (spT F.K R) [.str s] E0 τ, fun i => ?_, fun σ G H Q s' rr k => z σ G H _ s' rr fun vs G1 H1 s1 hx => ?_⟩
  · have Fn' : Kn (F.cx i).prog (F.cx i).w (F.cx i).K (F.cx i).mg (F.cx i).base CX0 k x f fd ps (spT F.K R) := by
      rw [F.hP i, F.hw i, F.hK i, F.hm i, F.hb i]
      exact Fn
    exact pe_call Fn'.ok ((F.hr i).mono hk) (hg i) Fn'.mgx Fn'.kp (by rw [F.hK i]; exact B) (.cons ⟨tk, rfl⟩ .nil) pass0 (y i) hdb (he i) (hpl i)
  · show spT F.K R (vs ++ [.str s]) H1 Q E0
    have h2 : HvL F.K G1 [ds s] [.str s] := ⟨_, _, rfl, ⟨rfl, rfl⟩, rfl⟩
    exact ⟨G1, _, t, s1.s, hvl_app h2 hx, hR, k.step s1⟩
end
end L2
namespace K48
open PySem L2 Fra
def top (i : Nat) : Stmt := PySem.Challenge.pw_lotmeal_k48_lies_at_the_meal.main.body.getD i (.Pass ⟨0, 0, 0, 0⟩)
structure Txt (mg : Str → Option Value) : Prop where
  b_isinstance : mg "isinstance" = none
  b_int : mg "int" = none
  b_bool : mg "bool" = none
  b_list : mg "list" = none
  b_tuple : mg "tuple" = none
  b_str : mg "str" = none
  b_len : mg "len" = none
  b_range : mg "range" = none
  b_zip : mg "zip" = none
  b_enumerate : mg "enumerate" = none
  b_sorted : mg "sorted" = none
  b_abs : mg "abs" = none
  b_sum : mg "sum" = none
  b_max : mg "max" = none
  b_min : mg "min" = none
  b_all : mg "all" = none
  b_any : mg "any" = none
  b_set : mg "set" = none
  g_MOST : ∃ tk, mg "MOST" = some (.int 6 tk)
  g_MOST_COUNT : ∃ tk, mg "MOST_COUNT" = some (.int 9 tk)
  g_MOST_TURNS : ∃ tk, mg "MOST_TURNS" = some (.int 5 tk)
  g_MOST_THINGS : ∃ tk, mg "MOST_THINGS" = some (.int 4 tk)
section
variable {P : Program} {w : World} {K : PySem.W.Frag} {mg : Str → Option Value} {base : Heap}
def numsF (n : Nat) : List Int := (List.range n).map fun i => 0 + ((i : Nat) : Int)
theorem mem_nums {n : Nat} {x : Int} : x ∈ numsF n ↔ 0 ≤ x ∧ x < n := by
  unfold numsF
  constructor
  · intro h
    obtain ⟨i, hi, rfl⟩ := List.mem_map.mp h
    have := List.mem_range.mp hi
    omega
  · rintro ⟨h0, h1⟩
    exact List.mem_map.mpr ⟨x.toNat, List.mem_range.mpr (by omega), by omega⟩
theorem nums_nodup (n : Nat) : (numsF n).Nodup := by
  unfold numsF
  rw [List.nodup_iff_pairwise_ne, List.pairwise_map]
  exact (List.nodup_range (n := n)).imp fun h z => h (by omega)
abbrev s_common_part : Stmt := top 10
theorem sc_common_part : FnScope ["one", "other", "rest"] ["one", "other"] (defScope s_common_part) := ⟨rfl, rfl, rfl, by decide +kernel, rfl, by decide +kernel, by decide +kernel⟩
def rPart (dd : List Dv) (t : Tr) : Prop := ∃ a b : Int, 0 ≤ a ∧ 0 ≤ b ∧ dd = [di a, di b] ∧ t = ti (gc a b)
theorem ok_common_part {f : Addr} {fd : FuncData} {k : Nat} (F : Fun K "common_part" "common_part" s_common_part f fd) (T : Txt mg) : FnOk P w K mg base CX0 (k + 1) f fd ["one", "other"] (spT K rPart) := by
  refine fn_ok F.d sc_common_part (fun dd t h => by obtain ⟨_, _, _, _, rfl, _⟩ := h; rfl) fun dd t h => ?_
  obtain ⟨a, b, ha, hb, rfl, rfl⟩ := h
  refine ⟨_, .inl rfl, ?_⟩
  refine rns_while_by (fun p : Int × Int => [some (ti p.1), some (ti p.2), none]) (fun p => 0 ≤ p.1 ∧ 0 ≤ p.2 ∧ gc p.1 p.2 = gc a b) (fun p => !decide (p.2 = 0)) (fun p => p.2.toNat) (a, b) rfl ⟨ha, hb, rfl⟩ (fun p hp => Et.s (et_ne (ev_nm 1 rfl) ev_int)) (fun p hp h => ?_) (fun p hp h => ?_)
  · obtain ⟨x, y⟩ := p
    obtain ⟨h1, h2, h3⟩ := hp
    have hy : y ≠ 0 := by simpa using h
    have h2' : 0 ≤ y := h2
    have l1 := Int.emod_lt_of_pos x (show 0 < y by omega)
    have l2 := Int.emod_nonneg x hy
    refine ⟨(y, x % y), ⟨h2, l2, ?_⟩, ?_, Rns.fg (rns_cons (rn_set 2 (Ev.s (ev_mod (ev_nm 0 rfl) (ev_nm 1 rfl) (by omega))) (fun _ => sc_common_part.nd)) (rns_cons (rn_set 0 (Ev.s (ev_nm 1 rfl)) (fun _ => sc_common_part.nd)) (rns_one (rn_set 1 (Ev.s (ev_nm 2 rfl)) (fun _ => sc_common_part.nd))))) ⟨[2], rfl⟩⟩
    · show gc y (x % y) = _
      rw [gc_step]; exact h3
    · show (x % y).toNat < y.toNat
      omega
  · obtain ⟨x, y⟩ := p
    obtain ⟨h1, h2, h3⟩ := hp
    have hy0 : y = 0 := by simpa using h
    have h3' : gc x y = gc a b := h3
    have h1' : 0 ≤ x := h1
    have e : gc a b = x := by rw [← h3', hy0, gc_zero]; omega
    rw [e]
    exact rns_one (rn_ret (Ev.s (ev_nm 0 rfl)))
abbrev s_is_whole : Stmt := top 9
theorem sc_is_whole : FnScope ["number"] ["number"] (defScope s_is_whole) := ⟨rfl, rfl, rfl, by decide +kernel, rfl, by decide +kernel, by decide +kernel⟩
def rIsWhole (dd : List Dv) (t : Tr) : Prop := ∃ n : Int, dd = [di n] ∧ t = tb true
theorem ok_is_whole {f : Addr} {fd : FuncData} {k : Nat} (F : Fun K "is_whole" "is_whole" s_is_whole f fd) (T : Txt mg) : FnOk P w K mg base CX0 (k + 1) f fd ["number"] (spT K rIsWhole) := by
  refine fn_ok F.d sc_is_whole (fun dd t h => by obtain ⟨n, rfl, _⟩ := h; rfl) fun dd t h => ?_
  obtain ⟨n, rfl, rfl⟩ := h
  refine ⟨_, .inl rfl, ?_⟩
  exact rns_one (rn_ret (Ev.s (Ev.to (ev_and (p := true) (q := true) (ev_isi T.b_isinstance T.b_int bt_int (ev_nm 0 rfl) (by with_unfolding_all rfl)) fun _ => (ev_one (ev_not (p := false) (ev_isi T.b_isinstance T.b_bool bt_bool (ev_nm 0 rfl) (by with_unfolding_all rfl))))) rfl)))
abbrev s_fraction : Stmt := top 11
theorem sc_fraction : FnScope ["top", "bottom", "part"] ["top", "bottom"] (defScope s_fraction) := ⟨rfl, rfl, rfl, by decide +kernel, rfl, by decide +kernel, by decide +kernel⟩
def rFrac (dd : List Dv) (t : Tr) : Prop := ∃ a b : Int, 0 < b ∧ b.natAbs < 2 ^ 8000 ∧ dd = [di a, di b] ∧ t = tF (lT a b, lB a b)
theorem ok_fraction {f f1 f2 : Addr} {fd fd1 fd2 : FuncData} {dV : Value} {k : Nat} (F : FunD K "fraction" "fraction" s_fraction dV f fd) (T : Txt mg) (K_is_whole : Kn P w K mg base CX0 (k + 1) "is_whole" f1 fd1 ["number"] (spT K rIsWhole)) (K_common_part : Kn P w K mg base CX0 (k + 1) "common_part" f2 fd2 ["one", "other"] (spT K rPart)) : FnOk P w K mg base CX0 (k + 2) f fd ["top", "bottom"] (spT K rFrac) := by
  refine fn_ok F sc_fraction (fun dd t h => by obtain ⟨_, _, _, _, rfl, _⟩ := h; rfl) fun dd t h => ?_
  obtain ⟨a, b, hb, hz, rfl, rfl⟩ := h
  refine ⟨_, .inl rfl, ?_⟩
  refine rns_cons (rn_skip (Et.s (Ew.et (ew_or (et_not (et_val (ev_call K_is_whole (Nat.le_refl _) (eva_cons (ev_nm 0 rfl) eva_nil) ⟨a, rfl, rfl⟩))) fun _ => (ew_or1 (et_not (et_val (ev_call K_is_whole (Nat.le_refl _) (eva_cons (ev_nm 1 rfl) eva_nil) ⟨b, rfl, rfl⟩))))))) rfl) ?_
  refine rns_cons (rn_skip (Et.s (et_eq (ev_nm 1 rfl) ev_int)) (decide_eq_false (by omega))) ?_
  have ha : 0 ≤ (if a < 0 then -a else a) := by split <;> omega
  have hb' : 0 ≤ (if b < 0 then -b else b) := by split <;> omega
  have eg : gc (if a < 0 then -a else a) (if b < 0 then -b else b) = gc a b := by
    rw [show (if a < 0 then -a else a) = (a.natAbs : Int) by split <;> omega, show (if b < 0 then -b else b) = (b.natAbs : Int) by split <;> omega, gc_abs]
  have gp := gc_pos (a := a) (show b ≠ 0 by omega)
  have gl := gc_le_r (a := a) hb
  refine rns_cons (rn_set 2 (EvS.to (t' := ti (gc a b)) (Ev.s (ev_call K_common_part (Nat.le_refl _) (eva_cons (ev_abs T.b_abs (ev_nm 0 rfl)) (eva_cons (ev_abs T.b_abs (ev_nm 1 rfl)) eva_nil)) ⟨_, _, ha, hb', rfl, rfl⟩)) (by rw [eg])) (fun _ => sc_fraction.nd)) ?_
  refine rns_cons (rn_skip (Et.s (et_lt (ev_nm 1 rfl) ev_int)) (decide_eq_false (by omega))) ?_
  have cd : ∀ i : Int, CDivB i (gc a b) := fun i => ⟨gp, Nat.lt_of_le_of_lt (by omega) hz⟩
  refine rns_one (rn_ret (Ev.s (ev_tupD (eva_cons (ev_div (ev_nm 0 rfl) (ev_nm 2 rfl) (cd _)) (eva_cons (ev_div (ev_nm 1 rfl) (ev_nm 2 rfl) (cd _)) eva_nil)) ?_ (by show 2 ≤ sizeLine; decide))))
  show [di (a / gc a b), di (b / gc a b)] = _
  rw [lT_pos hb, lB_pos hb]
abbrev s_plus : Stmt := top 12
theorem sc_plus : FnScope ["one", "other"] ["one", "other"] (defScope s_plus) := ⟨rfl, rfl, rfl, by decide +kernel, rfl, by decide +kernel, by decide +kernel⟩
def SmallF (p : Int × Int) : Prop := 0 < p.2 ∧ p.2.natAbs < 2 ^ 90 ∧ p.1.natAbs < 2 ^ 90
def rPlus (dd : List Dv) (t : Tr) : Prop := ∃ p q : Int × Int, SmallF p ∧ SmallF q ∧ dd = [dF p, dF q] ∧ t = tF (lT (p.1 * q.2 + q.1 * p.2) (p.2 * q.2), lB (p.1 * q.2 + q.1 * p.2) (p.2 * q.2))
theorem lt_big {a : Int} {n : Nat} (h : a.natAbs < 2 ^ n) (hn : n ≤ 8000) : a.natAbs < 2 ^ 8000 := Nat.lt_of_lt_of_le h (Nat.pow_le_pow_right (by decide) hn)
theorem mul_lt {a b : Int} {m n : Nat} (h1 : a.natAbs < 2 ^ m) (h2 : b.natAbs < 2 ^ n) : (a * b).natAbs < 2 ^ (m + n) := by
  rw [Int.natAbs_mul, Nat.pow_add]
  exact Nat.mul_lt_mul'' h1 h2
theorem ok_plus {f f1 : Addr} {fd fd1 : FuncData} {k : Nat} (F : Fun K "plus" "plus" s_plus f fd) (T : Txt mg) (K_fraction : Kn P w K mg base CX0 (k + 2) "fraction" f1 fd1 ["top", "bottom"] (spT K rFrac)) : FnOk P w K mg base CX0 (k + 3) f fd ["one", "other"] (spT K rPlus) := by
  refine fn_ok F.d sc_plus (fun dd t h => by obtain ⟨_, _, _, _, rfl, _⟩ := h; rfl) fun dd t h => ?_
  obtain ⟨p, q, ⟨p1, p2, p3⟩, ⟨q1, q2, q3⟩, rfl, rfl⟩ := h
  refine ⟨_, .inl rfl, ?_⟩
  have at0 : ∀ r : Int × Int, atI [di r.1, di r.2] 0 = some (di r.1) := fun _ => rfl
  have at1 : ∀ r : Int × Int, atI [di r.1, di r.2] 1 = some (di r.2) := fun _ => rfl
  exact rns_one (rn_ret (Ev.s (ev_call K_fraction (Nat.le_refl _) (eva_cons (ev_add (ev_mul (ev_ixT (ev_nm 0 rfl) ev_int rfl (at0 p)) (ev_ixT (ev_nm 1 rfl) ev_int rfl (at1 q)) ⟨lt_big p3 (by decide), lt_big q2 (by decide)⟩) (ev_mul (ev_ixT (ev_nm 1 rfl) ev_int rfl (at0 q)) (ev_ixT (ev_nm 0 rfl) ev_int rfl (at1 p)) ⟨lt_big q3 (by decide), lt_big p2 (by decide)⟩)) (eva_cons (ev_mul (ev_ixT (ev_nm 0 rfl) ev_int rfl (at1 p)) (ev_ixT (ev_nm 1 rfl) ev_int rfl (at1 q)) ⟨lt_big p2 (by decide), lt_big q2 (by decide)⟩) eva_nil)) ⟨_, _, Int.mul_pos p1 q1, lt_big (mul_lt p2 q2) (by decide), rfl, rfl⟩)))
abbrev s_check_orders : Stmt := top 22
theorem sc_check_orders : FnScope ["orders", "many", "asker", "order"] ["orders", "many"] (defScope s_check_orders) := ⟨rfl, rfl, rfl, by decide +kernel, rfl, by decide +kernel, by decide +kernel⟩
def rCheck (dd : List Dv) (t : Tr) : Prop := ∃ (os : List (List Int)) (n : Int), (∀ o ∈ os, o.Nodup ∧ o.length ≤ 100 ∧ ∀ x ∈ o, 0 ≤ x ∧ x < n) ∧ dd = [.lst (os.map dis), di n] ∧ t = tn
theorem er_mapB {α : Type} (l : List α) (f : α → Bool) : er (.ow (l.map fun k => Tr.fz (db (f k)))) = .lst ((l.map f).map db) := by
  rw [er_ow_map, List.map_map]; rfl
theorem ok_check_orders {f : Addr} {fd : FuncData} {k : Nat} (F : Fun K "check_orders" "check_orders" s_check_orders f fd) (T : Txt mg) : FnOk P w K mg base CX0 (k + 1) f fd ["orders", "many"] (spT K rCheck) := by
  refine fn_ok F.d sc_check_orders (fun dd t h => by obtain ⟨_, _, _, rfl, _⟩ := h; rfl) fun dd t h => ?_
  obtain ⟨os, n, ho, rfl, rfl⟩ := h
  refine ⟨_, .inr ⟨rfl, [some (.fz (.lst (os.map dis))), some (ti n), none, none], rfl⟩, ?_⟩
  have big : 1000 < sizeLine := by decide
  refine rns_cons (ρ1 := [some (.fz (.lst (os.map dis))), some (ti n), none, none]) (rn_for (EvI.s (evi_enum T.b_enumerate (ev_nm 0 rfl) rfl)) (evg_t2 2 3 (fun _ => sc_check_orders.nd)) (fun _ => [some (.fz (.lst (os.map dis))), some (ti n), none, none]) rfl (fun _ => rfl) (fun j d hd => ?_)) ?_
  · obtain ⟨x, hx, rfl⟩ := enu_get hd
    obtain ⟨o, ho', rfl⟩ := map_get hx
    obtain ⟨o1, o2, o3⟩ := ho o (List.mem_of_getElem? ho')
    refine ⟨_, _, rfl, rns_one (rn_skip (Et.s (et_val (ev_any (bs := o.map fun x => decide (x < 0) || decide (n ≤ x)) T.b_any (ev_lcm (own := ["thing"]) (fr := [1]) o di (fun x => tb (decide (x < 0) || decide (n ≤ x))) (fun i => lcs ⟨rfl, rfl, by decide +kernel, by decide +kernel, by decide +kernel, by decide +kernel⟩) (evi_list (ev_nm 3 rfl) rfl) (evg_nm 0 (fun _ => by show List.Nodup (["thing", "many"] : List Str); decide)) (by decide) (by omega) (fun x hx => ⟨_, rfl, ev_or (ev_lt (ev_nm 0 rfl) ev_int) fun _ => ev_one (ev_ge (ev_nm 0 rfl) (ev_nm 1 rfl))⟩) (fun dd => by cases dd <;> rfl)) (er_mapB o _)))) ?_), [2, 3], rfl⟩
    rw [List.any_eq_false]
    intro b hb
    obtain ⟨x, hx, rfl⟩ := List.mem_map.mp hb
    obtain ⟨x0, x1⟩ := o3 x hx
    simp only [id, decide_eq_false (show ¬ x < 0 by omega), decide_eq_false (show ¬ n ≤ x by omega)]
    decide
  refine rns_cons (ρ1 := [some (.fz (.lst (os.map dis))), some (ti n), none, none]) (rn_for (EvI.s (evi_enum T.b_enumerate (ev_nm 0 rfl) rfl)) (evg_t2 2 3 (fun _ => sc_check_orders.nd)) (fun _ => [some (.fz (.lst (os.map dis))), some (ti n), none, none]) rfl (fun _ => rfl) (fun j d hd => ?_)) rns_nil
  obtain ⟨x, hx, rfl⟩ := enu_get hd
  obtain ⟨o, ho', rfl⟩ := map_get hx
  obtain ⟨o1, o2, o3⟩ := ho o (List.mem_of_getElem? ho')
  refine ⟨_, _, rfl, rns_one (rn_skip (Et.s (et_ne (ev_lenset T.b_len T.b_set (ev_nm 3 rfl) rfl (by omega)) (ev_len T.b_len (ev_nm 3 rfl) (.inl rfl)))) ?_), [2, 3], rfl⟩
  rw [unlike_nodup o1, List.length_map]
  simp
abbrev s_table_of : Stmt := top 23
theorem sc_table_of : FnScope ["counts", "orders"] ["counts", "orders"] (defScope s_table_of) := ⟨rfl, rfl, rfl, by decide +kernel, rfl, by decide +kernel, by decide +kernel⟩
def rTab (dd : List Dv) (t : Tr) : Prop := ∃ (c : List Int) (os : List (List Int)), TabOk c os ∧ dd = [dis c, .lst (os.map dis)] ∧ t = .tp [tInts c, tRows os]
theorem ok_table_of {f f1 : Addr} {fd fd1 : FuncData} {k : Nat} (F : Fun K "table_of" "table_of" s_table_of f fd) (T : Txt mg) (K_check_orders : Kn P w K mg base CX0 (k + 1) "check_orders" f1 fd1 ["orders", "many"] (spT K rCheck)) : FnOk P w K mg base CX0 (k + 2) f fd ["counts", "orders"] (spT K rTab) := by
  refine fn_ok F.d sc_table_of (fun dd t h => by obtain ⟨_, _, _, rfl, _⟩ := h; rfl) fun dd t h => ?_
  obtain ⟨c, os, ok, rfl, rfl⟩ := h
  refine ⟨_, .inl rfl, ?_⟩
  have big : 1000 < sizeLine := by decide
  have c6 := ok.c6
  have o6 := ok.o6
  have o1 := ok.o1
  obtain ⟨tk, gm⟩ := T.g_MOST
  obtain ⟨tk2, gm2⟩ := T.g_MOST_COUNT
  refine rns_cons (rn_skip (Et.s (Ew.et (ew_or (et_gt (ev_len T.b_len (ev_nm 0 rfl) (.inl rfl)) (ev_glob (v := .int 6) gm ⟨_, rfl⟩ rfl)) fun _ => (ew_or1 (et_gt (ev_len T.b_len (ev_nm 1 rfl) (.inl rfl)) (ev_glob (v := .int 6) gm ⟨_, rfl⟩ rfl)))))) ?_) ?_
  · rw [List.length_map, List.length_map, decide_eq_false (by omega), decide_eq_false (by omega)]; rfl
  refine rns_cons (rn_skip (Et.s (et_eq (ev_len T.b_len (ev_nm 1 rfl) (.inl rfl)) ev_int)) ?_) ?_
  · rw [List.length_map, decide_eq_false (by omega)]
  refine rns_cons (rn_skip (Et.s (et_val (ev_any (bs := c.map fun x => decide (x < 0) || decide (9 < x)) T.b_any (ev_lcm (own := ["count"]) (fr := []) c di (fun x => tb (decide (x < 0) || decide (9 < x))) (fun i => lcs ⟨rfl, rfl, by decide +kernel, by decide +kernel, by decide +kernel, by decide +kernel⟩) (evi_list (ev_nm 0 rfl) rfl) (evg_nm 0 (fun _ => by show List.Nodup (["count"] : List Str); decide)) (by decide) (by omega) (fun x hx => ⟨_, rfl, by exact ev_or (ev_lt (ev_nm 0 rfl) ev_int) fun _ => ev_one (ev_gt (ev_nm 0 rfl) (ev_glob (v := .int 9) gm2 ⟨_, rfl⟩ rfl))⟩) (fun dd => by cases dd <;> rfl)) (er_mapB c _)))) ?_) ?_
  · rw [List.any_eq_false]
    intro b hb
    obtain ⟨x, hx, rfl⟩ := List.mem_map.mp hb
    obtain ⟨x0, x1⟩ := ok.cnt x hx
    simp only [id, decide_eq_false (show ¬ x < 0 by omega), decide_eq_false (show ¬ 9 < x by omega)]
    decide
  refine rns_cons (rn_expr (Ev.s (ev_call K_check_orders (Nat.le_refl _) (eva_cons (ev_nm 1 rfl) (eva_cons (ev_len T.b_len (ev_nm 0 rfl) (.inl rfl)) eva_nil)) ⟨os, c.length, fun o ho => ⟨ok.nd o ho, Nat.le_trans (ok.olen ho) (by decide), ok.rng o ho⟩, ?_, rfl⟩))) ?_
  rotate_left
  · rw [List.length_map]; rfl
  refine rns_one (rn_ret (Ev.s (Ev.to (ev_tup (eva_cons (ev_list T.b_list (ev_nm 0 rfl) (.inl rfl)) (eva_cons (ev_lcm (own := ["order"]) (fr := []) os dis tInts (fun i => lcs ⟨rfl, rfl, by decide +kernel, by decide +kernel, by decide +kernel, by decide +kernel⟩) (evi_list (ev_nm 1 rfl) rfl) (evg_nm 0 (fun _ => by show List.Nodup (["order"] : List Str); decide)) (by decide) (by omega) (fun o ho => ⟨_, rfl, Ev.to (ev_list T.b_list (ev_nm 0 rfl) (.inl rfl)) (by rw [ints_tr])⟩) (fun dd => by cases dd <;> rfl)) eva_nil)) (by show 2 ≤ sizeLine; decide)) (by rw [ints_tr]))))
abbrev s_full_order : Stmt := top 24
theorem sc_full_order : FnScope ["table", "asker", "many", "order"] ["table", "asker"] (defScope s_full_order) := ⟨rfl, rfl, rfl, by decide +kernel, rfl, by decide +kernel, by decide +kernel⟩
def rFull (dd : List Dv) (t : Tr) : Prop := ∃ (c : List Int) (os : List (List Int)) (a : Int) (o : List Int), c.length ≤ 100 ∧ o.length ≤ 100 ∧ atI os a = some o ∧ dd = [tabD c os, di a] ∧ t = tInts (fullF c.length o)
theorem atI_map {α β : Type} (f : α → β) {l : List α} {k : Int} {x : α} (h : atI l k = some x) : atI (l.map f) k = some (f x) := by
  unfold atI at h ⊢
  rw [List.length_map]
  cases q : ixN l.length k with
  | none => rw [q] at h; cases h
  | some j =>
    rw [q] at h
    show (l.map f)[j]? = _
    have h' : l[j]? = some x := h
    rw [List.getElem?_map, h']; rfl
theorem ok_full_order {f : Addr} {fd : FuncData} {k : Nat} (F : Fun K "full_order" "full_order" s_full_order f fd) (T : Txt mg) : FnOk P w K mg base CX0 (k + 1) f fd ["table", "asker"] (spT K rFull) := by
  refine fn_ok F.d sc_full_order (fun dd t h => by obtain ⟨_, _, _, _, _, _, _, rfl, _⟩ := h; rfl) fun dd t h => ?_
  obtain ⟨c, os, a, o, h1, h2, h3, rfl, rfl⟩ := h
  refine ⟨_, .inl rfl, ?_⟩
  have big : 1000 < sizeLine := by decide
  refine rns_cons (rn_set 2 (Ev.s (ev_len T.b_len (ev_ixT (d := dis c) (ev_nm 0 rfl) ev_int rfl rfl) (.inl rfl))) (fun _ => sc_full_order.nd)) ?_
  refine rns_cons (rn_set 3 (Ev.s (ev_ix (d := dis o) (ev_ixT (d := .lst (os.map dis)) (ev_nm 0 rfl) ev_int rfl rfl) (ev_nm 1 rfl) rfl (atI_map dis h3))) (fun _ => sc_full_order.nd)) ?_
  rw [List.length_map]
  refine rns_one (rn_ret (Ev.s (Ev.to (ev_cat (ev_cat (ev_nm 3 rfl) (ev_lst (eva_cons (ev_nm 2 rfl) eva_nil) (by show 1 ≤ sizeLine; decide)) rfl rfl ?_) (ev_lc (own := ["thing"]) (fr := [3]) (fun i => lcs ⟨rfl, rfl, by decide +kernel, by decide +kernel, by decide +kernel, by decide +kernel⟩) (evi_range1 T.b_range (ev_nm 2 rfl) ⟨by omega, by omega⟩) (evg_nm 0 (fun _ => by show List.Nodup (["thing", "order"] : List Str); decide)) (by decide) (fun k => !o.contains (0 + ((k : Nat) : Int))) (fun k => ti (0 + ((k : Nat) : Int))) ?_ (fun k d hd => ?_) (fun dd => ?_)) (er_fzs _) (er_map _ _) ?_) ?_)))
  · show (o.map di).length + 1 ≤ sizeLine
    rw [List.length_map]; omega
  · rw [List.length_map, List.length_range]; omega
  · obtain ⟨hi, rfl⟩ := rng_get hd
    exact ⟨_, rfl, el_one (et_notin (ev_nm 0 rfl) (ev_nm 1 rfl) rfl (by with_unfolding_all rfl)), fun _ => ev_nm 0 rfl⟩
  · cases dd <;> rfl
  · have e : (rngD 0 ((c.length : Nat) : Int).toNat).length = c.length := by simp
    rw [e]
    show ((o.map di) ++ [di _]).length + ((restF c.length o).map di).length ≤ sizeLine
    have := restF_len c.length o
    simp only [List.length_append, List.length_map, List.length_singleton]
    omega
  · have e : (rngD 0 ((c.length : Nat) : Int).toNat).length = c.length := by simp
    rw [e]
    show Tr.ow ((((o.map di) ++ [di _]) ++ ((restF c.length o).map di)).map .fz) = Tr.ow ((o ++ [(c.length : Int)] ++ restF c.length o).map _)
    simp only [List.map_append, List.map_map]
    rfl
abbrev s_first_left : Stmt := top 25
theorem sc_first_left : FnScope ["order", "gone"] ["order", "gone"] (defScope s_first_left) := ⟨rfl, rfl, rfl, by decide +kernel, rfl, by decide +kernel, by decide +kernel⟩
def leftF (order gone : List Int) : List Int := order.filter fun x => !gone.contains x
def rFirst (dd : List Dv) (t : Tr) : Prop := ∃ (order gone : List Int) (x : Int) (r : List Int), order.length ≤ 100 ∧ leftF order gone = x :: r ∧ dd = [dis order, dis gone] ∧ t = ti x
theorem filter_range {α : Type} (l : List α) (d : α) (p : α → Bool) : (((List.range l.length).filter fun k => p ((l[k]?).getD d)).map fun k => (l[k]?).getD d) = l.filter p := by
  have h : ((List.range l.length).map fun k => (l[k]?).getD d) = l := by
    have := map_range_get l d id
    simpa using this
  conv => rhs; rw [← h]
  rw [List.filter_map]
  rfl
theorem ok_first_left {f : Addr} {fd : FuncData} {k : Nat} (F : Fun K "first_left" "first_left" s_first_left f fd) (T : Txt mg) : FnOk P w K mg base CX0 (k + 1) f fd ["order", "gone"] (spT K rFirst) := by
  refine fn_ok F.d sc_first_left (fun dd t h => by obtain ⟨_, _, _, _, _, _, rfl, _⟩ := h; rfl) fun dd t h => ?_
  obtain ⟨order, gone, x, r, h1, h2, rfl, rfl⟩ := h
  refine ⟨_, .inl rfl, ?_⟩
  have big : 1000 < sizeLine := by decide
  refine rns_one (rn_ret (Ev.s (ev_ix (xs := (leftF order gone).map di) (d := di x) (ev_lc (own := ["one"]) (fr := [1]) (fun i => lcs ⟨rfl, rfl, by decide +kernel, by decide +kernel, by decide +kernel, by decide +kernel⟩) (evi_list (ev_nm 0 rfl) rfl) (evg_nm 0 (fun _ => by show List.Nodup (["one", "gone"] : List Str); decide)) (by decide) (fun k => !gone.contains ((order[k]?).getD 0)) (fun k => ti ((order[k]?).getD 0)) ?_ (fun k d hd => ?_) (fun dd => ?_)) ev_int ?_ ?_)))
  · rw [List.length_map]; omega
  · obtain ⟨y, hy, rfl⟩ := map_get hd
    refine ⟨_, rfl, ?_, fun _ => ?_⟩
    · rw [hy]; exact el_one (et_notin (ev_nm 0 rfl) (ev_nm 1 rfl) rfl (by with_unfolding_all rfl))
    · rw [hy]; exact ev_nm 0 rfl
  · cases dd <;> rfl
  · rw [er_map, List.length_map, filter_range order 0 fun x => !gone.contains x]
    rfl
  · rw [h2]; exact atI_nat (j := 0) rfl
end
end K48
namespace K48
open PySem L2 Fra
section
variable {P : Program} {w : World} {K : PySem.W.Frag} {mg : Str → Option Value} {base : Heap}
def longerF (L : List (List Int)) (n : Nat) : List (List Int) := L.flatMap fun l => ((List.range n).filter fun k => !l.contains (0 + ((k : Nat) : Int))).map fun k => l ++ [0 + ((k : Nat) : Int)]
def turnsK (n : Nat) : Nat → List (List Int)
  | 0 => [[]]
  | k + 1 => longerF (turnsK n k) n
abbrev tL (l : List Int) : Tr := .ow (l.map fun n => .fz (di n))
abbrev tLL (L : List (List Int)) : Tr := .ow (L.map tL)
theorem ers_ints (l : List Int) : ers (l.map fun n => Tr.fz (di n)) = l.map di := by rw [ers_map, List.map_map]; rfl
theorem er_tL (l : List Int) : er (tL l) = dis l := by show Dv.lst _ = _; rw [ers_ints]
theorem er_tLL (L : List (List Int)) : er (tLL L) = .lst (L.map dis) := by
  show Dv.lst _ = _
  rw [ers_map, List.map_map]
  congr 1
  exact List.map_congr_left fun l _ => er_tL l
theorem longerF_len (n : Nat) : ∀ L : List (List Int), (longerF L n).length ≤ L.length * n
  | [] => Nat.zero_le _
  | l :: L => by
    show ((((List.range n).filter _).map _) ++ longerF L n).length ≤ _
    rw [List.length_append, List.length_map, List.length_cons, Nat.succ_mul]
    have h1 := List.length_filter_le (fun k => !l.contains (0 + ((k : Nat) : Int))) (List.range n)
    rw [List.length_range] at h1
    have := longerF_len n L
    omega
abbrev s_longer : Stmt := top 42
theorem sc_longer : FnScope ["lists", "many", "told", "one"] ["lists", "many"] (defScope s_longer) := ⟨rfl, rfl, rfl, by decide +kernel, rfl, by decide +kernel, by decide +kernel⟩
def rLonger (dd : List Dv) (t : Tr) : Prop := ∃ (L : List (List Int)) (n : Nat), dd = [.lst (L.map dis), di n] ∧ L.length * n ≤ 1000 ∧ n ≤ 100 ∧ (∀ l ∈ L, l.length ≤ 100) ∧ t = tLL (longerF L n)
theorem ok_longer {f : Addr} {fd : FuncData} {k : Nat} (F : Fun K "longer" "longer" s_longer f fd) (T : Txt mg) : FnOk P w K mg base CX0 (k + 1) f fd ["lists", "many"] (spT K rLonger) := by
  refine fn_ok F.d sc_longer (fun dd t h => by obtain ⟨L, n, rfl, _⟩ := h; rfl) fun dd t h => ?_
  obtain ⟨L, n, rfl, h1, h2, h3, rfl⟩ := h
  refine ⟨_, .inl rfl, ?_⟩
  have big : 1000 ≤ sizeLine := by decide
  refine rns_cons (rn_set 2 (Ev.s (ev_lst eva_nil (Nat.zero_le _))) (fun _ => sc_longer.nd)) ?_
  refine rns_cons (rn_for (EvI.s (evi_list (ev_nm 0 rfl) rfl)) (evg_nm 3 (fun _ => sc_longer.nd)) (fun k => [some (.fz (.lst (L.map dis))), some (.fz (di n)), some (tLL (longerF (L.take k) n)), none]) rfl (fun _ => rfl) (fun j d hd => ?_)) ?_
  · rw [List.getElem?_map] at hd
    cases hl : L[j]? with
    | none => rw [hl] at hd; cases hd
    | some l =>
      rw [hl] at hd
      cases hd
      have hjL : j < L.length := (List.getElem?_eq_some_iff.mp hl).1
      have e : (longerF (L.take (j + 1)) n) = longerF (L.take j) n ++ ((List.range n).filter fun k => !l.contains (0 + ((k : Nat) : Int))).map fun k => l ++ [0 + ((k : Nat) : Int)] := by
        rw [take_get hl]
        unfold longerF
        rw [List.flatMap_append]
        simp
      have hlen : (longerF (L.take (j + 1)) n).length ≤ 1000 := by
        refine Nat.le_trans (longerF_len _ _) (Nat.le_trans (Nat.mul_le_mul_right n ?_) h1)
        rw [List.length_take]; omega
      refine ⟨_, _, rfl, rns_one (rn_extend 2 rfl (Ev.s (ev_lc (own := ["number"]) (fr := [3]) (fun i => lcs ⟨rfl, rfl, by decide +kernel, by decide +kernel, by decide +kernel, by decide +kernel⟩) (evi_range1 T.b_range (ev_nm 1 rfl) ⟨by omega, by omega⟩)
        (evg_nm 0 (fun _ => by show List.Nodup (["number", "one"] : List Str); decide)) (by decide) (fun k => !l.contains (0 + (k : Int))) (fun k => .ow ((l.map di ++ [di (0 + ((k : Nat) : Int))]).map .fz)) ?_ (fun k d hd => ?_) (fun dd => ?_))) ?_), ?_⟩
      · rw [List.length_map, List.length_range]
        show (n : Int).toNat < sizeLine
        omega
      · rw [List.getElem?_map] at hd
        cases hk : (List.range ((n : Int).toNat))[k]? with
        | none => rw [hk] at hd; cases hd
        | some k' =>
          have : k' = k := by
            obtain ⟨q1, q2⟩ := List.getElem?_eq_some_iff.mp hk
            rw [List.getElem_range] at q2; exact q2.symm
          subst this
          rw [hk] at hd
          cases hd
          refine ⟨_, rfl, el_one (et_notin (ev_nm 0 rfl) (ev_nm 1 rfl) rfl (by with_unfolding_all rfl)), fun _ => ev_cat (ev_nm 1 rfl) (ev_lst (eva_cons (ev_nm 0 rfl) eva_nil) (by show 1 ≤ sizeLine; decide)) rfl rfl ?_⟩
          show (l.map di).length + 1 ≤ sizeLine
          have := h3 l (List.mem_of_getElem? hl)
          rw [List.length_map]
          omega
      · cases dd <;> rfl
      · rw [List.length_map, List.length_map]
        have := congrArg List.length e
        rw [List.length_append, List.length_map] at this
        rw [List.length_map, List.length_range]
        show _ + (List.filter _ (List.range n)).length ≤ sizeLine
        omega
      · refine ⟨[3], ?_⟩
        have eT : tLL (longerF (L.take (j + 1)) n) = .ow (List.map tL (longerF (L.take j) n) ++ List.map (fun k => Tr.ow (List.map Tr.fz (List.map di l ++ [di (0 + ((k : Nat) : Int))]))) (List.filter (fun k => !l.contains (0 + ((k : Nat) : Int))) (List.range (rngD 0 ((n : Nat) : Int).toNat).length))) := by
          rw [e]
          unfold tLL
          rw [List.map_append, List.map_map, List.length_map, List.length_range]
          congr 2
          refine List.map_congr_left fun k _ => ?_
          show Tr.ow _ = Tr.ow _
          rw [List.map_append, List.map_append, List.map_map]
          rfl
        show [_, _, some _, _] = [_, _, some _, _]
        rw [eT]
  · rw [List.length_map, List.take_length]
    exact rns_one (rn_retO 2 rfl)
theorem turns_small : ∀ n, n ≤ 5 → ∀ k, k ≤ n → (turnsK n k).length * n ≤ 1000 ∧ ∀ l ∈ turnsK n k, l.length ≤ 100 := by
  have : ∀ n : Fin 6, ∀ k : Fin (n.val + 1), (turnsK n.val k.val).length * n.val ≤ 1000 ∧ ((turnsK n.val k.val).all fun l => decide (l.length ≤ 100)) = true := by decide +kernel
  intro n hn k hk
  obtain ⟨h1, h2⟩ := this ⟨n, by omega⟩ ⟨k, by show k < n + 1; omega⟩
  exact ⟨h1, fun l hl => by simpa using List.all_eq_true.mp h2 l hl⟩
end
end K48
namespace K48
open PySem L2 Fra
section
variable {P : Program} {w : World} {K : PySem.W.Frag} {mg : Str → Option Value} {base : Heap}
theorem fW_sm {W s : Int} (h : 0 < W) (w1 : W < 2 ^ 70) (s0 : 0 ≤ s) (s1 : s ≤ 200 * W) : SmallF (fW W s) := by
  have a := fW_pos (s := s) h
  have b := fW_le (s := s) h
  have c := fW_top (s := s) h
  refine ⟨a, ?_, ?_⟩
  · have : (fW W s).2.natAbs ≤ 2 ^ 70 := by omega
    exact Nat.lt_of_le_of_lt this (by decide)
  · have : (fW W s).1.natAbs ≤ 200 * 2 ^ 70 := by omega
    exact Nat.lt_of_le_of_lt this (by decide)
theorem frac1 (c : Int) : (lT c 1, lB c 1) = (c, 1) := by
  have := l_unique (t := c) (b := 1) (p := c) (q := 1) (by decide) (by decide) (by simp) (by rfl)
  rw [← this.1, ← this.2]
abbrev dFs (W : Int) (ss : List Int) : Dv := .lst (ss.map fun s => dF (fW W s))
abbrev s_sum_of : Stmt := top 17
theorem sc_sum_of : FnScope ["some", "total", "one"] ["some"] (defScope s_sum_of) := ⟨rfl, rfl, rfl, by decide +kernel, rfl, by decide +kernel, by decide +kernel⟩
def rSumOf (dd : List Dv) (t : Tr) : Prop := ∃ (W : Int) (ss : List Int), 0 < W ∧ W < 2 ^ 70 ∧ (∀ s ∈ ss, 0 ≤ s ∧ s ≤ W) ∧ ss.length ≤ 120 ∧ dd = [dFs W ss] ∧ t = tF (fW W ss.sum)
theorem sum_take {ss : List Int} {W : Int} (h : ∀ s ∈ ss, 0 ≤ s ∧ s ≤ W) (w0 : 0 < W) : ∀ j, 0 ≤ (ss.take j).sum ∧ (ss.take j).sum ≤ j * W
  | 0 => by rw [List.take_zero]; show 0 ≤ (0 : Int) ∧ (0 : Int) ≤ ((0 : Nat) : Int) * W; omega
  | j + 1 => by
    have ih := sum_take h w0 j
    have e : (((j + 1 : Nat) : Int)) * W = j * W + W := by rw [Int.natCast_add, Int.add_mul]; show _ + 1 * W = _; rw [Int.one_mul]
    rw [e]
    cases q : ss[j]? with
    | none =>
      have hj : ss.length ≤ j := by
        rcases Nat.lt_or_ge j ss.length with z | z
        · rw [List.getElem?_eq_getElem z] at q; cases q
        · exact z
      rw [List.take_of_length_le (by omega)]
      rw [List.take_of_length_le hj] at ih
      omega
    | some x =>
      have hx := h x (List.mem_of_getElem? q)
      rw [take_get q, List.sum_append, List.sum_singleton]
      omega
theorem ok_sum_of {f f1 f2 : Addr} {fd fd1 fd2 : FuncData} {k : Nat} {tk : Tok} (F : Fun K "sum_of" "sum_of" s_sum_of f fd) (T : Txt mg) (K_fraction : Kn P w K mg base CX0 (k + 2) "fraction" f1 fd1 ["top", "bottom"] (spT K rFrac)) (B1 : Binds K fd1 ["top", "bottom"] [.int 1 tk]) (K_plus : Kn P w K mg base CX0 (k + 3) "plus" f2 fd2 ["one", "other"] (spT K rPlus)) : FnOk P w K mg base CX0 (k + 4) f fd ["some"] (spT K rSumOf) := by
  refine fn_ok F.d sc_sum_of (fun dd t h => by obtain ⟨_, _, _, _, _, _, rfl, _⟩ := h; rfl) fun dd t h => ?_
  obtain ⟨W, ss, w0, w1, sb, sl, rfl, rfl⟩ := h
  refine ⟨_, .inl rfl, ?_⟩
  refine rns_cons (rn_set 1 (EvS.to (t' := tF (fW W (ss.take 0).sum)) (Ev.s (ev_callD K_fraction B1 (by show k + 2 ≤ k + 3; omega) (eva_cons ev_int eva_nil) ⟨0, 1, by decide, by decide, rfl, rfl⟩)) (by rw [frac1, List.take_zero]; show tF (0, 1) = tF (fW W 0); rw [fW_zero w0])) (fun _ => sc_sum_of.nd)) ?_
  refine rns_cons (rn_for (EvI.s (evi_list (ev_nm 0 rfl) rfl)) (evg_nm 2 (fun _ => sc_sum_of.nd)) (fun j => [some (.fz (dFs W ss)), some (tF (fW W (ss.take j).sum)), none]) rfl (fun _ => rfl) (fun j d hd => ?_)) ?_
  · obtain ⟨x, hx, rfl⟩ := map_get hd
    have hb := sb x (List.mem_of_getElem? hx)
    have ht := sum_take sb w0 j
    have hj : j < ss.length := by
      rcases Nat.lt_or_ge j ss.length with z | z
      · exact z
      · rw [List.getElem?_eq_none z] at hx; cases hx
    have h200 : (j : Int) * W ≤ 200 * W := Int.mul_le_mul_of_nonneg_right (by omega) (by omega)
    refine ⟨_, [some (.fz (dFs W ss)), some (tF (fW W (ss.take (j + 1)).sum)), some (tF (fW W x))], rfl, ?_, [2], rfl⟩
    rw [take_get hx, List.sum_append, List.sum_singleton]
    generalize (ss.take j).sum = S at ht
    exact rns_one (rn_set 1 (EvS.to (t' := tF (fW W (S + x))) (Ev.s (ev_call K_plus (Nat.le_refl _) (eva_cons (ev_nm 1 rfl) (eva_cons (ev_nm 2 rfl) eva_nil)) ⟨fW W S, fW W x, fW_sm w0 w1 ht.1 (by omega), fW_sm w0 w1 hb.1 (by omega), rfl, rfl⟩)) (by rw [fW_plus w0])) (fun _ => sc_sum_of.nd))
  · rw [List.length_map, List.take_length]
    exact rns_one (rn_ret (Ev.s (ev_nm 1 rfl)))
def lat (l : List Int) (x : Int) : Int := l.getD x.toNat 0
theorem lat_at {α : Type} (f : Int → α) {l : List Int} {x : Int} (h0 : 0 ≤ x) (h1 : x < l.length) : atI (l.map f) x = some (f (lat l x)) := by
  obtain ⟨m, rfl⟩ : ∃ m : Nat, x = (m : Int) := ⟨x.toNat, by omega⟩
  refine atI_nat ?_
  unfold lat
  rw [List.getElem?_map, List.getD_eq_getElem?_getD, Int.toNat_natCast, List.getElem?_eq_getElem (by omega)]; rfl
theorem nums_len' (n : Nat) : (numsF n).length = n := by unfold numsF; rw [List.length_map, List.length_range]
theorem okD_dF (p : Int × Int) : okD (dF p) = true := rfl
theorem dpD_dF (p : Int × Int) : dpD (dF p) ≤ 1 := by
  show dpDs _ + 1 ≤ 1
  exact Nat.succ_le_succ (dpDs_le fun d hd => by
    rcases List.mem_cons.mp hd with rfl | hd
    · exact Nat.le_refl _
    · rw [List.mem_singleton.mp hd]; exact Nat.le_refl _)
def topAt (tops : List Int) (x : Int) : Int := tops.getD x.toNat 0
def preS (tops : List Int) (full : List Int) (k : Nat) : Int := ((full.take k).map (topAt tops)).sum
theorem preS_succ {tops full : List Int} {k : Nat} {x : Int} (h : full[k]? = some x) : preS tops full (k + 1) = preS tops full k + topAt tops x := by
  unfold preS
  rw [take_get h, List.map_append, List.sum_append]
  simp
structure RowOk (W : Int) (n : Nat) (tops : List Int) : Prop where
  w0 : 0 < W
  w1 : W < 2 ^ 70
  len : tops.length = n + 1
  t0 : ∀ t ∈ tops, 0 ≤ t ∧ t ≤ W
theorem topAt_ok {W : Int} {n : Nat} {tops : List Int} (h : RowOk W n tops) (x : Int) : 0 ≤ topAt tops x ∧ topAt tops x ≤ W := by
  unfold topAt
  rw [List.getD_eq_getElem?_getD]
  cases q : tops[x.toNat]? with
  | none => exact ⟨Int.le_refl _, Int.le_of_lt h.w0⟩
  | some t => exact h.t0 t (List.mem_of_getElem? q)
theorem preS_ok {W : Int} {n : Nat} {tops : List Int} (h : RowOk W n tops) (full : List Int) : ∀ k, 0 ≤ preS tops full k ∧ preS tops full k ≤ k * W
  | 0 => by show 0 ≤ (0 : Int) ∧ (0 : Int) ≤ ((0 : Nat) : Int) * W; omega
  | k + 1 => by
    have ih := preS_ok h full k
    cases q : full[k]? with
    | none =>
      have hk : full.length ≤ k := by
        rcases Nat.lt_or_ge k full.length with z | z
        · rw [List.getElem?_eq_getElem z] at q; cases q
        · exact z
      have e : preS tops full (k + 1) = preS tops full k := by unfold preS; rw [List.take_of_length_le hk, List.take_of_length_le (by omega)]
      rw [e]
      have := h.w0
      refine ⟨ih.1, Int.le_trans ih.2 ?_⟩
      exact Int.mul_le_mul_of_nonneg_right (by omega) (by omega)
    | some x =>
      rw [preS_succ q]
      have := topAt_ok h x
      have e : (((k + 1 : Nat)) : Int) * W = k * W + W := by rw [Int.natCast_succ, Int.add_mul, Int.one_mul]
      rw [e]; omega
theorem fW_small {W s : Int} {m : Nat} (h : 0 < W) (w1 : W < 2 ^ 70) (s0 : 0 ≤ s) (s1 : s ≤ m * W) (hm : m ≤ 100) : SmallF (fW W s) := by
  have a := fW_pos (s := s) h
  have b := fW_le (s := s) h
  have c := fW_top (s := s) h
  have d : (m : Int) * W ≤ 100 * 2 ^ 70 := Int.mul_le_mul (by omega) (by omega) (by omega) (by decide)
  refine ⟨a, ?_, ?_⟩
  · have : (fW W s).2.natAbs ≤ 2 ^ 70 := by omega
    exact Nat.lt_of_le_of_lt this (by decide)
  · have : (fW W s).1.natAbs ≤ 100 * 2 ^ 70 := by omega
    exact Nat.lt_of_le_of_lt this (by decide)
def preT (W : Int) (tops full : List Int) (k : Nat) : List Tr := (List.range k).map fun j => tF (fW W (preS tops full (j + 1)))
theorem preT_succ (W : Int) (tops full : List Int) (k : Nat) : preT W tops full (k + 1) = preT W tops full k ++ [tF (fW W (preS tops full (k + 1)))] := by
  unfold preT
  rw [List.range_succ, List.map_append]; rfl
theorem rowAt {W : Int} {n : Nat} {tops : List Int} (h : RowOk W n tops) {x : Int} (x0 : 0 ≤ x) (x1 : x ≤ n) : atI ((tops.map (fW W)).map dF) x = some (dF (fW W (topAt tops x))) := by
  obtain ⟨m, rfl⟩ : ∃ m : Nat, x = (m : Int) := ⟨x.toNat, by omega⟩
  have hm : m < tops.length := by rw [h.len]; omega
  refine atI_nat ?_
  unfold topAt
  rw [List.getElem?_map, List.getElem?_map, List.getD_eq_getElem?_getD, Int.toNat_natCast, List.getElem?_eq_getElem hm]; rfl
theorem full_in {n : Nat} {o : List Int} (h : ∀ x ∈ o, 0 ≤ x ∧ x < n) : ∀ x ∈ fullF n o, 0 ≤ x ∧ x ≤ n := fun x hx => by
  unfold fullF restF at hx
  rcases List.mem_append.mp hx with z | z
  · rcases List.mem_append.mp z with z | z
    · have := h x z; omega
    · rw [List.mem_singleton] at z; omega
  · obtain ⟨k, hk, rfl⟩ := List.mem_map.mp z
    have := List.mem_range.mp (List.mem_filter.mp hk).1
    omega
theorem full_len {n : Nat} (o : List Int) : (fullF n o).length ≤ o.length + 1 + n := by
  have := restF_len n o
  unfold fullF
  simp only [List.length_append, List.length_singleton]; omega
abbrev s_sums : Stmt := top 34
theorem sc_sums : FnScope ["table", "asker", "row", "told", "total", "one"] ["table", "asker", "row"] (defScope s_sums) := ⟨rfl, rfl, rfl, by decide +kernel, rfl, by decide +kernel, by decide +kernel⟩
def rSums (dd : List Dv) (t : Tr) : Prop := ∃ (c : List Int) (os : List (List Int)) (a : Int) (o : List Int) (W : Int) (tops : List Int), c.length ≤ 6 ∧ o.length ≤ 6 ∧ (∀ x ∈ o, 0 ≤ x ∧ x < c.length) ∧ atI os a = some o ∧ RowOk W c.length tops ∧
  dd = [tabD c os, di a, .lst ((tops.map (fW W)).map dF)] ∧ t = .ow (preT W tops (fullF c.length o) (fullF c.length o).length)
theorem ok_sums {f f1 f2 f3 : Addr} {fd fd1 fd2 fd3 : FuncData} {k : Nat} {tk : Tok} (F : Fun K "sums" "sums" s_sums f fd) (T : Txt mg) (K_fraction : Kn P w K mg base CX0 (k + 2) "fraction" f1 fd1 ["top", "bottom"] (spT K rFrac)) (B1 : Binds K fd1 ["top", "bottom"] [.int 1 tk]) (K_full_order : Kn P w K mg base CX0 (k + 1) "full_order" f2 fd2 ["table", "asker"] (spT K rFull)) (K_plus : Kn P w K mg base CX0 (k + 3) "plus" f3 fd3 ["one", "other"] (spT K rPlus)) : FnOk P w K mg base CX0 (k + 4) f fd ["table", "asker", "row"] (spT K rSums) := by
  refine fn_ok F.d sc_sums (fun dd t h => by obtain ⟨_, _, _, _, _, _, _, _, _, _, _, rfl, _⟩ := h; rfl) fun dd t h => ?_
  obtain ⟨c, os, a, o, W, tops, c6, o6, orng, oat, ok, rfl, rfl⟩ := h
  refine ⟨_, .inl rfl, ?_⟩
  have big : 1000 < sizeLine := by decide
  have fl := full_len (n := c.length) o
  have fin := full_in orng
  have w0 := ok.w0
  refine rns_cons (rn_set 3 (Ev.s (ev_lst eva_nil (Nat.zero_le _))) (fun _ => sc_sums.nd)) ?_
  have e0 : (lT 0 1, lB 0 1) = fW W (preS tops (fullF c.length o) 0) := by
    rw [show preS tops (fullF c.length o) 0 = 0 from rfl]
    exact fW_same w0 (by decide) (by rw [Int.zero_mul, Int.zero_mul])
  refine rns_cons (rn_set 4 (EvS.to (t' := tF (fW W (preS tops (fullF c.length o) 0))) (Ev.s (ev_callD K_fraction B1 (by show k + 2 ≤ k + 3; omega) (eva_cons ev_int eva_nil) ⟨0, 1, by decide, small_lt (by decide) (by decide), rfl, rfl⟩)) (by rw [e0])) (fun _ => sc_sums.nd)) ?_
  refine rns_cons (rn_for (EvI.s (evi_list (ev_call K_full_order (by show k + 1 ≤ k + 3; omega) (eva_cons (ev_nm 0 rfl) (eva_cons (ev_nm 1 rfl) eva_nil)) ⟨c, os, a, o, by omega, by omega, oat, rfl, rfl⟩) (er_tInts _))) (evg_nm 5 (fun _ => sc_sums.nd)) (fun k => [some (.fz (tabD c os)), some (ti a), some (.fz (.lst ((tops.map (fW W)).map dF))), some (.ow (preT W tops (fullF c.length o) k)), some (tF (fW W (preS tops (fullF c.length o) k))), none]) rfl (fun _ => rfl) (fun j d hd => ?_)) ?_
  · obtain ⟨x, hx, rfl⟩ := map_get hd
    obtain ⟨x0, x1⟩ := fin x (List.mem_of_getElem? hx)
    have hj : j < (fullF c.length o).length := by
      rcases Nat.lt_or_ge j (fullF c.length o).length with z | z
      · exact z
      · rw [List.getElem?_eq_none z] at hx; cases hx
    obtain ⟨s0, s1⟩ := preS_ok ok (fullF c.length o) j
    obtain ⟨t0, t1⟩ := topAt_ok ok x
    have pl : (preT W tops (fullF c.length o) j).length = j := by unfold preT; rw [List.length_map, List.length_range]
    rw [preT_succ, preS_succ hx]
    generalize preT W tops (fullF c.length o) j = L at pl
    generalize preS tops (fullF c.length o) j = S at s0 s1
    have sm1 : SmallF (fW W S) := fW_small w0 ok.w1 s0 s1 (by omega)
    have sm2 : SmallF (fW W (topAt tops x)) := fW_small (m := 1) w0 ok.w1 t0 (by omega) (by decide)
    exact ⟨_, _, rfl, rns_cons (rn_set 4 (EvS.to (t' := tF (fW W (S + topAt tops x))) (Ev.s (ev_call K_plus (Nat.le_refl _) (eva_cons (ev_nm 4 rfl) (eva_cons (ev_ix (ev_nm 2 rfl) (ev_nm 5 rfl) rfl (rowAt ok x0 x1)) eva_nil)) ⟨fW W S, fW W (topAt tops x), sm1, sm2, rfl, rfl⟩)) (by rw [fW_plus w0])) (fun _ => sc_sums.nd)) (rns_one (rn_append 3 rfl (Ev.s (ev_nm 4 rfl)) (by omega))), [5], rfl⟩
  · rw [List.length_map]
    exact rns_one (rn_retO 3 rfl)
theorem fW_minus {W s t : Int} (h : 0 < W) : (lT ((fW W s).1 * (fW W t).2 - (fW W t).1 * (fW W s).2) ((fW W s).2 * (fW W t).2), lB ((fW W s).1 * (fW W t).2 - (fW W t).1 * (fW W s).2) ((fW W s).2 * (fW W t).2)) = fW W (s - t) := by
  have p1 := fW_pos (s := s) h
  have p2 := fW_pos (s := t) h
  have c1 := fW_cross (s := s) h
  have c2 := fW_cross (s := t) h
  generalize (fW W s).1 = a at *
  generalize (fW W s).2 = b at *
  generalize (fW W t).1 = c at *
  generalize (fW W t).2 = d at *
  refine fW_same h (by have := Int.mul_pos p1 p2; omega) ?_
  have e1 : (a * d - c * b) * W = (a * W) * d - (c * W) * b := by
    rw [Int.sub_mul, Int.mul_right_comm a d W, Int.mul_right_comm c b W]
  rw [e1, c1, c2, Int.sub_mul, Int.mul_assoc s b d, Int.mul_assoc t d b, Int.mul_comm d b]
theorem fW_times {W s c : Int} (h : 0 < W) : (lT ((fW W s).1 * c) ((fW W s).2 * 1), lB ((fW W s).1 * c) ((fW W s).2 * 1)) = fW W (s * c) := by
  have p1 := fW_pos (s := s) h
  have c1 := fW_cross (s := s) h
  generalize (fW W s).1 = a at *
  generalize (fW W s).2 = b at *
  refine fW_same h (by omega) ?_
  rw [Int.mul_one, Int.mul_right_comm a c W, c1, Int.mul_right_comm]
theorem fW_over {W s c : Int} (h : 0 < W) (hc : 0 < c) (hd : c ∣ s) : (lT ((fW W s).1 * 1) ((fW W s).2 * c), lB ((fW W s).1 * 1) ((fW W s).2 * c)) = fW W (s / c) := by
  have p1 := fW_pos (s := s) h
  have c1 := fW_cross (s := s) h
  generalize (fW W s).1 = a at *
  generalize (fW W s).2 = b at *
  obtain ⟨q, rfl⟩ := hd
  rw [Int.mul_ediv_cancel_left _ (by omega)]
  refine fW_same h (by have := Int.mul_pos p1 hc; omega) ?_
  rw [Int.mul_one, c1, Int.mul_comm c q, Int.mul_assoc, Int.mul_comm c b]
theorem fW_int {W c : Int} (h : 0 < W) : (c, (1 : Int)) = fW W (c * W) := by
  rw [← frac1]
  exact fW_same h (by decide) (by rw [Int.mul_one])
theorem small1 {c : Int} (h0 : 0 ≤ c) (h1 : c < 1000) : SmallF (c, 1) := ⟨by show (0 : Int) < 1; decide, by show (1 : Int).natAbs < 2 ^ 90; decide, Nat.lt_of_le_of_lt (show c.natAbs ≤ 1000 by omega) (by decide)⟩
abbrev s_minus : Stmt := top 13
theorem sc_minus : FnScope ["one", "other"] ["one", "other"] (defScope s_minus) := ⟨rfl, rfl, rfl, by decide +kernel, rfl, by decide +kernel, by decide +kernel⟩
def rMinus (dd : List Dv) (t : Tr) : Prop := ∃ p q : Int × Int, SmallF p ∧ SmallF q ∧ dd = [dF p, dF q] ∧ t = tF (lT (p.1 * q.2 - q.1 * p.2) (p.2 * q.2), lB (p.1 * q.2 - q.1 * p.2) (p.2 * q.2))
theorem ok_minus {f f1 : Addr} {fd fd1 : FuncData} {k : Nat} (F : Fun K "minus" "minus" s_minus f fd) (T : Txt mg) (K_fraction : Kn P w K mg base CX0 (k + 2) "fraction" f1 fd1 ["top", "bottom"] (spT K rFrac)) : FnOk P w K mg base CX0 (k + 3) f fd ["one", "other"] (spT K rMinus) := by
  refine fn_ok F.d sc_minus (fun dd t h => by obtain ⟨_, _, _, _, rfl, _⟩ := h; rfl) fun dd t h => ?_
  obtain ⟨p, q, ⟨p1, p2, p3⟩, ⟨q1, q2, q3⟩, rfl, rfl⟩ := h
  refine ⟨_, .inl rfl, ?_⟩
  have at0 : ∀ r : Int × Int, atI [di r.1, di r.2] 0 = some (di r.1) := fun _ => rfl
  have at1 : ∀ r : Int × Int, atI [di r.1, di r.2] 1 = some (di r.2) := fun _ => rfl
  exact rns_one (rn_ret (Ev.s (ev_call K_fraction (Nat.le_refl _) (eva_cons (ev_sub (ev_mul (ev_ixT (ev_nm 0 rfl) ev_int rfl (at0 p)) (ev_ixT (ev_nm 1 rfl) ev_int rfl (at1 q)) ⟨lt_big p3 (by decide), lt_big q2 (by decide)⟩) (ev_mul (ev_ixT (ev_nm 1 rfl) ev_int rfl (at0 q)) (ev_ixT (ev_nm 0 rfl) ev_int rfl (at1 p)) ⟨lt_big q3 (by decide), lt_big p2 (by decide)⟩)) (eva_cons (ev_mul (ev_ixT (ev_nm 0 rfl) ev_int rfl (at1 p)) (ev_ixT (ev_nm 1 rfl) ev_int rfl (at1 q)) ⟨lt_big p2 (by decide), lt_big q2 (by decide)⟩) eva_nil)) ⟨_, _, Int.mul_pos p1 q1, lt_big (mul_lt p2 q2) (by decide), rfl, rfl⟩)))
abbrev s_times : Stmt := top 14
theorem sc_times : FnScope ["one", "other"] ["one", "other"] (defScope s_times) := ⟨rfl, rfl, rfl, by decide +kernel, rfl, by decide +kernel, by decide +kernel⟩
def rTimes (dd : List Dv) (t : Tr) : Prop := ∃ p q : Int × Int, SmallF p ∧ SmallF q ∧ dd = [dF p, dF q] ∧ t = tF (lT (p.1 * q.1) (p.2 * q.2), lB (p.1 * q.1) (p.2 * q.2))
theorem ok_times {f f1 : Addr} {fd fd1 : FuncData} {k : Nat} (F : Fun K "times" "times" s_times f fd) (T : Txt mg) (K_fraction : Kn P w K mg base CX0 (k + 2) "fraction" f1 fd1 ["top", "bottom"] (spT K rFrac)) : FnOk P w K mg base CX0 (k + 3) f fd ["one", "other"] (spT K rTimes) := by
  refine fn_ok F.d sc_times (fun dd t h => by obtain ⟨_, _, _, _, rfl, _⟩ := h; rfl) fun dd t h => ?_
  obtain ⟨p, q, ⟨p1, p2, p3⟩, ⟨q1, q2, q3⟩, rfl, rfl⟩ := h
  refine ⟨_, .inl rfl, ?_⟩
  have at0 : ∀ r : Int × Int, atI [di r.1, di r.2] 0 = some (di r.1) := fun _ => rfl
  have at1 : ∀ r : Int × Int, atI [di r.1, di r.2] 1 = some (di r.2) := fun _ => rfl
  exact rns_one (rn_ret (Ev.s (ev_call K_fraction (Nat.le_refl _) (eva_cons (ev_mul (ev_ixT (ev_nm 0 rfl) ev_int rfl (at0 p)) (ev_ixT (ev_nm 1 rfl) ev_int rfl (at0 q)) ⟨lt_big p3 (by decide), lt_big q3 (by decide)⟩) (eva_cons (ev_mul (ev_ixT (ev_nm 0 rfl) ev_int rfl (at1 p)) (ev_ixT (ev_nm 1 rfl) ev_int rfl (at1 q)) ⟨lt_big p2 (by decide), lt_big q2 (by decide)⟩) eva_nil)) ⟨_, _, Int.mul_pos p1 q1, lt_big (mul_lt p2 q2) (by decide), rfl, rfl⟩)))
abbrev s_over : Stmt := top 15
theorem sc_over : FnScope ["one", "other"] ["one", "other"] (defScope s_over) := ⟨rfl, rfl, rfl, by decide +kernel, rfl, by decide +kernel, by decide +kernel⟩
def rOver (dd : List Dv) (t : Tr) : Prop := ∃ p q : Int × Int, SmallF p ∧ SmallF q ∧ 0 < q.1 ∧ dd = [dF p, dF q] ∧ t = tF (lT (p.1 * q.2) (p.2 * q.1), lB (p.1 * q.2) (p.2 * q.1))
theorem ok_over {f f1 : Addr} {fd fd1 : FuncData} {k : Nat} (F : Fun K "over" "over" s_over f fd) (T : Txt mg) (K_fraction : Kn P w K mg base CX0 (k + 2) "fraction" f1 fd1 ["top", "bottom"] (spT K rFrac)) : FnOk P w K mg base CX0 (k + 3) f fd ["one", "other"] (spT K rOver) := by
  refine fn_ok F.d sc_over (fun dd t h => by obtain ⟨_, _, _, _, _, rfl, _⟩ := h; rfl) fun dd t h => ?_
  obtain ⟨p, q, ⟨p1, p2, p3⟩, ⟨q1, q2, q3⟩, qp, rfl, rfl⟩ := h
  refine ⟨_, .inl rfl, ?_⟩
  have at0 : ∀ r : Int × Int, atI [di r.1, di r.2] 0 = some (di r.1) := fun _ => rfl
  have at1 : ∀ r : Int × Int, atI [di r.1, di r.2] 1 = some (di r.2) := fun _ => rfl
  refine rns_cons (rn_skip (Et.s (et_eq (ev_ixT (ev_nm 1 rfl) ev_int rfl (at0 q)) ev_int)) (decide_eq_false (by omega))) ?_
  exact rns_one (rn_ret (Ev.s (ev_call K_fraction (Nat.le_refl _) (eva_cons (ev_mul (ev_ixT (ev_nm 0 rfl) ev_int rfl (at0 p)) (ev_ixT (ev_nm 1 rfl) ev_int rfl (at1 q)) ⟨lt_big p3 (by decide), lt_big q2 (by decide)⟩) (eva_cons (ev_mul (ev_ixT (ev_nm 0 rfl) ev_int rfl (at1 p)) (ev_ixT (ev_nm 1 rfl) ev_int rfl (at0 q)) ⟨lt_big p2 (by decide), lt_big q3 (by decide)⟩) eva_nil)) ⟨_, _, Int.mul_pos p1 qp, lt_big (mul_lt p2 q3) (by decide), rfl, rfl⟩)))
def underP (p q : Int × Int) : Bool := decide (p.1 * q.2 < q.1 * p.2)
def rUnder (dd : List Dv) (t : Tr) : Prop := ∃ p q : Int × Int, SmallF p ∧ SmallF q ∧ dd = [dF p, dF q] ∧ t = tb (underP p q)
abbrev s_under : Stmt := top 16
theorem sc_under : FnScope ["one", "other"] ["one", "other"] (defScope s_under) := ⟨rfl, rfl, rfl, by decide +kernel, rfl, by decide +kernel, by decide +kernel⟩
theorem ok_under {f : Addr} {fd : FuncData} {k : Nat} (F : Fun K "under" "under" s_under f fd) (T : Txt mg) : FnOk P w K mg base CX0 (k + 1) f fd ["one", "other"] (spT K rUnder) := by
  refine fn_ok F.d sc_under (fun dd t h => by obtain ⟨_, _, _, _, rfl, _⟩ := h; rfl) fun dd t h => ?_
  obtain ⟨p, q, ⟨p1, p2, p3⟩, ⟨q1, q2, q3⟩, rfl, rfl⟩ := h
  refine ⟨_, .inl rfl, ?_⟩
  have at0 : ∀ r : Int × Int, atI [di r.1, di r.2] 0 = some (di r.1) := fun _ => rfl
  have at1 : ∀ r : Int × Int, atI [di r.1, di r.2] 1 = some (di r.2) := fun _ => rfl
  exact rns_one (rn_ret (Ev.s (ev_lt (ev_mul (ev_ixT (ev_nm 0 rfl) ev_int rfl (at0 p)) (ev_ixT (ev_nm 1 rfl) ev_int rfl (at1 q)) ⟨lt_big p3 (by decide), lt_big q2 (by decide)⟩) (ev_mul (ev_ixT (ev_nm 1 rfl) ev_int rfl (at0 q)) (ev_ixT (ev_nm 0 rfl) ev_int rfl (at1 p)) ⟨lt_big q3 (by decide), lt_big p2 (by decide)⟩))))
theorem under_fW {W s t : Int} (h : 0 < W) : underP (fW W s) (fW W t) = decide (s < t) := by
  unfold underP
  rw [decide_eq_decide]
  exact fW_lt h
def worse (t1 t2 full : List Int) : List Bool := (List.range full.length).map fun k => decide (preS t1 full (k + 1) < preS t2 full (k + 1))
def goodF (t1 t2 full : List Int) : Bool := !(worse t1 t2 full).any id
theorem good_iff {t1 t2 full : List Int} : goodF t1 t2 full = true ↔ ∀ k, k < full.length → preS t2 full (k + 1) ≤ preS t1 full (k + 1) := by
  unfold goodF worse
  rw [Bool.not_eq_true', List.any_eq_false]
  constructor
  · intro h k hk
    have := h _ (List.mem_map.mpr ⟨k, List.mem_range.mpr hk, rfl⟩)
    simp only [id, decide_eq_true_eq] at this
    omega
  · intro h b hb
    obtain ⟨k, hk, rfl⟩ := List.mem_map.mp hb
    have := h k (List.mem_range.mp hk)
    simp only [id, decide_eq_true_eq]
    omega
def preP (W : Int) (tops full : List Int) (k : Nat) : List (Int × Int) := (List.range k).map fun j => fW W (preS tops full (j + 1))
theorem er_preT (W : Int) (tops full : List Int) (k : Nat) : er (.ow (preT W tops full k)) = .lst ((preP W tops full k).map dF) := by
  unfold preT preP
  rw [er_ow_map, List.map_map]; rfl
theorem zip_pre (W : Int) (t1 t2 full : List Int) (m : Nat) : zipD ((preP W t1 full m).map dF) ((preP W t2 full m).map dF) = (List.range m).map fun j => .tup [dF (fW W (preS t1 full (j + 1))), dF (fW W (preS t2 full (j + 1)))] := by
  unfold preP
  rw [List.map_map, List.map_map]
  have gen : ∀ (f g : Nat → Dv) (l : List Nat), zipD (l.map f) (l.map g) = l.map fun a => .tup [f a, g a] := fun f g l => by
    induction l with
    | nil => rfl
    | cons a l ih =>
      show Dv.tup [f a, g a] :: zipD (l.map f) (l.map g) = _
      rw [ih]; rfl
  exact gen _ _ _
theorem pre_small {W : Int} {n m : Nat} {tops full : List Int} (h : RowOk W n tops) (hm : m ≤ 100) : SmallF (fW W (preS tops full m)) := by
  obtain ⟨a, b⟩ := preS_ok h full m
  exact fW_small h.w0 h.w1 a b hm
def dRow (W : Int) (tops : List Int) : Dv := .lst ((tops.map (fW W)).map dF)
abbrev s_as_good : Stmt := top 35
theorem sc_as_good : FnScope ["table", "asker", "one", "other", "own", "others"] ["table", "asker", "one", "other"] (defScope s_as_good) := ⟨rfl, rfl, rfl, by decide +kernel, rfl, by decide +kernel, by decide +kernel⟩
def rGood (dd : List Dv) (t : Tr) : Prop := ∃ (c : List Int) (os : List (List Int)) (a : Int) (o : List Int) (W : Int) (t1 t2 : List Int), c.length ≤ 6 ∧ o.length ≤ 6 ∧ (∀ x ∈ o, 0 ≤ x ∧ x < c.length) ∧ atI os a = some o ∧ RowOk W c.length t1 ∧ RowOk W c.length t2 ∧
  dd = [tabD c os, di a, dRow W t1, dRow W t2] ∧ t = tb (goodF t1 t2 (fullF c.length o))
theorem ok_as_good {f f1 f2 : Addr} {fd fd1 fd2 : FuncData} {k : Nat} (F : Fun K "as_good" "as_good" s_as_good f fd) (T : Txt mg) (K_sums : Kn P w K mg base CX0 (k + 4) "sums" f1 fd1 ["table", "asker", "row"] (spT K rSums)) (K_under : Kn P w K mg base CX0 (k + 1) "under" f2 fd2 ["one", "other"] (spT K rUnder)) : FnOk P w K mg base CX0 (k + 5) f fd ["table", "asker", "one", "other"] (spT K rGood) := by
  refine fn_ok F.d sc_as_good (fun dd t h => by obtain ⟨_, _, _, _, _, _, _, _, _, _, _, _, _, rfl, _⟩ := h; rfl) fun dd t h => ?_
  obtain ⟨c, os, a, o, W, t1, t2, c6, o6, orng, oat, k1, k2, rfl, rfl⟩ := h
  refine ⟨_, .inl rfl, ?_⟩
  have big : 1000 < sizeLine := by decide
  have fl := full_len (n := c.length) o
  refine rns_cons (rn_set 4 (Ev.s (Ev.as (d := .lst ((preP W t1 (fullF c.length o) (fullF c.length o).length).map dF)) (ev_call K_sums (Nat.le_refl _) (eva_cons (ev_nm 0 rfl) (eva_cons (ev_nm 1 rfl) (eva_cons (ev_nm 2 rfl) eva_nil))) ⟨c, os, a, o, W, t1, c6, o6, orng, oat, k1, rfl, rfl⟩) (er_preT _ _ _ _))) (fun _ => sc_as_good.nd)) ?_
  refine rns_cons (rn_set 5 (Ev.s (Ev.as (d := .lst ((preP W t2 (fullF c.length o) (fullF c.length o).length).map dF)) (ev_call K_sums (Nat.le_refl _) (eva_cons (ev_nm 0 rfl) (eva_cons (ev_nm 1 rfl) (eva_cons (ev_nm 3 rfl) eva_nil))) ⟨c, os, a, o, W, t2, c6, o6, orng, oat, k2, rfl, rfl⟩) (er_preT _ _ _ _))) (fun _ => sc_as_good.nd)) ?_
  generalize fullF c.length o = full at fl
  refine rns_one (rn_ret (EvS.to (Ev.s (ev_not (ev_any (bs := worse t1 t2 full) T.b_any (ev_lcm (own := ["mine", "theirs"]) (fr := []) (List.range full.length) (fun j => .tup [dF (fW W (preS t1 full (j + 1))), dF (fW W (preS t2 full (j + 1)))]) (fun j => tb (decide (preS t1 full (j + 1) < preS t2 full (j + 1)))) (fun i => lcs ⟨rfl, rfl, by decide +kernel, by decide +kernel, by decide +kernel, by decide +kernel⟩) (EvI.to (evi_zip T.b_zip (ev_nm 4 rfl) (ev_nm 5 rfl) rfl rfl) (zip_pre W t1 t2 full full.length)) (evg_t2 0 1 (fun _ => by show List.Nodup (["mine", "theirs"] : List Str); decide)) (by decide) (by rw [List.length_range]; omega) (fun j hj => ⟨_, rfl, by
      have hj' := List.mem_range.mp hj
      exact Ev.to (ev_call K_under (by show k + 1 ≤ k + 4; omega) (eva_cons (ev_nm 0 rfl) (eva_cons (ev_nm 1 rfl) eva_nil)) ⟨_, _, pre_small k1 (by omega), pre_small k2 (by omega), rfl, rfl⟩) (by rw [under_fW k1.w0])⟩) (fun dd => by rcases dd with _ | ⟨_, _ | ⟨_, _⟩⟩ <;> rfl)) (er_mapB _ _)))) rfl))
end
end K48
namespace K48
open PySem L2 Fra
section
variable {P : Program} {w : World} {K : PySem.W.Frag} {mg : Str → Option Value} {base : Heap}
def minL (l : List Int) : Int := l.foldl min (l.headD 0)
theorem foldl_min_le (l : List Int) : ∀ a : Int, l.foldl min a ≤ a ∧ (∀ x ∈ l, l.foldl min a ≤ x) ∧ (l.foldl min a = a ∨ l.foldl min a ∈ l) := by
  induction l with
  | nil => intro a; exact ⟨Int.le_refl _, fun _ h => (nomatch h), .inl rfl⟩
  | cons y l ih =>
    intro a
    obtain ⟨h1, h2, h3⟩ := ih (min a y)
    rw [List.foldl_cons]
    refine ⟨by omega, fun x hx => ?_, ?_⟩
    · rcases List.mem_cons.mp hx with rfl | hx
      · omega
      · exact h2 x hx
    · rcases h3 with h3 | h3
      · rcases Int.le_total a y with z | z
        · left; omega
        · right; rw [h3, Int.min_eq_right z]; exact .head _
      · right; exact .tail _ h3
theorem minL_le {l : List Int} {x : Int} (h : x ∈ l) : minL l ≤ x := (foldl_min_le l _).2.1 x h
theorem minL_mem {l : List Int} (h : l ≠ []) : minL l ∈ l := by
  cases l with
  | nil => exact absurd rfl h
  | cons a r =>
    rcases (foldl_min_le (a :: r) a).2.2 with z | z
    · show (a :: r).foldl min a ∈ _
      rw [z]; exact .head _
    · exact z
abbrev s_least_of : Stmt := top 18
theorem sc_least_of : FnScope ["some", "least", "one"] ["some"] (defScope s_least_of) := ⟨rfl, rfl, rfl, by decide +kernel, rfl, by decide +kernel, by decide +kernel⟩
def rLeastOf (dd : List Dv) (t : Tr) : Prop := ∃ (W : Int) (ss : List Int), 0 < W ∧ W < 2 ^ 70 ∧ ss ≠ [] ∧ (∀ s ∈ ss, 0 ≤ s ∧ s ≤ 100 * W) ∧ dd = [dFs W ss] ∧ t = tF (fW W (minL ss))
theorem ok_least_of {f f1 : Addr} {fd fd1 : FuncData} {k : Nat} (F : Fun K "least_of" "least_of" s_least_of f fd) (T : Txt mg) (K_under : Kn P w K mg base CX0 (k + 1) "under" f1 fd1 ["one", "other"] (spT K rUnder)) : FnOk P w K mg base CX0 (k + 2) f fd ["some"] (spT K rLeastOf) := by
  refine fn_ok F.d sc_least_of (fun dd t h => by obtain ⟨_, _, _, _, _, _, rfl, _⟩ := h; rfl) fun dd t h => ?_
  obtain ⟨W, ss, w0, w1, ne, sb, rfl, rfl⟩ := h
  refine ⟨_, .inl rfl, ?_⟩
  have h0 : atI (ss.map fun s => dF (fW W s)) 0 = some (dF (fW W (ss.headD 0))) := by
    cases ss with
    | nil => exact absurd rfl ne
    | cons a r => exact atI_nat (j := 0) rfl
  refine rns_cons (rn_set 1 (Ev.s (ev_ix (ev_nm 0 rfl) ev_int rfl h0)) (fun _ => sc_least_of.nd)) ?_
  have hm : ∀ j, (ss.take j).foldl min (ss.headD 0) ∈ ss := fun j => by
    have hh : ss.headD 0 ∈ ss := by
      cases ss with
      | nil => exact absurd rfl ne
      | cons a r => exact .head _
    rcases (foldl_min_le (ss.take j) (ss.headD 0)).2.2 with z | z
    · rw [z]; exact hh
    · exact List.mem_of_mem_take z
  refine rns_cons (rn_for (EvI.s (evi_list (ev_nm 0 rfl) rfl)) (evg_nm 2 (fun _ => sc_least_of.nd)) (fun j => [some (.fz (dFs W ss)), some (tF (fW W ((ss.take j).foldl min (ss.headD 0)))), none]) rfl (fun _ => rfl) (fun j d hd => ?_)) ?_
  · obtain ⟨x, hx, rfl⟩ := map_get hd
    have hb := sb x (List.mem_of_getElem? hx)
    have hl := sb _ (hm j)
    refine ⟨_, [some (.fz (dFs W ss)), some (tF (fW W ((ss.take (j + 1)).foldl min (ss.headD 0)))), some (tF (fW W x))], rfl, ?_, [2], rfl⟩
    rw [take_get hx, List.foldl_append]
    show Rns _ _ _ (.nx [_, some (tF (fW W (min ((ss.take j).foldl min (ss.headD 0)) x))), _])
    generalize (ss.take j).foldl min (ss.headD 0) = m at hl
    rcases Int.lt_or_le x m with z | z
    · rw [show min m x = x by omega]
      exact rns_one (rn_ifT (Et.s (et_val (Ev.to (ev_call K_under (by show k + 1 ≤ k + 1; omega) (eva_cons (ev_nm 2 rfl) (eva_cons (ev_nm 1 rfl) eva_nil)) ⟨fW W x, fW W m, fW_sm w0 w1 hb.1 (by omega), fW_sm w0 w1 hl.1 (by omega), rfl, rfl⟩) (t' := tb true) (by rw [under_fW w0, decide_eq_true z])))) rfl (rns_one (rn_set 1 (Ev.s (ev_nm 2 rfl)) (fun _ => sc_least_of.nd))))
    · rw [show min m x = m by omega]
      exact rns_one (rn_skip (Et.s (et_val (Ev.to (ev_call K_under (by show k + 1 ≤ k + 1; omega) (eva_cons (ev_nm 2 rfl) (eva_cons (ev_nm 1 rfl) eva_nil)) ⟨fW W x, fW W m, fW_sm w0 w1 hb.1 (by omega), fW_sm w0 w1 hl.1 (by omega), rfl, rfl⟩) (t' := tb false) (by rw [under_fW w0, decide_eq_false (by omega)])))) rfl)
  · rw [List.length_map, List.take_length]
    exact rns_one (rn_ret (Ev.s (ev_nm 1 rfl)))
def WM : Int := 2799360000000
structure Stp where
  len : Int
  eat : List Int
  fin : List Int
def goneL (l : List Int) : List Int := (numsF l.length).filter fun x => decide (lat l x = 0)
def eatF (fo : List (List Int)) (l : List Int) : List Int := fo.map fun o => (leftF o (goneL l)).headD 0
def quoF (l eat : List Int) : List Int := ((numsF l.length).filter fun x => eat.contains x).map fun x => lat l x / (eat.count x : Int)
def lenF (l eat : List Int) (τ : Int) : Int := minL (τ :: quoF l eat)
def behF (l eat : List Int) (len : Int) : List Int := (numsF l.length).map fun x => lat l x - len * (eat.count x : Int)
def stepF (fo : List (List Int)) (l : List Int) (τ : Int) : Stp := ⟨lenF l (eatF fo l) τ, eatF fo l, (goneL (behF l (eatF fo l) (lenF l (eatF fo l) τ))).filter fun x => (eatF fo l).contains x⟩
def mealF : Nat → List (List Int) → List Int → Int → List Stp
  | 0, _, _, _ => []
  | n + 1, fo, l, τ => if τ = 0 then [] else stepF fo l τ :: mealF n fo (behF l (eatF fo l) (lenF l (eatF fo l) τ)) (τ - lenF l (eatF fo l) τ)
theorem mealF_end (n : Nat) (fo : List (List Int)) (l : List Int) : mealF n fo l 0 = [] := by cases n <;> simp [mealF]
theorem mealF_step {n : Nat} {fo : List (List Int)} {l : List Int} {τ : Int} (h : τ ≠ 0) : mealF (n + 1) fo l τ = stepF fo l τ :: mealF n fo (behF l (eatF fo l) (lenF l (eatF fo l) τ)) (τ - lenF l (eatF fo l) τ) := by rw [mealF, if_neg h]
theorem lat_nums (g : Int → Int) {m : Nat} {x : Int} (h0 : 0 ≤ x) (h1 : x < m) : lat ((numsF m).map g) x = g x := by
  unfold lat numsF
  rw [List.map_map, List.getD_eq_getElem?_getD, List.getElem?_map, List.getElem?_range (by omega)]
  show g (0 + ((x.toNat : Nat) : Int)) = g x
  congr 1; omega
theorem beh_len (l eat : List Int) (len : Int) : (behF l eat len).length = l.length := by unfold behF; rw [List.length_map, nums_len']
theorem lat_mem {l : List Int} {x : Int} (h0 : 0 ≤ x) (h1 : x < l.length) : lat l x ∈ l := by
  unfold lat
  rw [List.getD_eq_getElem?_getD, List.getElem?_eq_getElem (show x.toNat < l.length by omega)]
  exact List.getElem_mem _
def nzc (l : List Int) : Nat := ((numsF l.length).filter fun x => decide (lat l x ≠ 0)).length
structure FoOk (m : Nat) (fo : List (List Int)) : Prop where
  o6 : fo.length ≤ 6
  none : ∀ o ∈ fo, (m : Int) ∈ o
  rng : ∀ o ∈ fo, ∀ x ∈ o, 0 ≤ x ∧ x ≤ m
  nd : ∀ o ∈ fo, o.Nodup
  len : ∀ o ∈ fo, o.length ≤ 100
structure MSt (n m : Nat) (l : List Int) (τ : Int) : Prop where
  len : l.length = m
  m6 : m ≤ 6
  lb : ∀ x ∈ l, 0 ≤ x ∧ x ≤ 9 * WM ∧ ((60 ^ n : Nat) : Int) ∣ x
  t0 : 0 ≤ τ
  t1 : τ ≤ WM
  td : ((60 ^ n : Nat) : Int) ∣ τ
  nz : τ ≠ 0 → nzc l < n
theorem mem_goneL {l : List Int} {x : Int} : x ∈ goneL l ↔ (0 ≤ x ∧ x < l.length) ∧ lat l x = 0 := by
  unfold goneL
  rw [List.mem_filter, mem_nums, decide_eq_true_iff]
theorem left_head {m : Nat} {o : List Int} {l : List Int} (hl : l.length = m) (ho : (m : Int) ∈ o) : ∃ x r, leftF o (goneL l) = x :: r ∧ x ∈ o ∧ x ∉ goneL l := by
  have hm : (m : Int) ∈ leftF o (goneL l) := by
    unfold leftF
    refine List.mem_filter.mpr ⟨ho, ?_⟩
    have : (m : Int) ∉ goneL l := fun z => by have := (mem_goneL.mp z).1; omega
    simpa using this
  cases h : leftF o (goneL l) with
  | nil => rw [h] at hm; cases hm
  | cons x r =>
    have hx : x ∈ leftF o (goneL l) := by rw [h]; exact .head _
    unfold leftF at hx
    obtain ⟨h1, h2⟩ := List.mem_filter.mp hx
    exact ⟨x, r, rfl, h1, by simpa using h2⟩
theorem eat_ok {m : Nat} {fo : List (List Int)} {l : List Int} (F : FoOk m fo) (hl : l.length = m) {x : Int} (hx : x ∈ eatF fo l) : 0 ≤ x ∧ x ≤ m ∧ x ∉ goneL l := by
  unfold eatF at hx
  obtain ⟨o, ho, rfl⟩ := List.mem_map.mp hx
  obtain ⟨y, r, e, h1, h2⟩ := left_head hl (F.none o ho)
  rw [e]
  have := F.rng o ho y h1
  exact ⟨this.1, this.2, h2⟩
theorem eat_len (fo : List (List Int)) (l : List Int) : (eatF fo l).length = fo.length := by unfold eatF; rw [List.length_map]
theorem quo_mem {l eat : List Int} {q : Int} (h : q ∈ quoF l eat) : ∃ x : Int, 0 ≤ x ∧ x < l.length ∧ x ∈ eat ∧ q = lat l x / (eat.count x : Int) := by
  unfold quoF at h
  obtain ⟨x, hx, rfl⟩ := List.mem_map.mp h
  obtain ⟨h1, h2⟩ := List.mem_filter.mp hx
  have := mem_nums.mp h1
  exact ⟨x, this.1, this.2, by simpa using h2, rfl⟩
theorem quo_of {l eat : List Int} {x : Int} (h0 : 0 ≤ x) (h1 : x < l.length) (h2 : x ∈ eat) : lat l x / (eat.count x : Int) ∈ quoF l eat :=
  List.mem_map.mpr ⟨x, List.mem_filter.mpr ⟨mem_nums.mpr ⟨h0, h1⟩, by simpa using h2⟩, rfl⟩
theorem div60 {c : Nat} (h1 : 1 ≤ c) (h6 : c ≤ 6) : (c : Int) ∣ 60 := by
  have : c = 1 ∨ c = 2 ∨ c = 3 ∨ c = 4 ∨ c = 5 ∨ c = 6 := by omega
  rcases this with rfl | rfl | rfl | rfl | rfl | rfl <;> decide
theorem quo_ok {n : Nat} {v : Int} {c : Nat} (h1 : 1 ≤ c) (h6 : c ≤ 6) (hd : ((60 ^ (n + 1) : Nat) : Int) ∣ v) : (c : Int) ∣ v ∧ ((60 ^ n : Nat) : Int) ∣ v / c ∧ v / c * c = v := by
  obtain ⟨k, rfl⟩ := hd
  obtain ⟨e, he⟩ := div60 h1 h6
  have e1 : ((60 ^ (n + 1) : Nat) : Int) * k = (c : Int) * (((60 ^ n : Nat) : Int) * (e * k)) := by
    rw [Nat.pow_succ, Int.natCast_mul, show ((60 : Nat) : Int) = c * e from he, Int.mul_assoc, Int.mul_assoc, Int.mul_left_comm]
  have hc : (c : Int) ≠ 0 := by omega
  rw [e1, Int.mul_ediv_cancel_left _ hc]
  exact ⟨Int.dvd_mul_right _ _, Int.dvd_mul_right _ _, Int.mul_comm _ _⟩
structure StepOk (n m : Nat) (l eat : List Int) (len τ : Int) : Prop where
  pos : 0 < len
  le : len ≤ τ
  part : ((60 ^ n : Nat) : Int) ∣ len
  has : ∀ x : Int, 0 ≤ x → x < m → len * (eat.count x : Int) ≤ lat l x
  next : MSt n m (behF l eat len) (τ - len)
theorem step_ok {n m : Nat} {fo : List (List Int)} {l : List Int} {τ : Int} (F : FoOk m fo) (S : MSt (n + 1) m l τ) (ht : τ ≠ 0) : StepOk n m l (eatF fo l) (lenF l (eatF fo l) τ) τ := by
  have hl := S.len
  have elen := eat_len fo l
  have eok : ∀ x ∈ eatF fo l, 0 ≤ x ∧ x ≤ m ∧ x ∉ goneL l := fun x hx => eat_ok F hl hx
  generalize eatF fo l = eat at elen eok
  have o6 := F.o6
  have cnt : ∀ x ∈ eat, 1 ≤ eat.count x ∧ eat.count x ≤ 6 := fun x hx => ⟨List.count_pos_iff.mpr hx, Nat.le_trans List.count_le_length (by omega)⟩
  have lb : ∀ x : Int, 0 ≤ x → x < m → 0 ≤ lat l x ∧ lat l x ≤ 9 * WM ∧ ((60 ^ (n + 1) : Nat) : Int) ∣ lat l x := fun x h0 h1 => S.lb _ (lat_mem h0 (by omega))
  have lpos : ∀ x ∈ eat, x < m → 0 < lat l x := fun x hx h1 => by
    obtain ⟨h0, _, h2⟩ := eok x hx
    have a := (lb x h0 h1).1
    rcases Int.lt_or_eq_of_le a with z | z
    · exact z
    · exact absurd (mem_goneL.mpr ⟨⟨h0, by omega⟩, z.symm⟩) h2
  have qok : ∀ x ∈ eat, x < m → 0 < lat l x / (eat.count x : Int) ∧ ((60 ^ n : Nat) : Int) ∣ lat l x / (eat.count x : Int) ∧ lat l x / (eat.count x : Int) * (eat.count x : Int) = lat l x := fun x hx h1 => by
    obtain ⟨h0, _, _⟩ := eok x hx
    obtain ⟨c1, c6⟩ := cnt x hx
    obtain ⟨_, a, b⟩ := quo_ok c1 c6 (lb x h0 h1).2.2
    have p := lpos x hx h1
    refine ⟨?_, a, b⟩
    rcases Int.lt_or_le 0 (lat l x / (eat.count x : Int)) with z | z
    · exact z
    · have : lat l x / (eat.count x : Int) * (eat.count x : Int) ≤ 0 := Int.mul_nonpos_of_nonpos_of_nonneg z (by omega)
      omega
  have pow0 : ((60 ^ n : Nat) : Int) ∣ ((60 ^ (n + 1) : Nat) : Int) := ⟨60, by rw [Nat.pow_succ, Int.natCast_mul]; rfl⟩
  have lmem : lenF l eat τ ∈ τ :: quoF l eat := minL_mem (by simp)
  have lle : ∀ x, x ∈ τ :: quoF l eat → lenF l eat τ ≤ x := fun x hx => minL_le hx
  generalize lenF l eat τ = len at lmem lle
  have h1 : 0 < len := by
    rcases List.mem_cons.mp lmem with z | z
    · have := S.t0; omega
    · obtain ⟨x, h0, h1, h2, rfl⟩ := quo_mem z
      exact (qok x h2 (by omega)).1
  have h2 : len ≤ τ := lle τ (.head _)
  have h3 : ((60 ^ n : Nat) : Int) ∣ len := by
    rcases List.mem_cons.mp lmem with z | z
    · rw [z]; exact Int.dvd_trans pow0 S.td
    · obtain ⟨x, a0, a1, a2, e⟩ := quo_mem z
      rw [e]
      exact (qok x a2 (by omega)).2.1
  have h4 : ∀ x : Int, 0 ≤ x → x < m → len * (eat.count x : Int) ≤ lat l x := fun x a b => by
    by_cases hx : x ∈ eat
    · have q := lle _ (.tail _ (quo_of a (by omega) hx))
      have e := (qok x hx b).2.2
      rw [← e]
      exact Int.mul_le_mul_of_nonneg_right q (by omega)
    · rw [List.count_eq_zero.mpr hx]
      have := (lb x a b).1
      show len * (0 : Int) ≤ _
      omega
  refine ⟨h1, h2, h3, h4, ?_⟩
  have blat : ∀ x : Int, 0 ≤ x → x < m → lat (behF l eat len) x = lat l x - len * (eat.count x : Int) := fun x a b => by
    unfold behF
    exact lat_nums _ a (by omega)
  have wpos : 0 < WM := by decide
  refine ⟨by rw [beh_len, hl], S.m6, fun y hy => ?_, by omega, by have := S.t1; omega, Int.dvd_sub (Int.dvd_trans pow0 S.td) h3, fun hn => ?_⟩
  · unfold behF at hy
    obtain ⟨x, hx, rfl⟩ := List.mem_map.mp hy
    obtain ⟨a, b⟩ := mem_nums.mp hx
    have a4 := h4 x a (by omega)
    obtain ⟨b1, b2, b3⟩ := lb x a (by omega)
    have : 0 ≤ len * (eat.count x : Int) := Int.mul_nonneg (by omega) (by omega)
    exact ⟨by omega, by omega, Int.dvd_sub (Int.dvd_trans pow0 b3) (Int.dvd_mul_of_dvd_left h3)⟩
  · have hq : len ∈ quoF l eat := by
      rcases List.mem_cons.mp lmem with z | z
      · omega
      · exact z
    obtain ⟨x, a, b, hx, e⟩ := quo_mem hq
    have zero : lat (behF l eat len) x = 0 := by
      rw [blat x a (by omega), e, (qok x hx (by omega)).2.2]; omega
    have pos := lpos x hx (by omega)
    have key : nzc (behF l eat len) < nzc l := by
      unfold nzc
      rw [beh_len]
      have e1 : ((numsF l.length).filter fun x => decide (lat (behF l eat len) x ≠ 0)) = ((numsF l.length).filter fun x => decide (lat l x ≠ 0)).filter fun x => decide (lat (behF l eat len) x ≠ 0) := by
        rw [List.filter_filter]
        refine List.filter_congr fun y hy => ?_
        obtain ⟨a', b'⟩ := mem_nums.mp hy
        rw [Bool.eq_iff_iff, Bool.and_eq_true, decide_eq_true_iff, decide_eq_true_iff]
        refine ⟨fun z => ⟨z, fun w => z ?_⟩, fun z => z.1⟩
        rw [blat y a' (by omega)]
        have := h4 y a' (by omega)
        have : 0 ≤ len * (eat.count y : Int) := Int.mul_nonneg (by omega) (by omega)
        omega
      rw [e1]
      refine List.length_filter_lt_length_iff_exists.mpr ⟨x, List.mem_filter.mpr ⟨mem_nums.mpr ⟨a, b⟩, decide_eq_true (by omega)⟩, ?_⟩
      rw [zero]; decide
    have := S.nz ht
    omega
theorem meal_mem {m : Nat} {fo : List (List Int)} (F : FoOk m fo) : ∀ (n : Nat) (l : List Int) (τ : Int), MSt n m l τ → ∀ s ∈ mealF n fo l τ, ∃ l', l'.length = m ∧ s.eat = eatF fo l' ∧ 0 < s.len ∧ s.len ≤ WM
  | 0, l, τ, _, s, hs => by cases hs
  | n + 1, l, τ, S, s, hs => by
    by_cases ht : τ = 0
    · rw [ht, mealF_end] at hs; cases hs
    · rw [mealF_step ht] at hs
      have ok := step_ok F S ht
      rcases List.mem_cons.mp hs with rfl | hs
      · exact ⟨l, S.len, rfl, ok.pos, Int.le_trans ok.le S.t1⟩
      · exact meal_mem F n _ _ ok.next s hs
theorem meal_sum {m : Nat} {fo : List (List Int)} (F : FoOk m fo) : ∀ (n : Nat) (l : List Int) (τ : Int), MSt n m l τ → ((mealF n fo l τ).map Stp.len).sum = τ
  | 0, l, τ, S => by
    by_cases ht : τ = 0
    · rw [ht]; rfl
    · exact absurd (S.nz ht) (Nat.not_lt_zero _)
  | n + 1, l, τ, S => by
    by_cases ht : τ = 0
    · rw [ht, mealF_end]; rfl
    · rw [mealF_step ht, List.map_cons, List.sum_cons, meal_sum F n _ _ (step_ok F S ht).next]
      show lenF l (eatF fo l) τ + _ = _
      omega
theorem meal_len : ∀ (n : Nat) (fo : List (List Int)) (l : List Int) (τ : Int), (mealF n fo l τ).length ≤ n
  | 0, _, _, _ => Nat.le_refl _
  | n + 1, fo, l, τ => by
    rw [mealF]
    split
    · exact Nat.zero_le _
    · rw [List.length_cons]; have := meal_len n fo (behF l (eatF fo l) (lenF l (eatF fo l) τ)) (τ - lenF l (eatF fo l) τ); omega
theorem nzc_le (l : List Int) : nzc l ≤ l.length := by
  unfold nzc
  exact Nat.le_trans (List.length_filter_le _ _) (by rw [nums_len']; exact Nat.le_refl _)
def stepsF (c : List Int) (os : List (List Int)) : List Stp := mealF 7 (os.map (fullF c.length)) (c.map (· * WM)) WM
theorem start_ok {c : List Int} (h6 : c.length ≤ 6) (hc : ∀ x ∈ c, 0 ≤ x ∧ x ≤ 9) : MSt 7 c.length (c.map (· * WM)) WM := by
  have hw : WM = ((60 ^ 7 : Nat) : Int) := by decide
  refine ⟨by rw [List.length_map], h6, fun x hx => ?_, by decide, Int.le_refl _, by rw [← hw]; exact Int.dvd_refl _, fun _ => ?_⟩
  · obtain ⟨y, hy, rfl⟩ := List.mem_map.mp hx
    obtain ⟨a, b⟩ := hc y hy
    refine ⟨Int.mul_nonneg a (by decide), Int.mul_le_mul_of_nonneg_right b (by decide), by rw [← hw]; exact Int.dvd_mul_left _ _⟩
  · have := nzc_le (c.map (· * WM))
    rw [List.length_map] at this
    omega
end
end K48
namespace K48
open PySem L2 Fra
section
variable {P : Program} {w : World} {K : PySem.W.Frag} {mg : Str → Option Value} {base : Heap}
theorem wm0 : 0 < WM := by decide
theorem wm1 : WM < 2 ^ 70 := by decide
theorem map_lat {α : Type} (l : List Int) (f : Int → α) : l.map f = (numsF l.length).map fun x => f (lat l x) := by
  unfold numsF
  rw [List.map_map, ← map_range_get l 0 f]
  refine List.map_congr_left fun j hj => ?_
  show f ((l[j]?).getD 0) = f (lat l (0 + (j : Int)))
  unfold lat
  rw [Int.zero_add, Int.toNat_natCast, List.getD_eq_getElem?_getD]
theorem map_os {α β : Type} (l : List α) (d : α) (f : α → β) : l.map f = (numsF l.length).map fun x => f (l.getD x.toNat d) := by
  unfold numsF
  rw [List.map_map, ← map_range_get l d f]
  refine List.map_congr_left fun j hj => ?_
  show f ((l[j]?).getD d) = f (l.getD (0 + (j : Int)).toNat d)
  rw [Int.zero_add, Int.toNat_natCast, List.getD_eq_getElem?_getD]
theorem enu_l (l : List Int) (f : Int → Dv) : enuD (l.map f) = (numsF l.length).map fun x => .tup [di x, f (lat l x)] := by
  rw [map_lat l f]
  unfold enuD numsF
  rw [List.map_map, List.length_map, List.length_range, List.zipWith_map_right, List.zipWith_self, List.map_map]
  refine List.map_congr_left fun j _ => ?_
  show Dv.tup [di (j : Int), f (lat l (0 + (j : Int)))] = Dv.tup [di (0 + (j : Int)), f (lat l (0 + (j : Int)))]
  rw [Int.zero_add]
theorem eqD_dF (p q : Int × Int) : eqD (dF p) (dF q) = decide (p = q) := by
  show (p.1 == q.1 && (p.2 == q.2 && true)) = _
  rw [Bool.and_true, Bool.eq_iff_iff, Bool.and_eq_true, beq_iff_eq, beq_iff_eq, decide_eq_true_iff]
  exact ⟨fun h => Prod.ext h.1 h.2, fun h => by rw [h]; exact ⟨rfl, rfl⟩⟩
theorem eqD_zero {W s : Int} (h : 0 < W) : eqD (dF (fW W s)) (dF (lT 0 1, lB 0 1)) = decide (s = 0) := by
  rw [eqD_dF, frac1, ← fW_zero h, decide_eq_decide]
  exact ⟨fun e => fW_inj h e, fun e => by rw [e]⟩
theorem dp2 (p : Int × Int) : dpD (er (tF p)) ≤ 50 := Nat.le_trans (dpD_dF p) (by decide)
structure LOk (l : List Int) : Prop where
  len : l.length ≤ 6
  b : ∀ x ∈ l, 0 ≤ x ∧ x ≤ 9 * WM ∧ (60 : Int) ∣ x
theorem LOk.at {l : List Int} (h : LOk l) {x : Int} (h0 : 0 ≤ x) (h1 : x < l.length) : 0 ≤ lat l x ∧ lat l x ≤ 9 * WM ∧ (60 : Int) ∣ lat l x := h.b _ (lat_mem h0 h1)
abbrev s_next_length : Stmt := top 27
theorem sc_next_length : FnScope ["left", "eaten", "time_left", "things"] ["left", "eaten", "time_left"] (defScope s_next_length) := ⟨rfl, rfl, rfl, by decide +kernel, rfl, by decide +kernel, by decide +kernel⟩
def rNextLen (dd : List Dv) (t : Tr) : Prop := ∃ (l eat : List Int) (τ : Int), LOk l ∧ eat.length ≤ 6 ∧ 0 ≤ τ ∧ τ ≤ WM ∧ dd = [dFs WM l, dis eat, dF (fW WM τ)] ∧ t = tF (fW WM (lenF l eat τ))
theorem ok_next_length {f f1 f2 f3 : Addr} {fd fd1 fd2 fd3 : FuncData} {k : Nat} {tk : Tok} (F : Fun K "next_length" "next_length" s_next_length f fd) (T : Txt mg) (K_fraction : Kn P w K mg base CX0 (k + 2) "fraction" f1 fd1 ["top", "bottom"] (spT K rFrac)) (B1 : Binds K fd1 ["top", "bottom"] [.int 1 tk]) (K_over : Kn P w K mg base CX0 (k + 3) "over" f2 fd2 ["one", "other"] (spT K rOver)) (K_least_of : Kn P w K mg base CX0 (k + 2) "least_of" f3 fd3 ["some"] (spT K rLeastOf)) : FnOk P w K mg base CX0 (k + 4) f fd ["left", "eaten", "time_left"] (spT K rNextLen) := by
  refine fn_ok F.d sc_next_length (fun dd t h => by obtain ⟨_, _, _, _, _, _, _, rfl, _⟩ := h; rfl) fun dd t h => ?_
  obtain ⟨l, eat, τ, lok, e6, t0, t1, rfl, rfl⟩ := h
  refine ⟨_, .inl rfl, ?_⟩
  have big : 1000 < sizeLine := by decide
  have w0 := wm0
  have l6 := lok.len
  have elen : (((l.map fun s => dF (fW WM s)).length : Nat) : Int) = l.length := by rw [List.length_map]
  have eIt : rngD 0 (((l.map fun s => dF (fW WM s)).length : Nat) : Int).toNat = (numsF l.length).map di := by
    rw [elen, Int.toNat_natCast]
    unfold numsF
    rw [List.map_map]; rfl
  refine rns_cons (rn_lcG 3 (ElcS (Elc.as (d := dis ((numsF l.length).filter fun x => eat.contains x)) (elcf (own := ["thing"]) (fr := [1]) (numsF l.length) di (fun x => eat.contains x) ti (EvI.to (evi_range1 T.b_range (ev_len T.b_len (ev_nm 0 rfl) (.inl rfl)) (by rw [elen]; omega)) eIt) (evg_nm 0 (fun _ => by show List.Nodup (["thing", "eaten"] : List Str); decide)) (by decide) (by rw [nums_len']; omega) (fun x hx => ⟨_, rfl, by exact el_one (et_in (ev_nm 0 rfl) (ev_nm 1 rfl) rfl (by with_unfolding_all rfl)), fun _ => by exact ev_nm 0 rfl⟩) (fun dd => by cases dd <;> rfl)) (er_tInts _))) (fun i => lcs ⟨rfl, rfl, by decide +kernel, by decide +kernel, by decide +kernel, by decide +kernel⟩) (fun _ => sc_next_length.nd)) ?_
  have hin : ∀ x ∈ (numsF l.length).filter (fun x => eat.contains x), 0 ≤ x ∧ x < l.length ∧ 1 ≤ eat.count x ∧ eat.count x ≤ 6 := fun x hx => by
    obtain ⟨h1, h2⟩ := List.mem_filter.mp hx
    have := mem_nums.mp h1
    exact ⟨this.1, this.2, List.count_pos_iff.mpr (by simpa using h2), Nat.le_trans List.count_le_length e6⟩
  have hlen : ((numsF l.length).filter (fun x => eat.contains x)).length ≤ 6 := Nat.le_trans (List.length_filter_le _ _) (by rw [nums_len']; exact l6)
  have eq : quoF l eat = ((numsF l.length).filter fun x => eat.contains x).map fun x => lat l x / (eat.count x : Int) := rfl
  have hq : ∀ s ∈ τ :: quoF l eat, 0 ≤ s ∧ s ≤ 100 * WM := fun s hs => by
    rcases List.mem_cons.mp hs with rfl | hs
    · omega
    · obtain ⟨x, a0, a1, _, rfl⟩ := quo_mem hs
      have := lok.at a0 a1
      have d1 := Int.ediv_nonneg this.1 (show (0 : Int) ≤ (eat.count x : Int) by omega)
      have d2 := Int.ediv_le_self (eat.count x : Int) this.1
      omega
  unfold lenF
  rw [eq] at hq ⊢
  generalize (numsF l.length).filter (fun x => eat.contains x) = th at hin hlen hq
  show Rns _ _ [some (.fz (dFs WM l)), some (.fz (dis eat)), some (tF (fW WM τ)), some (.fz (dis th))] _
  refine rns_one (rn_ret (Ev.s (ev_call K_least_of (by show k + 2 ≤ k + 3; omega) (eva_cons (Ev.as (d := dFs WM (τ :: th.map fun x => lat l x / (eat.count x : Int))) (ev_cat (xs := [dF (fW WM τ)]) (ys := th.map fun x => dF (fW WM (lat l x / (eat.count x : Int)))) (ev_lst (eva_cons (ev_nm 2 rfl) eva_nil) (by show 1 ≤ sizeLine; decide)) (ev_lcm (own := ["thing"]) (fr := [0, 1]) th di (fun x => tF (fW WM (lat l x / (eat.count x : Int)))) (fun i => lcs ⟨rfl, rfl, by decide +kernel, by decide +kernel, by decide +kernel, by decide +kernel⟩) (evi_list (ev_nm 3 rfl) rfl) (evg_nm 0 (fun _ => by show List.Nodup (["thing", "left", "eaten"] : List Str); decide)) (by decide) (by omega) (fun x hx => ⟨_, rfl, by
      obtain ⟨x0, x1, c1, c6⟩ := hin x hx
      obtain ⟨l0, l9, l60⟩ := lok.at x0 x1
      have cpos : (0 : Int) < (eat.count x : Int) := by omega
      exact Ev.to (ev_call K_over (Nat.le_refl _) (eva_cons (ev_ix (ev_nm 1 rfl) (ev_nm 0 rfl) rfl (lat_at (fun s => dF (fW WM s)) x0 x1)) (eva_cons (Ev.to (ev_callD K_fraction B1 (by show k + 2 ≤ k + 3; omega) (eva_cons (ev_count (ev_nm 2 rfl) rfl (ev_nm 0 rfl)) eva_nil) ⟨(eat.count x : Int), 1, by decide, by decide, rfl, rfl⟩) (t' := tF ((eat.count x : Int), 1)) (by rw [frac1])) eva_nil)) ⟨fW WM (lat l x), ((eat.count x : Int), 1), fW_sm wm0 wm1 l0 (by omega), small1 (by omega) (by omega), cpos, rfl, rfl⟩) (by rw [← fW_over wm0 cpos (Int.dvd_trans (div60 c1 c6) l60)])⟩) (fun dd => by cases dd <;> rfl)) rfl (er_ow_map _ _) (by rw [List.length_map]; show 1 + _ ≤ _; omega)) (by rw [er_fzs]; show Dv.lst (dF (fW WM τ) :: _) = Dv.lst (dF (fW WM τ) :: _); rw [List.map_map]; rfl)) eva_nil) ⟨WM, _, wm0, wm1, by simp, hq, rfl, rfl⟩)))
abbrev s_left_behind : Stmt := top 28
theorem sc_left_behind : FnScope ["left", "eaten", "length"] ["left", "eaten", "length"] (defScope s_left_behind) := ⟨rfl, rfl, rfl, by decide +kernel, rfl, by decide +kernel, by decide +kernel⟩
def rLeftBehind (dd : List Dv) (t : Tr) : Prop := ∃ (l eat : List Int) (len : Int), LOk l ∧ eat.length ≤ 6 ∧ 0 ≤ len ∧ len ≤ WM ∧ dd = [dFs WM l, dis eat, dF (fW WM len)] ∧ t = .ow ((behF l eat len).map fun s => tF (fW WM s))
theorem ok_left_behind {f f1 f2 f3 : Addr} {fd fd1 fd2 fd3 : FuncData} {k : Nat} {tk : Tok} (F : Fun K "left_behind" "left_behind" s_left_behind f fd) (T : Txt mg) (K_fraction : Kn P w K mg base CX0 (k + 2) "fraction" f1 fd1 ["top", "bottom"] (spT K rFrac)) (B1 : Binds K fd1 ["top", "bottom"] [.int 1 tk]) (K_minus : Kn P w K mg base CX0 (k + 3) "minus" f2 fd2 ["one", "other"] (spT K rMinus)) (K_times : Kn P w K mg base CX0 (k + 3) "times" f3 fd3 ["one", "other"] (spT K rTimes)) : FnOk P w K mg base CX0 (k + 4) f fd ["left", "eaten", "length"] (spT K rLeftBehind) := by
  refine fn_ok F.d sc_left_behind (fun dd t h => by obtain ⟨_, _, _, _, _, _, _, rfl, _⟩ := h; rfl) fun dd t h => ?_
  obtain ⟨l, eat, len, lok, e6, t0, t1, rfl, rfl⟩ := h
  refine ⟨_, .inl rfl, ?_⟩
  have big : 1000 < sizeLine := by decide
  have w0 := wm0
  have l6 := lok.len
  unfold behF
  rw [List.map_map]
  refine rns_one (rn_ret (Ev.s (ev_lcm (own := ["thing", "some"]) (fr := [2, 1]) (numsF l.length) (fun x => .tup [di x, dF (fW WM (lat l x))]) (fun x => tF (fW WM (lat l x - len * (eat.count x : Int)))) (fun i => lcs ⟨rfl, rfl, by decide +kernel, by decide +kernel, by decide +kernel, by decide +kernel⟩) (EvI.to (evi_enum T.b_enumerate (ev_nm 0 rfl) rfl) (enu_l l fun s => dF (fW WM s))) (evg_t2 0 1 (fun _ => by show List.Nodup (["thing", "some", "length", "eaten"] : List Str); decide)) (by decide) (by rw [nums_len']; omega) (fun x hx => ⟨_, rfl, by
      obtain ⟨x0, x1⟩ := mem_nums.mp hx
      obtain ⟨l0, l9, l60⟩ := lok.at x0 x1
      have c6 : eat.count x ≤ 6 := Nat.le_trans List.count_le_length e6
      have c0 : 0 ≤ len * (eat.count x : Int) := Int.mul_nonneg t0 (by omega)
      have c9 : len * (eat.count x : Int) ≤ WM * 6 := Int.mul_le_mul t1 (by omega) (by omega) (by omega)
      exact Ev.to (ev_call K_minus (Nat.le_refl _) (eva_cons (ev_nm 1 rfl) (eva_cons (Ev.to (ev_call K_times (Nat.le_refl _) (eva_cons (ev_nm 2 rfl) (eva_cons (Ev.to (ev_callD K_fraction B1 (by show k + 2 ≤ k + 3; omega) (eva_cons (ev_count (ev_nm 3 rfl) rfl (ev_nm 0 rfl)) eva_nil) ⟨(eat.count x : Int), 1, by decide, by decide, rfl, rfl⟩) (t' := tF ((eat.count x : Int), 1)) (by rw [frac1])) eva_nil)) ⟨fW WM len, ((eat.count x : Int), 1), fW_sm wm0 wm1 t0 (by omega), small1 (by omega) (by omega), rfl, rfl⟩) (t' := tF (fW WM (len * (eat.count x : Int)))) (by rw [← fW_times wm0])) eva_nil)) ⟨fW WM (lat l x), fW WM (len * (eat.count x : Int)), fW_sm wm0 wm1 l0 (by omega), fW_sm wm0 wm1 c0 (by omega), rfl, rfl⟩) (by rw [fW_minus wm0])⟩) (fun dd => by rcases dd with _ | ⟨a, _ | ⟨b, dd⟩⟩ <;> rfl))))
abbrev s_ended_things : Stmt := top 29
theorem sc_ended_things : FnScope ["left"] ["left"] (defScope s_ended_things) := ⟨rfl, rfl, rfl, by decide +kernel, rfl, by decide +kernel, by decide +kernel⟩
def rEnded (dd : List Dv) (t : Tr) : Prop := ∃ l : List Int, l.length ≤ 6 ∧ dd = [dFs WM l] ∧ t = tInts (goneL l)
theorem ok_ended_things {f f1 : Addr} {fd fd1 : FuncData} {k : Nat} {tk : Tok} (F : Fun K "ended_things" "ended_things" s_ended_things f fd) (T : Txt mg) (K_fraction : Kn P w K mg base CX0 (k + 2) "fraction" f1 fd1 ["top", "bottom"] (spT K rFrac)) (B1 : Binds K fd1 ["top", "bottom"] [.int 1 tk]) : FnOk P w K mg base CX0 (k + 3) f fd ["left"] (spT K rEnded) := by
  refine fn_ok F.d sc_ended_things (fun dd t h => by obtain ⟨_, _, rfl, _⟩ := h; rfl) fun dd t h => ?_
  obtain ⟨l, l6, rfl, rfl⟩ := h
  refine ⟨_, .inl rfl, ?_⟩
  have big : 1000 < sizeLine := by decide
  refine rns_one (rn_ret (Ev.s (ev_lcf (own := ["thing", "some"]) (fr := []) (numsF l.length) (fun x => .tup [di x, dF (fW WM (lat l x))]) (fun x => decide (lat l x = 0)) ti (fun i => lcs ⟨rfl, rfl, by decide +kernel, by decide +kernel, by decide +kernel, by decide +kernel⟩) (EvI.to (evi_enum T.b_enumerate (ev_nm 0 rfl) rfl) (enu_l l fun s => dF (fW WM s))) (evg_t2 0 1 (fun _ => by show List.Nodup (["thing", "some"] : List Str); decide)) (by decide) (by rw [nums_len']; omega) (fun x hx => ⟨_, rfl, by
      exact el_one (Et.to (et_eqS (tb' := tF (lT 0 1, lB 0 1)) (ev_nm 1 rfl) (ev_callD K_fraction B1 (Nat.le_refl _) (eva_cons ev_int eva_nil) ⟨0, 1, by decide, by decide, rfl, rfl⟩) (.inr ⟨_, _, rfl, rfl⟩) (dp2 _)) (eqD_zero wm0)), fun _ => by exact ev_nm 0 rfl⟩) (fun dd => by rcases dd with _ | ⟨a, _ | ⟨b, dd⟩⟩ <;> rfl))))
def dStep (s : Stp) : Dv := .tup [dF (fW WM s.len), dis s.eat, dis s.fin]
abbrev dSteps (st : List Stp) : Dv := .lst (st.map dStep)
abbrev s_meal_steps : Stmt := top 30
theorem sc_meal_steps : FnScope ["table", "orders", "left", "time_left", "steps", "gone", "eaten", "length"] ["table"] (defScope s_meal_steps) := ⟨rfl, rfl, rfl, by decide +kernel, rfl, by decide +kernel, by decide +kernel⟩
def rSteps (dd : List Dv) (t : Tr) : Prop := ∃ (c : List Int) (os : List (List Int)), TabOk c os ∧ FoOk c.length (os.map (fullF c.length)) ∧ dd = [tabD c os] ∧ t = .ow ((stepsF c os).map fun s => .fz (dStep s))
theorem MSt.lok {n m : Nat} {l : List Int} {τ : Int} (S : MSt (n + 1) m l τ) : LOk l := by
  refine ⟨by rw [S.len]; exact S.m6, fun x hx => ?_⟩
  obtain ⟨a, b, c⟩ := S.lb x hx
  refine ⟨a, b, Int.dvd_trans ?_ c⟩
  exact ⟨((60 ^ n : Nat) : Int), by rw [Nat.pow_succ, Int.natCast_mul, Int.mul_comm]; rfl⟩
theorem ok_meal_steps {f f1 f2 f3 f4 f5 f6 f7 : Addr} {fd fd1 fd2 fd3 fd4 fd5 fd6 fd7 : FuncData} {k : Nat} {tk : Tok} (F : Fun K "meal_steps" "meal_steps" s_meal_steps f fd) (T : Txt mg) (K_fraction : Kn P w K mg base CX0 (k + 2) "fraction" f1 fd1 ["top", "bottom"] (spT K rFrac)) (B1 : Binds K fd1 ["top", "bottom"] [.int 1 tk]) (K_minus : Kn P w K mg base CX0 (k + 3) "minus" f2 fd2 ["one", "other"] (spT K rMinus)) (K_full_order : Kn P w K mg base CX0 (k + 1) "full_order" f3 fd3 ["table", "asker"] (spT K rFull)) (K_first_left : Kn P w K mg base CX0 (k + 1) "first_left" f4 fd4 ["order", "gone"] (spT K rFirst))
    (K_next_length : Kn P w K mg base CX0 (k + 4) "next_length" f5 fd5 ["left", "eaten", "time_left"] (spT K rNextLen)) (K_left_behind : Kn P w K mg base CX0 (k + 4) "left_behind" f6 fd6 ["left", "eaten", "length"] (spT K rLeftBehind)) (K_ended_things : Kn P w K mg base CX0 (k + 3) "ended_things" f7 fd7 ["left"] (spT K rEnded)) : FnOk P w K mg base CX0 (k + 5) f fd ["table"] (spT K rSteps) := by
  refine fn_ok F.d sc_meal_steps (fun dd t h => by obtain ⟨_, _, _, _, rfl, _⟩ := h; rfl) fun dd t h => ?_
  obtain ⟨c, os, tab, fok, rfl, rfl⟩ := h
  refine ⟨_, .inl rfl, ?_⟩
  have big : 1000 < sizeLine := by decide
  have c6 := tab.c6
  have o6 := tab.o6
  have olen : (((os.map dis).length : Nat) : Int) = os.length := by rw [List.length_map]
  have eIt : rngD 0 (((os.map dis).length : Nat) : Int).toNat = (numsF os.length).map di := by
    rw [olen, Int.toNat_natCast]
    unfold numsF
    rw [List.map_map]; rfl
  have eO : er (.ow ((numsF os.length).map fun x => tInts (fullF c.length (os.getD x.toNat [])))) = .lst ((os.map (fullF c.length)).map dis) := by
    rw [er_ow_map]
    show Dv.lst _ = Dv.lst (List.map _ (List.map _ _))
    rw [List.map_map, map_os os [] (dis ∘ fullF c.length)]
    congr 1
    exact List.map_congr_left fun x _ => er_tInts _
  refine rns_cons (rn_lcG 1 (ElcS (Elc.as (elcm (own := ["asker"]) (fr := [0]) (numsF os.length) di (fun x => tInts (fullF c.length (os.getD x.toNat []))) (EvI.to (evi_range1 T.b_range (ev_len T.b_len (ev_ixT (d := .lst (os.map dis)) (ev_nm 0 rfl) ev_int rfl rfl) (.inl rfl)) (by rw [olen]; omega)) eIt) (evg_nm 0 (fun _ => by show List.Nodup (["asker", "table"] : List Str); decide)) (by decide) (by rw [nums_len']; omega) (fun x hx => ⟨_, rfl, by
      obtain ⟨x0, x1⟩ := mem_nums.mp hx
      have hx : os[x.toNat]? = some (os.getD x.toNat []) := by rw [List.getD_eq_getElem?_getD, List.getElem?_eq_getElem (show x.toNat < os.length by omega)]; rfl
      have hm := List.mem_of_getElem? hx
      have hl := nodup_len (tab.nd _ hm) (tab.rng _ hm)
      have hat : atI os x = some (os.getD x.toNat []) := by
        have := atI_get? (k := x.toNat) hx
        rwa [show ((x.toNat : Nat) : Int) = x by omega] at this
      exact ev_call K_full_order (by show k + 1 ≤ k + 4; omega) (eva_cons (ev_nm 1 rfl) (eva_cons (ev_nm 0 rfl) eva_nil)) ⟨c, os, x, os.getD x.toNat [], by omega, by omega, hat, rfl, rfl⟩⟩) (fun dd => by cases dd <;> rfl)) eO)) (fun i => lcs ⟨rfl, rfl, by decide +kernel, by decide +kernel, by decide +kernel, by decide +kernel⟩) (fun _ => sc_meal_steps.nd)) ?_
  have eL : er (.ow (c.map fun x => tF (fW WM (x * WM)))) = dFs WM (c.map (· * WM)) := by
    rw [er_ow_map]
    show Dv.lst _ = Dv.lst (List.map _ (List.map _ _))
    rw [List.map_map]; rfl
  refine rns_cons (rn_lcG 2 (ElcS (Elc.as (elcm (own := ["count"]) (fr := []) c di (fun x => tF (fW WM (x * WM))) (evi_list (ev_ixT (d := dis c) (ev_nm 0 rfl) ev_int rfl rfl) rfl) (evg_nm 0 (fun _ => by show List.Nodup (["count"] : List Str); decide)) (by decide) (by omega) (fun x hx => ⟨_, rfl, by
      exact Ev.to (ev_callD K_fraction B1 (by show k + 2 ≤ k + 4; omega) (eva_cons (ev_nm 0 rfl) eva_nil) ⟨x, 1, by decide, by decide, rfl, rfl⟩) (by rw [frac1, fW_int wm0])⟩) (fun dd => by cases dd <;> rfl)) eL)) (fun i => lcs ⟨rfl, rfl, by decide +kernel, by decide +kernel, by decide +kernel, by decide +kernel⟩) (fun _ => sc_meal_steps.nd)) ?_
  refine rns_cons (rn_set 3 (EvS.to (t' := tF (fW WM WM)) (Ev.s (ev_callD K_fraction B1 (by show k + 2 ≤ k + 4; omega) (eva_cons ev_int eva_nil) ⟨1, 1, by decide, by decide, rfl, rfl⟩)) (by rw [frac1, fW_self wm0])) (fun _ => sc_meal_steps.nd)) ?_
  refine rns_cons (rn_set 4 (Ev.s (ev_lst eva_nil (Nat.zero_le _))) (fun _ => sc_meal_steps.nd)) ?_
  have st0 := start_ok tab.c6 tab.cnt
  have e0 : stepsF c os = mealF 7 (os.map (fullF c.length)) (c.map (· * WM)) WM := rfl
  generalize stepsF c os = res at e0
  generalize c.map (· * WM) = l0 at st0 e0
  generalize os.map (fullF c.length) = fo at fok e0
  refine rns_while_by (fun p : (List Stp × List Int) × (Int × Nat) => [some (.fz (tabD c os)), some (.fz (.lst (fo.map dis))), some (.fz (dFs WM p.1.2)), some (tF (fW WM p.2.1)), some (.ow (p.1.1.map fun s => .fz (dStep s))), none, none, none]) (fun p => MSt p.2.2 c.length p.1.2 p.2.1 ∧ p.1.1 ++ mealF p.2.2 fo p.1.2 p.2.1 = res ∧ p.1.1.length ≤ 7 - p.2.2 ∧ p.2.2 ≤ 7) (fun p => !decide (p.2.1 = 0)) (fun p => p.2.2) (([], l0), (WM, 7)) rfl ⟨st0, e0.symm, by show 0 ≤ _; omega, Nat.le_refl _⟩ (fun p hp => ?_) (fun p hp h => ?_) (fun p hp h => ?_)
  · refine Et.s (Et.to (et_neS (tb' := tF (lT 0 1, lB 0 1)) (ev_nm 3 rfl) (ev_callD K_fraction B1 (by show k + 2 ≤ k + 4; omega) (eva_cons ev_int eva_nil) ⟨0, 1, by decide, by decide, rfl, rfl⟩) (.inr ⟨_, _, rfl, rfl⟩) (dp2 _)) ?_)
    show (!eqD (dF (fW WM p.2.1)) (dF (lT 0 1, lB 0 1))) = _
    rw [eqD_zero wm0]
  · obtain ⟨⟨acc, l⟩, ⟨τ, n⟩⟩ := p
    obtain ⟨h1, h2, h3, h4⟩ := hp
    have ht : τ ≠ 0 := by simpa using h
    replace h1 : MSt n c.length l τ := h1
    replace h2 : acc ++ mealF n fo l τ = res := h2
    replace h3 : acc.length ≤ 7 - n := h3
    replace h4 : n ≤ 7 := h4
    obtain ⟨n, rfl⟩ : ∃ m, n = m + 1 := ⟨n - 1, by have := h1.nz ht; omega⟩
    have sok := step_ok fok h1 ht
    have lok := h1.lok
    have llen := h1.len
    rw [mealF_step ht] at h2
    have estep : stepF fo l τ = ⟨lenF l (eatF fo l) τ, eatF fo l, (goneL (behF l (eatF fo l) (lenF l (eatF fo l) τ))).filter fun x => (eatF fo l).contains x⟩ := rfl
    have elen := eat_len fo l
    have fo6 := fok.o6
    refine ⟨((acc ++ [stepF fo l τ], behF l (eatF fo l) (lenF l (eatF fo l) τ)), (τ - lenF l (eatF fo l) τ, n)), ⟨sok.next, by show (acc ++ [stepF fo l τ]) ++ _ = _; rw [List.append_assoc]; exact h2, by show (acc ++ [stepF fo l τ]).length ≤ 7 - n; rw [List.length_append, List.length_singleton]; omega, by show n ≤ 7; omega⟩, Nat.lt_succ_self n, ?_⟩
    have eEat : er (.ow (fo.map fun o => ti ((leftF o (goneL l)).headD 0))) = dis (eatF fo l) := by
      rw [er_ow_map]
      unfold eatF
      show Dv.lst _ = Dv.lst (List.map _ (List.map _ _))
      rw [List.map_map]; rfl
    refine Rns.fg (ρ1 := [some (.fz (tabD c os)), some (.fz (.lst (fo.map dis))), some (.fz (dFs WM (behF l (eatF fo l) (lenF l (eatF fo l) τ)))), some (tF (fW WM (τ - lenF l (eatF fo l) τ))), some (.ow ((acc ++ [stepF fo l τ]).map fun s => .fz (dStep s))), some (.fz (dis (goneL l))), some (.fz (dis (eatF fo l))), some (tF (fW WM (lenF l (eatF fo l) τ)))]) ?_ ⟨[5, 6, 7], rfl⟩
    refine rns_cons (rn_set 5 (Ev.s (Ev.as (ev_call K_ended_things (by show k + 3 ≤ k + 4; omega) (eva_cons (ev_nm 2 rfl) eva_nil) ⟨l, lok.len, rfl, rfl⟩) (er_tInts _))) (fun _ => sc_meal_steps.nd)) ?_
    refine rns_cons (rn_set 6 (Ev.s (Ev.as (ev_lcm (own := ["order"]) (fr := [5]) fo dis (fun o => ti ((leftF o (goneL l)).headD 0)) (fun i => lcs ⟨rfl, rfl, by decide +kernel, by decide +kernel, by decide +kernel, by decide +kernel⟩) (evi_list (ev_nm 1 rfl) rfl) (evg_nm 0 (fun _ => by show List.Nodup (["order", "gone"] : List Str); decide)) (by decide) (by omega) (fun o ho => ⟨_, rfl, by
        obtain ⟨x, r, e, _, _⟩ := left_head llen (fok.none o ho)
        exact Ev.to (ev_call K_first_left (by show k + 1 ≤ k + 4; omega) (eva_cons (ev_nm 0 rfl) (eva_cons (ev_nm 1 rfl) eva_nil)) ⟨o, goneL l, x, r, fok.len o ho, e, rfl, rfl⟩) (by rw [e]; rfl)⟩) (fun dd => by cases dd <;> rfl)) eEat)) (fun _ => sc_meal_steps.nd)) ?_
    have eS : acc ++ [stepF fo l τ] = acc ++ [⟨lenF l (eatF fo l) τ, eatF fo l, (goneL (behF l (eatF fo l) (lenF l (eatF fo l) τ))).filter fun x => (eatF fo l).contains x⟩] := by rw [estep]
    rw [eS]
    generalize eatF fo l = eat at sok elen
    have blok : LOk l := lok
    refine rns_cons (rn_set 7 (Ev.s (ev_call K_next_length (Nat.le_refl _) (eva_cons (ev_nm 2 rfl) (eva_cons (ev_nm 6 rfl) (eva_cons (ev_nm 3 rfl) eva_nil))) ⟨l, eat, τ, lok, by omega, h1.t0, h1.t1, rfl, rfl⟩)) (fun _ => sc_meal_steps.nd)) ?_
    generalize lenF l eat τ = len at sok
    have l0 := sok.pos
    have l1 : len ≤ WM := Int.le_trans sok.le h1.t1
    refine rns_cons (rn_set 2 (Ev.s (Ev.as (d := dFs WM (behF l eat len)) (ev_call K_left_behind (Nat.le_refl _) (eva_cons (ev_nm 2 rfl) (eva_cons (ev_nm 6 rfl) (eva_cons (ev_nm 7 rfl) eva_nil))) ⟨l, eat, len, lok, by omega, by omega, l1, rfl, rfl⟩) (er_ow_map _ _))) (fun _ => sc_meal_steps.nd)) ?_
    have t0 := h1.t0
    have t1 := h1.t1
    refine rns_cons (rn_set 3 (EvS.to (t' := tF (fW WM (τ - len))) (Ev.s (ev_call K_minus (by show k + 3 ≤ k + 4; omega) (eva_cons (ev_nm 3 rfl) (eva_cons (ev_nm 7 rfl) eva_nil)) ⟨fW WM τ, fW WM len, fW_sm wm0 wm1 t0 (by omega), fW_sm wm0 wm1 (by omega) (by omega), rfl, rfl⟩)) (by rw [fW_minus wm0])) (fun _ => sc_meal_steps.nd)) ?_
    have blen : (behF l eat len).length ≤ 6 := by rw [beh_len]; exact lok.len
    generalize behF l eat len = bl at blen
    have glen : (goneL bl).length ≤ 6 := by
      unfold goneL
      exact Nat.le_trans (List.length_filter_le _ _) (by rw [nums_len']; exact blen)
    rw [List.map_append]
    refine rns_one (rn_append 4 rfl (Ev.s (ev_tupD (dd := [dF (fW WM len), dis eat, dis ((goneL bl).filter fun x => eat.contains x)]) (eva_cons (ev_nm 7 rfl) (eva_cons (ev_nm 6 rfl) (eva_cons (Ev.as (d := dis ((goneL bl).filter fun x => eat.contains x)) (ev_lcf (own := ["thing"]) (fr := [6]) (goneL bl) di (fun x => eat.contains x) ti (fun i => lcs ⟨rfl, rfl, by decide +kernel, by decide +kernel, by decide +kernel, by decide +kernel⟩) (evi_list (ev_call K_ended_things (by show k + 3 ≤ k + 4; omega) (eva_cons (ev_nm 2 rfl) eva_nil) ⟨bl, blen, rfl, rfl⟩) (er_tInts _)) (evg_nm 0 (fun _ => by show List.Nodup (["thing", "eaten"] : List Str); decide)) (by decide) (by omega) (fun x hx => ⟨_, rfl, by exact el_one (et_in (ev_nm 0 rfl) (ev_nm 1 rfl) rfl (by with_unfolding_all rfl)), fun _ => by exact ev_nm 0 rfl⟩) (fun dd => by cases dd <;> rfl)) (er_tInts _)) eva_nil))) rfl (by show 3 ≤ sizeLine; decide))) (by rw [List.length_map]; omega))
  · obtain ⟨⟨acc, l⟩, ⟨τ, n⟩⟩ := p
    obtain ⟨h1, h2, h3, h4⟩ := hp
    have ht : τ = 0 := by simpa using h
    replace h2 : acc ++ mealF n fo l τ = res := h2
    rw [ht, mealF_end, List.append_nil] at h2
    rw [← h2]
    exact rns_one (rn_retO 4 rfl)
def shareF (steps : List Stp) (a one : Int) : Int := ((steps.filter fun s => decide (lat s.eat a = one)).map Stp.len).sum
def topsF (m : Nat) (steps : List Stp) (a : Int) : List Int := (numsF (m + 1)).map (shareF steps a)
theorem share_cons (s : Stp) (st : List Stp) (a x : Int) : shareF (s :: st) a x = (if lat s.eat a = x then s.len else 0) + shareF st a x := by
  unfold shareF
  rw [List.filter_cons]
  by_cases h : lat s.eat a = x
  · rw [if_pos (decide_eq_true h), if_pos h, List.map_cons, List.sum_cons]
  · rw [if_neg (by rw [decide_eq_true_iff]; exact h), if_neg h]; omega
theorem share_nonneg {steps : List Stp} (h : ∀ s ∈ steps, 0 ≤ s.len) (a x : Int) : 0 ≤ shareF steps a x ∧ shareF steps a x ≤ (steps.map Stp.len).sum := by
  induction steps with
  | nil => exact ⟨Int.le_refl _, Int.le_refl _⟩
  | cons s st ih =>
    have := ih fun t ht => h t (.tail _ ht)
    have h0 := h s (.head _)
    rw [share_cons, List.map_cons, List.sum_cons]
    split <;> omega
theorem full_nd {n : Nat} {o : List Int} (nd : o.Nodup) (h : ∀ x ∈ o, 0 ≤ x ∧ x < n) : (fullF n o).Nodup := by
  unfold fullF restF
  rw [List.append_assoc, List.nodup_append]
  refine ⟨nd, ?_, ?_⟩
  · rw [List.singleton_append, List.nodup_cons]
    refine ⟨fun hx => ?_, ?_⟩
    · obtain ⟨k, hk, e⟩ := List.mem_map.mp hx
      have := List.mem_range.mp (List.mem_filter.mp hk).1
      omega
    · rw [List.nodup_iff_pairwise_ne, List.pairwise_map]
      exact ((List.nodup_range (n := n)).filter _).imp fun h z => h (by omega)
  · intro x hx y hy e
    subst e
    rcases List.mem_append.mp hy with hy | hy
    · have := List.mem_singleton.mp hy
      have := h x hx
      omega
    · obtain ⟨k, hk, e⟩ := List.mem_map.mp hy
      have h2 := (List.mem_filter.mp hk).2
      rw [e] at h2
      simp at h2
      exact h2 hx
theorem full_ok {c : List Int} {os : List (List Int)} (T : TabOk c os) : FoOk c.length (os.map (fullF c.length)) := by
  refine ⟨by rw [List.length_map]; exact T.o6, fun o ho => ?_, fun o ho x hx => ?_, fun o ho => ?_, fun o ho => ?_⟩
  · obtain ⟨p, hp, rfl⟩ := List.mem_map.mp ho
    unfold fullF; simp
  · obtain ⟨p, hp, rfl⟩ := List.mem_map.mp ho
    have := full_in (T.rng p hp) x hx
    omega
  · obtain ⟨p, hp, rfl⟩ := List.mem_map.mp ho
    exact full_nd (T.nd p hp) (T.rng p hp)
  · obtain ⟨p, hp, rfl⟩ := List.mem_map.mp ho
    have := full_len (n := c.length) p
    have := T.c6
    have := nodup_len (T.nd p hp) (T.rng p hp)
    omega
structure StpOk (n : Nat) (s : Stp) : Prop where
  len : s.eat.length = n
  l0 : 0 ≤ s.len
  l1 : s.len ≤ WM
abbrev s_eaten_by : Stmt := top 31
theorem sc_eaten_by : FnScope ["steps", "asker", "one"] ["steps", "asker", "one"] (defScope s_eaten_by) := ⟨rfl, rfl, rfl, by decide +kernel, rfl, by decide +kernel, by decide +kernel⟩
def rEatenBy (dd : List Dv) (t : Tr) : Prop := ∃ (n : Nat) (st : List Stp) (a one : Int), (∀ s ∈ st, StpOk n s) ∧ st.length ≤ 120 ∧ 0 ≤ a ∧ a < n ∧ dd = [dSteps st, di a, di one] ∧ t = tF (fW WM (shareF st a one))
theorem ok_eaten_by {f f1 : Addr} {fd fd1 : FuncData} {k : Nat} (F : Fun K "eaten_by" "eaten_by" s_eaten_by f fd) (T : Txt mg) (K_sum_of : Kn P w K mg base CX0 (k + 4) "sum_of" f1 fd1 ["some"] (spT K rSumOf)) : FnOk P w K mg base CX0 (k + 5) f fd ["steps", "asker", "one"] (spT K rEatenBy) := by
  refine fn_ok F.d sc_eaten_by (fun dd t h => by obtain ⟨_, _, _, _, _, _, _, _, rfl, _⟩ := h; rfl) fun dd t h => ?_
  obtain ⟨n, st, a, one, sok, sl, a0, a1, rfl, rfl⟩ := h
  refine ⟨_, .inl rfl, ?_⟩
  have big : 1000 < sizeLine := by decide
  have eF : er (.ow ((st.filter fun s => decide (lat s.eat a = one)).map fun s => tF (fW WM s.len))) = dFs WM ((st.filter fun s => decide (lat s.eat a = one)).map Stp.len) := by
    rw [er_ow_map]
    show Dv.lst _ = Dv.lst (List.map _ (List.map _ _))
    rw [List.map_map]; rfl
  refine rns_one (rn_ret (Ev.s (ev_call K_sum_of (Nat.le_refl _) (eva_cons (Ev.as (ev_lcf (own := ["length", "eaten", "ended"]) (fr := [2, 1]) st dStep (fun s => decide (lat s.eat a = one)) (fun s => tF (fW WM s.len)) (fun i => lcs ⟨rfl, rfl, by decide +kernel, by decide +kernel, by decide +kernel, by decide +kernel⟩) (evi_list (ev_nm 0 rfl) rfl) (evg_t3 0 1 2 (fun _ => by show List.Nodup (["length", "eaten", "ended", "one", "asker"] : List Str); decide)) (by decide) (by omega) (fun s hs => ⟨_, rfl, by
      exact el_one (et_eq (ev_ix (ev_nm 1 rfl) (ev_nm 4 rfl) rfl (lat_at di a0 (by rw [(sok s hs).len]; exact a1))) (ev_nm 3 rfl)), fun _ => by exact ev_nm 0 rfl⟩) (fun dd => by rcases dd with _ | ⟨a, _ | ⟨b, _ | ⟨c, dd⟩⟩⟩ <;> rfl)) eF) eva_nil) ⟨WM, (st.filter fun s => decide (lat s.eat a = one)).map Stp.len, wm0, wm1, fun x hx => ?_, ?_, rfl, rfl⟩)))
  · obtain ⟨s, hs, rfl⟩ := List.mem_map.mp hx
    have := sok s (List.mem_filter.mp hs).1
    exact ⟨this.l0, this.l1⟩
  · rw [List.length_map]
    exact Nat.le_trans (List.length_filter_le _ _) sl
abbrev s_meal : Stmt := top 32
theorem sc_meal : FnScope ["table", "steps", "many", "shares"] ["table"] (defScope s_meal) := ⟨rfl, rfl, rfl, by decide +kernel, rfl, by decide +kernel, by decide +kernel⟩
def dShares (m : Nat) (st : List Stp) (n : Nat) : Dv := .lst ((numsF n).map fun a => dFs WM (topsF m st a))
def rMeal (dd : List Dv) (t : Tr) : Prop := ∃ (c : List Int) (os : List (List Int)), TabOk c os ∧ FoOk c.length (os.map (fullF c.length)) ∧ dd = [tabD c os] ∧ t = .fz (.tup [dSteps (stepsF c os), dShares c.length (stepsF c os) os.length])
theorem steps_ok {c : List Int} {os : List (List Int)} (tab : TabOk c os) (fok : FoOk c.length (os.map (fullF c.length))) : ∀ s ∈ stepsF c os, StpOk os.length s := fun s hs => by
  obtain ⟨l', hl, e, p, q⟩ := meal_mem fok 7 _ _ (start_ok tab.c6 tab.cnt) s hs
  exact ⟨by rw [e, eat_len, List.length_map], Int.le_of_lt p, q⟩
theorem ok_meal {f f1 f2 : Addr} {fd fd1 fd2 : FuncData} {k : Nat} (F : Fun K "meal" "meal" s_meal f fd) (T : Txt mg) (K_meal_steps : Kn P w K mg base CX0 (k + 5) "meal_steps" f1 fd1 ["table"] (spT K rSteps)) (K_eaten_by : Kn P w K mg base CX0 (k + 5) "eaten_by" f2 fd2 ["steps", "asker", "one"] (spT K rEatenBy)) : FnOk P w K mg base CX0 (k + 6) f fd ["table"] (spT K rMeal) := by
  refine fn_ok F.d sc_meal (fun dd t h => by obtain ⟨_, _, _, _, rfl, _⟩ := h; rfl) fun dd t h => ?_
  obtain ⟨c, os, tab, fok, rfl, rfl⟩ := h
  refine ⟨_, .inl rfl, ?_⟩
  have big : 1000 < sizeLine := by decide
  have c6 := tab.c6
  have o6 := tab.o6
  have sok := steps_ok tab fok
  have slen : (stepsF c os).length ≤ 7 := meal_len 7 _ _ _
  have olen : (((os.map dis).length : Nat) : Int) = os.length := by rw [List.length_map]
  have clen : (((c.map di).length : Nat) : Int) = c.length := by rw [List.length_map]
  have eIt : rngD 0 (((os.map dis).length : Nat) : Int).toNat = (numsF os.length).map di := by
    rw [olen, Int.toNat_natCast]
    unfold numsF
    rw [List.map_map]; rfl
  have eIt2 : rngD 0 ((((c.map di).length : Nat) : Int) + 1).toNat = (numsF (c.length + 1)).map di := by
    rw [clen, show ((c.length : Int) + 1).toNat = c.length + 1 by omega]
    unfold numsF
    rw [List.map_map]; rfl
  have e1 : er (.ow ((stepsF c os).map fun s => .fz (dStep s))) = dSteps (stepsF c os) := er_ow_map _ _
  refine rns_cons (rn_set 1 (Ev.s (Ev.as (ev_call K_meal_steps (Nat.le_refl _) (eva_cons (ev_nm 0 rfl) eva_nil) ⟨c, os, tab, fok, rfl, rfl⟩) e1)) (fun _ => sc_meal.nd)) ?_
  generalize stepsF c os = st at sok slen
  refine rns_cons (rn_set 2 (Ev.s (ev_len T.b_len (ev_ixT (d := dis c) (ev_nm 0 rfl) ev_int rfl rfl) (.inl rfl))) (fun _ => sc_meal.nd)) ?_
  have e2 : er (.ow ((numsF os.length).map fun a => .ow ((numsF (c.length + 1)).map fun x => tF (fW WM (shareF st a x))))) = dShares c.length st os.length := by
    rw [er_ow_map]
    unfold dShares
    congr 1
    refine List.map_congr_left fun a _ => ?_
    rw [er_ow_map]
    unfold topsF
    show _ = Dv.lst _
    rw [List.map_map]; rfl
  refine rns_cons (rn_lcG 3 (ElcS (Elc.as (elcm (own := ["asker"]) (fr := [1, 2]) (numsF os.length) di (fun a => .ow ((numsF (c.length + 1)).map fun x => tF (fW WM (shareF st a x)))) (EvI.to (evi_range1 T.b_range (ev_len T.b_len (ev_ixT (d := .lst (os.map dis)) (ev_nm 0 rfl) ev_int rfl rfl) (.inl rfl)) (by rw [olen]; omega)) eIt) (evg_nm 0 (fun _ => by show List.Nodup (["asker", "steps", "many"] : List Str); decide)) (by decide) (by rw [nums_len']; omega) (fun a ha => ⟨_, rfl, by
      obtain ⟨a0, a1⟩ := mem_nums.mp ha
      exact ev_lcm (own := ["one"]) (fr := [1, 0]) (numsF (c.length + 1)) di (fun x => tF (fW WM (shareF st a x))) (fun i => lcs2' ["asker", "steps", "many"] ⟨rfl, by decide +kernel, by decide +kernel, by decide +kernel, by decide +kernel⟩ fun y hy => closF_has _ _ y hy) (EvI.to (evi_range1 T.b_range (ev_add (ev_nm 2 rfl) ev_int) (by rw [clen]; omega)) eIt2) (evg_nm 0 (fun _ => by show List.Nodup (["one", "steps", "asker"] : List Str); decide)) (by decide) (by rw [nums_len']; omega) (fun x hx => ⟨_, rfl, by
        exact ev_call K_eaten_by (Nat.le_refl _) (eva_cons (ev_nm 1 rfl) (eva_cons (ev_nm 2 rfl) (eva_cons (ev_nm 0 rfl) eva_nil))) ⟨os.length, st, a, x, sok, by omega, a0, a1, rfl, rfl⟩⟩) (fun dd => by cases dd <;> rfl)⟩) (fun dd => by cases dd <;> rfl)) e2)) (fun i => lcsC ⟨rfl, rfl, by decide +kernel, by decide +kernel, by decide +kernel, by decide +kernel⟩) (fun _ => sc_meal.nd)) ?_
  exact rns_one (rn_ret (Ev.s (ev_tupD (eva_cons (ev_nm 1 rfl) (eva_cons (ev_nm 3 rfl) eva_nil)) rfl (by show 2 ≤ sizeLine; decide))))
end
end K48
namespace K48
open PySem L2 Fra
section
variable {P : Program} {w : World} {K : PySem.W.Frag} {mg : Str → Option Value} {base : Heap}
def ckN : Nat → (Nat → Bool) → Int
  | 0, _ => 0
  | p + 1, b => ckN p b + if b p = true then 1 else 0
theorem ck_s (p : Nat) (b : Nat → Bool) : ckN (p + 1) b = ckN p b + if b p = true then 1 else 0 := rfl
theorem ck_nn (p : Nat) (b : Nat → Bool) : 0 ≤ ckN p b := by
  induction p with
  | zero => exact Int.le_refl _
  | succ p ih => rw [ck_s]; split <;> omega
theorem ck_mono {p : Nat} {b c : Nat → Bool} (h : ∀ j < p, b j = true → c j = true) : ckN p b ≤ ckN p c := by
  induction p with
  | zero => exact Int.le_refl _
  | succ p ih =>
    have := ih fun j hj => h j (by omega)
    rw [ck_s, ck_s]
    by_cases hb : b p = true
    · rw [if_pos hb, if_pos (h p (by omega) hb)]; omega
    · rw [if_neg hb]; split <;> omega
theorem ck_congr {p : Nat} {b c : Nat → Bool} (h : ∀ j < p, b j = c j) : ckN p b = ckN p c :=
  Int.le_antisymm (ck_mono fun j hj z => by rw [← h j hj]; exact z) (ck_mono fun j hj z => by rw [h j hj]; exact z)
theorem ck_up {k n : Nat} (f : Nat → Bool) (h : k ≤ n) : ckN k f ≤ ckN n f ∧ ckN n f ≤ ckN k f + ((n : Int) - k) := by
  induction n with
  | zero => rw [show k = 0 by omega]; exact ⟨Int.le_refl _, by omega⟩
  | succ n ih =>
    by_cases e : k = n + 1
    · rw [e]; exact ⟨Int.le_refl _, by omega⟩
    · have := ih (by omega)
      rw [ck_s]; split <;> omega
theorem ck_pos {p j : Nat} {b : Nat → Bool} (hj : j < p) (h : b j = true) : 1 ≤ ckN p b := by
  have a := (ck_up b (show j + 1 ≤ p by omega)).1
  have := ck_nn j b
  rw [ck_s, if_pos h] at a
  omega
theorem ck_rest {k n : Nat} {f : Nat → Bool} (h : k ≤ n) (z : ∀ j, k ≤ j → j < n → f j = false) : ckN n f = ckN k f := by
  induction n with
  | zero => rw [show k = 0 by omega]
  | succ n ih =>
    by_cases e : k = n + 1
    · rw [e]
    · rw [ck_s, z n (by omega) (by omega), ih (by omega) fun j a b => z j a (by omega)]
      simp
theorem ck_all {k n : Nat} {f : Nat → Bool} (h : k ≤ n) (z : ∀ j, k ≤ j → j < n → f j = true) : ckN n f = ckN k f + ((n : Int) - k) := by
  induction n with
  | zero => rw [show k = 0 by omega]; omega
  | succ n ih =>
    by_cases e : k = n + 1
    · rw [e]; omega
    · rw [ck_s, z n (by omega) (by omega), ih (by omega) fun j a b => z j a (by omega)]
      simp; omega
theorem ck_split {p i : Nat} (hi : i < p) (b : Nat → Bool) : ckN p b = ckN p (fun j => b j && decide (j ≠ i)) + if b i = true then 1 else 0 := by
  induction p with
  | zero => omega
  | succ p ih =>
    rw [ck_s, ck_s]
    by_cases e : i = p
    · subst e
      have : ckN i (fun j => b j && decide (j ≠ i)) = ckN i b := ck_congr fun j hj => by
        rw [decide_eq_true (show j ≠ i by omega), Bool.and_true]
      rw [this]
      simp
    · rw [ih (by omega), decide_eq_true (show p ≠ i by omega), Bool.and_true]
      omega
theorem leastN {P : Nat → Prop} {n : Nat} (h : P n) : ∃ k, k ≤ n ∧ P k ∧ ∀ j < k, ¬ P j := by
  induction n using Nat.strongRecOn with
  | _ n ih =>
    by_cases q : ∃ j, j < n ∧ P j
    · obtain ⟨j, hj, pj⟩ := q
      obtain ⟨k, hk, r⟩ := ih j hj pj
      exact ⟨k, by omega, r⟩
    · exact ⟨n, Nat.le_refl _, h, fun j hj pj => q ⟨j, hj, pj⟩⟩
structure MRun (m p N : Nat) (ρ : Nat → Int → Nat) (R : Nat → Int → Int) (e : Nat → Nat → Int) : Prop where
  step : ∀ k < N, ∀ x : Int, 0 ≤ x → x < m → R (k + 1) x = R k x - ckN p (fun j => decide (e k j = x))
  nn : ∀ k ≤ N, ∀ x : Int, 0 ≤ x → x < m → 0 ≤ R k x
  rng : ∀ k < N, ∀ j < p, 0 ≤ e k j ∧ e k j ≤ m
  liv : ∀ k < N, ∀ j < p, e k j < m → R k (e k j) ≠ 0
  best : ∀ k < N, ∀ j < p, ∀ y : Int, 0 ≤ y → y ≤ m → (y < m → R k y ≠ 0) → ρ j (e k j) ≤ ρ j y
  inj : ∀ j < p, ∀ x y : Int, 0 ≤ x → x ≤ m → 0 ≤ y → y ≤ m → ρ j x = ρ j y → x = y
section
variable {m p N : Nat} {ρ ρ' : Nat → Int → Nat} {R R' : Nat → Int → Int} {e e' : Nat → Nat → Int}
theorem MRun.dead (A : MRun m p N ρ R e) {x : Int} (x0 : 0 ≤ x) (x1 : x < m) {k n : Nat} (hk : k ≤ n) (hn : n ≤ N) (h : R k x = 0) : R n x = 0 := by
  induction n with
  | zero => rw [show k = 0 by omega] at h; exact h
  | succ n ih =>
    by_cases q : k = n + 1
    · rw [← q]; exact h
    · have a := ih (by omega) (by omega)
      have b := A.step n (by omega) x x0 x1
      have c := A.nn (n + 1) hn x x0 x1
      have d := ck_nn p (fun j => decide (e n j = x))
      omega
theorem MRun.keep (A : MRun m p N ρ R e) {j : Nat} (hj : j < p) {k n : Nat} (hk : k ≤ n) (hn : n < N) {a : Int} (h : e k j = a) (al : a < m → R n a ≠ 0) : e n j = a := by
  obtain ⟨a0, a1⟩ := A.rng k (by omega) j hj
  obtain ⟨b0, b1⟩ := A.rng n hn j hj
  have h1 := A.best n hn j hj a (by omega) (by omega) al
  have h2 := A.best k (by omega) j hj (e n j) b0 b1 fun z w => A.liv n hn j hj z (A.dead b0 z hk (by omega) w)
  rw [h] at h2
  exact A.inj j hj _ _ b0 b1 (by omega) (by omega) (by omega)
theorem same_pick (A : MRun m p N ρ R e) (B : MRun m p N ρ' R' e') {j k : Nat} (hj : j < p) (hk : k < N) (eρ : ρ j = ρ' j) (h : ∀ y : Int, 0 ≤ y → y < m → R' k y ≠ 0 → R k y ≠ 0) (al : e k j < m → R' k (e k j) ≠ 0) : e' k j = e k j := by
  obtain ⟨a0, a1⟩ := A.rng k hk j hj
  obtain ⟨b0, b1⟩ := B.rng k hk j hj
  have h1 := B.best k hk j hj (e k j) a0 a1 al
  have h2 := A.best k hk j hj (e' k j) b0 b1 fun z => h _ b0 z (B.liv k hk j hj z)
  rw [← eρ] at h1
  exact A.inj j hj _ _ b0 b1 a0 a1 (by omega)
theorem two_runs (A : MRun m p N ρ R e) (B : MRun m p N ρ' R' e') {i : Nat} (hi : i < p) (same : ∀ j < p, j ≠ i → ρ j = ρ' j) (r0 : ∀ x : Int, 0 ≤ x → x < m → R 0 x = R' 0 x) (big : ∀ x : Int, 0 ≤ x → x < m → R 0 x = 0 ∨ (N : Int) ≤ R 0 x) :
    (∀ x : Int, ckN N (fun k => decide (e k i = x)) = ckN N (fun k => decide (e' k i = x))) ∨ ∃ a : Int, 0 ≤ a ∧ a ≤ m ∧ (∀ y : Int, 0 ≤ y → y ≤ m → ρ i y < ρ i a → ckN N (fun k => decide (e k i = y)) = ckN N (fun k => decide (e' k i = y))) ∧ ckN N (fun k => decide (e' k i = a)) < ckN N (fun k => decide (e k i = a)) := by
  by_cases H : ∀ k < N, e k i = e' k i
  · exact .inl fun x => ck_congr fun k hk => by rw [H k hk]
  right
  obtain ⟨n, hn⟩ := Classical.not_forall.mp H
  obtain ⟨t, _, ⟨tN, td⟩, tl⟩ := leastN (P := fun k => k < N ∧ e k i ≠ e' k i) (n := n) (by
    obtain ⟨a, b⟩ := Classical.not_imp.mp hn
    exact ⟨a, b⟩)
  have ebi : ∀ k < t, e k i = e' k i := fun k hk => Classical.byContradiction fun z => tl k hk ⟨by omega, z⟩
  have eR : ∀ k ≤ t, (∀ x : Int, 0 ≤ x → x < m → R k x = R' k x) ∧ ∀ k' < k, ∀ j < p, e' k' j = e k' j := by
    intro k
    induction k with
    | zero => exact fun _ => ⟨r0, fun k' h => by omega⟩
    | succ k ih =>
      intro hk
      obtain ⟨i1, i2⟩ := ih (by omega)
      have e1 : ∀ j < p, e' k j = e k j := fun j hj => by
        by_cases q : j = i
        · rw [q]; exact (ebi k (by omega)).symm
        · refine same_pick A B hj (by omega) (same j hj q) (fun y y0 y1 h => by rw [i1 y y0 y1]; exact h) fun z => ?_
          rw [← i1 _ (A.rng k (by omega) j hj).1 z]
          exact A.liv k (by omega) j hj z
      refine ⟨fun x x0 x1 => ?_, fun k' h' j hj => ?_⟩
      · rw [A.step k (by omega) x x0 x1, B.step k (by omega) x x0 x1, i1 x x0 x1]
        congr 1
        exact ck_congr fun j hj => by rw [e1 j hj]
      · by_cases q : k' = k
        · rw [q]; exact e1 j hj
        · exact i2 k' (by omega) j hj
  obtain ⟨eRt, eb⟩ := eR t (Nat.le_refl _)
  obtain ⟨a, ea⟩ : ∃ a, a = e t i := ⟨_, rfl⟩
  obtain ⟨a0, a1⟩ := A.rng t tN i hi
  rw [← ea] at a0 a1
  have alt : a < m → R t a ≠ 0 := fun z => by rw [ea]; exact A.liv t tN i hi (by rw [← ea]; exact z)
  have cb : ∀ y : Int, ckN t (fun k => decide (e k i = y)) = ckN t (fun k => decide (e' k i = y)) := fun y => ck_congr fun k hk => by rw [ebi k hk]
  refine ⟨a, a0, a1, fun y y0 y1 hy => ?_, ?_⟩
  ·
    have dy : y < m ∧ R t y = 0 := by
      refine Classical.byContradiction fun z => ?_
      have := A.best t tN i hi y y0 y1 fun z1 z2 => z ⟨z1, z2⟩
      rw [← ea] at this
      omega
    have d1 : ∀ k, t ≤ k → k < N → decide (e k i = y) = false := fun k h1 h2 => decide_eq_false fun z => by
      have := A.liv k h2 i hi (by rw [z]; exact dy.1)
      rw [z] at this
      exact this (A.dead y0 dy.1 h1 (by omega) dy.2)
    have d2 : ∀ k, t ≤ k → k < N → decide (e' k i = y) = false := fun k h1 h2 => decide_eq_false fun z => by
      have := B.liv k h2 i hi (by rw [z]; exact dy.1)
      rw [z] at this
      exact this (B.dead y0 dy.1 h1 (by omega) (by rw [← eRt y y0 dy.1]; exact dy.2))
    rw [ck_rest (Nat.le_of_lt tN) d1, ck_rest (Nat.le_of_lt tN) d2]
    exact cb y
  have ne : e' t i ≠ a := fun z => td (by rw [← ea, z])
  have cba := cb a
  obtain ⟨T, TN, TP, Tl⟩ := leastN (P := fun k => N ≤ k ∨ (t < k ∧ a < m ∧ R k a = 0)) (n := N) (.inl (Nat.le_refl _))
  have tT : t < T := by
    rcases TP with h | h
    · omega
    · exact h.1
  have alive : ∀ k, t ≤ k → k < T → a < m → R k a ≠ 0 := fun k h1 h2 h3 h4 => by
    by_cases q : k = t
    · rw [q] at h4; exact alt h3 h4
    · exact Tl k h2 (.inr ⟨by omega, h3, h4⟩)
  have eats : ∀ k, t ≤ k → k < T → e k i = a := fun k h1 h2 => A.keep hi h1 (by omega) ea.symm (alive k h1 h2)
  have cT := ck_all (f := fun k => decide (e k i = a)) (Nat.le_of_lt tT) fun k h1 h2 => decide_eq_true (eats k h1 h2)
  have cTN := (ck_up (fun k => decide (e k i = a)) TN).1
  have ct1 : ckN (t + 1) (fun k => decide (e' k i = a)) = ckN t (fun k => decide (e' k i = a)) := by rw [ck_s, decide_eq_false ne]; simp
  rcases Nat.lt_or_ge T N |>.symm with TN' | TN'
  · have := (ck_up (fun k => decide (e' k i = a)) (show t + 1 ≤ N by omega)).2
    omega
  have aT : a < m ∧ R T a = 0 := by
    rcases TP with h | h
    · omega
    · exact h.2
  by_cases D : ∃ k, k ≤ T ∧ R' k a = 0
  · obtain ⟨k, hk, dk⟩ := D
    have tk : t < k := by
      refine Classical.byContradiction fun z => ?_
      exact alt aT.1 ((eRt a a0 aT.1).trans (B.dead a0 aT.1 (by omega) (by omega) dk))
    have c1 : ckN N (fun k => decide (e' k i = a)) = ckN k (fun k => decide (e' k i = a)) := ck_rest (by omega) fun j h1 h2 => decide_eq_false fun z => by
      have := B.liv j h2 i hi (by rw [z]; exact aT.1)
      rw [z] at this
      exact this (B.dead a0 aT.1 h1 (by omega) dk)
    have := (ck_up (fun k => decide (e' k i = a)) (show t + 1 ≤ k by omega)).2
    omega
  have alv : ∀ k, k ≤ T → R' k a ≠ 0 := fun k h1 h2 => D ⟨k, h1, h2⟩
  obtain ⟨O, hO⟩ : ∃ O : (Nat → Nat → Int) → Nat → Int, O = fun e k => ckN p (fun j => decide (e k j = a) && decide (j ≠ i)) := ⟨_, rfl⟩
  have stA : ∀ k < N, R (k + 1) a + ckN (k + 1) (fun k => decide (e k i = a)) = R k a + ckN k (fun k => decide (e k i = a)) - O e k := fun k hk => by
    rw [A.step k hk a a0 aT.1, ck_split hi, ck_s, hO]
    dsimp only
    omega
  have stB : ∀ k < N, R' (k + 1) a + ckN (k + 1) (fun k => decide (e' k i = a)) = R' k a + ckN k (fun k => decide (e' k i = a)) - O e' k := fun k hk => by
    rw [B.step k hk a a0 aT.1, ck_split hi, ck_s, hO]
    dsimp only
    omega
  have inv : ∀ k, t ≤ k → k ≤ T → (∀ x : Int, 0 ≤ x → x < m → x ≠ a → R' k x ≤ R k x) ∧ R' k a + ckN k (fun k => decide (e' k i = a)) ≤ R k a + ckN k (fun k => decide (e k i = a)) ∧ ∀ k', t ≤ k' → k' < k → ∀ j < p, j ≠ i → ∀ x : Int, e k' j = x → (x < m → R' k' x ≠ 0) → e' k' j = x := by
    intro k
    induction k with
    | zero =>
      intro h1 _
      have : t = 0 := by omega
      subst this
      exact ⟨fun x x0 x1 _ => by rw [eRt x x0 x1]; exact Int.le_refl _, by rw [eRt a a0 aT.1]; exact Int.le_refl _, fun k' _ h => by omega⟩
    | succ k ih =>
      intro h1 h2
      by_cases q : t = k + 1
      · rw [← q]
        exact ⟨fun x x0 x1 _ => by rw [eRt x x0 x1]; exact Int.le_refl _, by rw [eRt a a0 aT.1, cba]; exact Int.le_refl _, fun k' _ h => by omega⟩
      · obtain ⟨i1, i2, i3⟩ := ih (by omega) (by omega)
        have mv : ∀ j < p, j ≠ i → ∀ x : Int, e k j = x → (x < m → R' k x ≠ 0) → e' k j = x := fun j hj ji x ex al => by
          have := same_pick A B hj (show k < N by omega) (same j hj ji) (fun y y0 y1 hy => by
            by_cases ya : y = a
            · rw [ya]; exact alive k (by omega) (by omega) aT.1
            · have := i1 y y0 y1 ya
              have := B.nn k (by omega) y y0 y1
              omega) (by rw [ex]; exact al)
          rw [this, ex]
        have oo : O e k ≤ O e' k := by
          rw [hO]
          refine ck_mono fun j hj hb => ?_
          rw [Bool.and_eq_true, decide_eq_true_iff, decide_eq_true_iff] at hb ⊢
          exact ⟨mv j hj hb.2 a hb.1 fun _ => alv k (by omega), hb.2⟩
        refine ⟨fun x x0 x1 xa => ?_, ?_, fun k' h3 h4 => ?_⟩
        · have sA := A.step k (by omega) x x0 x1
          have sB := B.step k (by omega) x x0 x1
          have nA := A.nn (k + 1) (by omega) x x0 x1
          by_cases z : R' k x = 0
          · have := B.dead x0 x1 (show k ≤ k + 1 by omega) (by omega) z
            omega
          · have := ck_mono (p := p) (b := fun j => decide (e k j = x)) (c := fun j => decide (e' k j = x)) fun j hj hb => by
              have hb := of_decide_eq_true hb
              refine decide_eq_true (mv j hj (fun ji => ?_) x hb fun _ => z)
              rw [ji, eats k (by omega) (by omega)] at hb
              exact xa hb.symm
            have := i1 x x0 x1 xa
            omega
        · have sA := stA k (by omega)
          have sB := stB k (by omega)
          omega
        · by_cases q' : k' = k
          · rw [q']; exact mv
          · exact i3 k' h3 (by omega)
  obtain ⟨_, iT, mv⟩ := inv T (by omega) (Nat.le_refl _)
  have dn : ∀ k, T < k → k ≤ N → R' k a + ckN k (fun k => decide (e' k i = a)) ≤ R' T a + ckN T (fun k => decide (e' k i = a)) - O e' T := by
    intro k
    induction k with
    | zero => intro h; omega
    | succ k ih =>
      intro h1 h2
      have sB := stB k (by omega)
      by_cases q : k = T
      · rw [q] at sB ⊢; omega
      · have := ih (by omega) (by omega)
        have o0 : 0 ≤ O e' k := by rw [hO]; exact ck_nn _ _
        omega
  have dN := dn N TN' (Nat.le_refl _)
  have nN := B.nn N (Nat.le_refl _) a a0 aT.1
  have O0 : 0 ≤ O e' T := by rw [hO]; exact ck_nn _ _
  rcases Int.lt_or_eq_of_le O0 with O1 | O1
  · omega
  exfalso
  have no : ∀ j < p, j ≠ i → e' T j ≠ a := fun j hj ji z => by
    have := ck_pos (b := fun j => decide (e' T j = a) && decide (j ≠ i)) hj (by
      show (decide (e' T j = a) && decide (j ≠ i)) = true
      rw [decide_eq_true z, decide_eq_true ji]; rfl)
    rw [hO] at O1
    dsimp only at O1
    omega
  have alone : ∀ k < T, O e k = 0 := fun k hk => by
    rw [hO]
    show ckN p _ = 0
    have : ckN p (fun j => decide (e k j = a) && decide (j ≠ i)) ≤ ckN p (fun _ => false) := ck_mono fun j hj hb => by
      rw [Bool.and_eq_true, decide_eq_true_iff, decide_eq_true_iff] at hb
      exfalso
      have e1 : e' k j = a := by
        rcases Nat.lt_or_ge k t with q | q
        · rw [eb k q j hj]; exact hb.1
        · exact mv k q hk j hj hb.2 a hb.1 fun _ => alv k (by omega)
      exact no j hj hb.2 (B.keep hj (Nat.le_of_lt hk) TN' e1 fun _ => alv T (Nat.le_refl _))
    have z : ckN p (fun _ => false) = 0 := (ck_rest (Nat.zero_le _) fun _ _ _ => rfl).trans rfl
    have := ck_nn p (fun j => decide (e k j = a) && decide (j ≠ i))
    omega
  have tot : ∀ k ≤ T, R k a + ckN k (fun k => decide (e k i = a)) = R 0 a := by
    intro k
    induction k with
    | zero => intro _; show _ + (0 : Int) = _; omega
    | succ k ih =>
      intro h
      have := ih (by omega)
      have := stA k (by omega)
      have := alone k (by omega)
      omega
  have tT' := tot T (Nat.le_refl _)
  have le := (ck_up (fun k => decide (e k i = a)) (Nat.zero_le T)).2
  have z0 : ckN 0 (fun k => decide (e k i = a)) = 0 := rfl
  rcases big a a0 aT.1 with h | h
  · exact alt aT.1 (A.dead a0 aT.1 (Nat.zero_le _) (by omega) h)
  · omega
end
def tkF (fo : List (List Int)) : Nat → List Int → List Int
  | 0, l => l
  | k + 1, l => behF (tkF fo k l) (eatF fo (tkF fo k l)) 1
theorem tk_add (fo : List (List Int)) (a : Nat) : ∀ (b : Nat) (l : List Int), tkF fo (a + b) l = tkF fo b (tkF fo a l)
  | 0, l => rfl
  | b + 1, l => by
    show behF (tkF fo (a + b) l) (eatF fo (tkF fo (a + b) l)) 1 = behF _ _ 1
    rw [tk_add fo a b l]
theorem tk_len (fo : List (List Int)) (l : List Int) : ∀ k, (tkF fo k l).length = l.length
  | 0 => rfl
  | k + 1 => by show (behF _ _ 1).length = _; rw [beh_len, tk_len fo l k]
theorem ck_add (a : Nat) (f : Nat → Bool) : ∀ b, ckN (a + b) f = ckN a f + ckN b (fun k => f (a + k))
  | 0 => by show _ = _ + (0 : Int); rw [Int.add_zero]; rfl
  | b + 1 => by
    show ckN (a + b + 1) f = _
    rw [ck_s, ck_s, ck_add a f b]
    omega
theorem ck_count (p : Nat) (b : Nat → Bool) : ckN p b = (((List.range p).countP b : Nat) : Int) := by
  induction p with
  | zero => rfl
  | succ p ih =>
    rw [ck_s, ih, List.range_succ, List.countP_append, List.countP_singleton]
    split <;> simp
theorem ck_eat (eat : List Int) (x : Int) : ((eat.count x : Nat) : Int) = ckN eat.length (fun j => decide (lat eat (j : Nat) = x)) := by
  rw [ck_count]
  congr 1
  have e : eat = (List.range eat.length).map fun j => lat eat ((j : Nat) : Int) := by
    refine List.ext_getElem (by rw [List.length_map, List.length_range]) fun i h1 h2 => ?_
    rw [List.getElem_map, List.getElem_range]
    unfold lat
    rw [Int.toNat_natCast, List.getD_eq_getElem?_getD, List.getElem?_eq_getElem h1]; rfl
  conv => lhs; rw [e]
  rw [List.count, List.countP_map]
  refine List.countP_congr fun j _ => ?_
  show ((_ == x) = true) ↔ _
  rw [beq_iff_eq, decide_eq_true_iff]
theorem beh_zero (l eat : List Int) : behF l eat 0 = l := by
  unfold behF
  refine List.ext_getElem (by rw [List.length_map, nums_len']) fun i h1 h2 => ?_
  have : (numsF l.length)[i]? = some ((i : Nat) : Int) := by
    unfold numsF
    rw [List.getElem?_map, List.getElem?_range h2]
    show some (0 + ((i : Nat) : Int)) = _
    rw [Int.zero_add]
  rw [List.getElem_map]
  have e : (numsF l.length)[i]'(by rw [nums_len']; exact h2) = ((i : Nat) : Int) := by
    rw [List.getElem?_eq_getElem (by rw [nums_len']; exact h2)] at this
    exact Option.some.inj this
  rw [e]
  unfold lat
  rw [Int.toNat_natCast, List.getD_eq_getElem?_getD, List.getElem?_eq_getElem h2]
  simp
theorem lat_beh {l eat : List Int} {len x : Int} (h0 : 0 ≤ x) (h1 : x < l.length) : lat (behF l eat len) x = lat l x - len * (eat.count x : Int) := by
  unfold behF
  exact lat_nums _ h0 h1
theorem beh_beh (l eat : List Int) (a b : Int) : behF (behF l eat a) eat b = behF l eat (a + b) := by
  have e : ∀ c : Int, behF l eat c = (numsF l.length).map fun x => lat l x - c * (eat.count x : Int) := fun _ => rfl
  rw [e (a + b)]
  show (numsF (behF l eat a).length).map _ = _
  rw [beh_len]
  refine List.map_congr_left fun x hx => ?_
  obtain ⟨h0, h1⟩ := mem_nums.mp hx
  rw [lat_beh h0 h1, Int.add_mul]
  omega
theorem step_tick {n m : Nat} {fo : List (List Int)} {l : List Int} {τ : Int} (F : FoOk m fo) (S : MSt (n + 1) m l τ) (ht : τ ≠ 0) : ∀ k : Nat, (k : Int) ≤ lenF l (eatF fo l) τ → tkF fo k l = behF l (eatF fo l) k ∧ ((k : Int) < lenF l (eatF fo l) τ → eatF fo (tkF fo k l) = eatF fo l) := by
  have ok := step_ok F S ht
  have hl := S.len
  have same : ∀ k : Nat, (k : Int) < lenF l (eatF fo l) τ → eatF fo (behF l (eatF fo l) k) = eatF fo l := fun k hk => by
    have : goneL (behF l (eatF fo l) k) = goneL l := by
      unfold goneL
      rw [beh_len]
      refine List.filter_congr fun x hx => ?_
      obtain ⟨h0, h1⟩ := mem_nums.mp hx
      rw [decide_eq_decide, lat_beh h0 h1]
      have hh := ok.has x h0 (by omega)
      by_cases q : x ∈ eatF fo l
      · have c1 : 1 ≤ (eatF fo l).count x := List.count_pos_iff.mpr q
        have l0 : lat l x ≠ 0 := fun z => (eat_ok F hl q).2.2 (mem_goneL.mpr ⟨⟨h0, h1⟩, z⟩)
        have : (k : Int) * ((eatF fo l).count x : Int) < lenF l (eatF fo l) τ * ((eatF fo l).count x : Int) := Int.mul_lt_mul_of_pos_right hk (by omega)
        exact ⟨fun z => by omega, fun z => absurd z l0⟩
      · rw [List.count_eq_zero.mpr q]
        show lat l x - k * (0 : Int) = 0 ↔ _
        rw [Int.mul_zero, Int.sub_zero]
    show (fo.map fun o => (leftF o (goneL (behF l (eatF fo l) k))).headD 0) = fo.map fun o => (leftF o (goneL l)).headD 0
    rw [this]
  intro k
  induction k with
  | zero =>
    intro _
    have e : tkF fo 0 l = behF l (eatF fo l) ((0 : Nat) : Int) := (beh_zero _ _).symm
    exact ⟨e, fun h => by rw [e]; exact same 0 h⟩
  | succ k ih =>
    intro hk
    obtain ⟨i1, i2⟩ := ih (by omega)
    have e : tkF fo (k + 1) l = behF l (eatF fo l) ((k + 1 : Nat) : Int) := by
      show behF (tkF fo k l) (eatF fo (tkF fo k l)) 1 = _
      rw [i2 (by omega), i1, beh_beh]
      rfl
    exact ⟨e, fun h => by rw [e]; exact same (k + 1) h⟩
theorem meal_tick {m : Nat} {fo : List (List Int)} (F : FoOk m fo) (a : Int) : ∀ (n : Nat) (l : List Int) (τ : Int), MSt n m l τ → (∀ k : Nat, (k : Int) ≤ τ → ∀ x : Int, 0 ≤ x → x < m → 0 ≤ lat (tkF fo k l) x) ∧ ∀ x : Int, shareF (mealF n fo l τ) a x = ckN τ.toNat (fun k => decide (lat (eatF fo (tkF fo k l)) a = x))
  | n, l, τ, S => by
    by_cases ht : τ = 0
    · subst ht
      rw [mealF_end]
      refine ⟨fun k hk x h0 h1 => ?_, fun x => rfl⟩
      rw [show k = 0 by omega]
      exact (S.lb _ (lat_mem h0 (by rw [S.len]; exact h1))).1
    match n, S with
    | 0, S => exact absurd (S.nz ht) (Nat.not_lt_zero _)
    | n + 1, S =>
      have ok := step_ok F S ht
      have tk := step_tick F S ht
      obtain ⟨i1, i2⟩ := meal_tick F a n _ _ ok.next
      rw [mealF_step ht]
      have l0 := ok.pos
      have l1 := ok.le
      have hl := S.len
      have has := ok.has
      have e0 : (stepF fo l τ).len = lenF l (eatF fo l) τ := rfl
      have e1 : (stepF fo l τ).eat = eatF fo l := rfl
      generalize lenF l (eatF fo l) τ = len at tk i1 i2 l0 l1 has e0
      obtain ⟨d, rfl⟩ : ∃ d : Nat, len = (d : Int) := ⟨len.toNat, by omega⟩
      have td := (tk d (Int.le_refl _)).1
      refine ⟨fun k hk x h0 h1 => ?_, fun x => ?_⟩
      · rcases Nat.lt_or_ge k d with q | q
        · rw [(tk k (by omega)).1, lat_beh h0 (by omega)]
          have a1 := has x h0 h1
          have a2 : (k : Int) * ((eatF fo l).count x : Int) ≤ (d : Int) * ((eatF fo l).count x : Int) := Int.mul_le_mul_of_nonneg_right (by omega) (by omega)
          omega
        · obtain ⟨r, rfl⟩ : ∃ r, k = d + r := ⟨k - d, by omega⟩
          rw [tk_add, td]
          exact i1 r (by omega) x h0 h1
      · rw [share_cons, i2 x, e0, e1, show τ.toNat = d + (τ - d).toNat by omega, ck_add]
        congr 1
        · have : ckN d (fun k => decide (lat (eatF fo (tkF fo k l)) a = x)) = ckN d (fun _ => decide (lat (eatF fo l) a = x)) := ck_congr fun k hk => by rw [(tk k (by omega)).2 (by omega)]
          rw [this]
          by_cases q : lat (eatF fo l) a = x
          · rw [if_pos q, ck_all (Nat.zero_le d) fun _ _ _ => decide_eq_true q]
            show _ = (0 : Int) + _
            omega
          · rw [if_neg q, ck_rest (Nat.zero_le d) fun _ _ _ => decide_eq_false q]; rfl
        · refine ck_congr fun k _ => ?_
          rw [tk_add, td]
theorem head_first {o : List Int} {q : Int → Bool} {x : Int} {r : List Int} (h : o.filter q = x :: r) {y : Int} (hy : y ∈ o) (qy : q y = true) : o.idxOf x ≤ o.idxOf y := by
  induction o with
  | nil => cases hy
  | cons z o ih =>
    by_cases zq : q z = true
    · rw [List.filter_cons, if_pos zq] at h
      rw [← (List.cons.inj h).1, List.idxOf_cons_self]
      exact Nat.zero_le _
    · rw [List.filter_cons, if_neg zq] at h
      have zy : z ≠ y := fun e => zq (by rw [e]; exact qy)
      have zx : z ≠ x := fun e => zq (by
        have : x ∈ o.filter q := by rw [h]; exact .head _
        rw [e]; exact (List.mem_filter.mp this).2)
      have cs : ∀ w : Int, z ≠ w → (z :: o).idxOf w = o.idxOf w + 1 := fun w hw => by
        rw [List.idxOf_cons]
        have : (z == w) = false := by simpa using hw
        rw [this]; rfl
      rw [cs x zx, cs y zy]
      have := ih h (by
        rcases List.mem_cons.mp hy with e | e
        · exact absurd e.symm zy
        · exact e)
      omega
theorem full_has {n : Nat} {o : List Int} {x : Int} (h0 : 0 ≤ x) (h1 : x ≤ n) : x ∈ fullF n o := by
  unfold fullF restF
  simp only [List.mem_append, List.mem_singleton, List.mem_map, List.mem_filter, List.mem_range]
  by_cases hx : x ∈ o
  · exact .inl (.inl hx)
  by_cases hn : x = n
  · exact .inl (.inr hn)
  · refine .inr ⟨x.toNat, ⟨by omega, ?_⟩, by omega⟩
    rw [show 0 + ((x.toNat : Nat) : Int) = x by omega]
    simpa using hx
theorem lat_map_eat (fo : List (List Int)) (l : List Int) {j : Nat} (hj : j < fo.length) : lat (eatF fo l) ((j : Nat) : Int) = (leftF (fo.getD j []) (goneL l)).headD 0 := by
  unfold lat eatF
  rw [Int.toNat_natCast, List.getD_eq_getElem?_getD, List.getElem?_map, List.getD_eq_getElem?_getD, List.getElem?_eq_getElem hj]; rfl
theorem run_ok {m N : Nat} {fo : List (List Int)} {l : List Int} (F : FoOk m fo) (all : ∀ o ∈ fo, ∀ x : Int, 0 ≤ x → x ≤ m → x ∈ o) (hl : l.length = m) (nn : ∀ k : Nat, k ≤ N → ∀ x : Int, 0 ≤ x → x < m → 0 ≤ lat (tkF fo k l) x) :
    MRun m fo.length N (fun j y => (fo.getD j []).idxOf y) (fun k x => lat (tkF fo k l) x) (fun k j => lat (eatF fo (tkF fo k l)) (j : Nat)) := by
  have tl : ∀ k, (tkF fo k l).length = m := fun k => by rw [tk_len, hl]
  have om : ∀ j, j < fo.length → fo.getD j [] ∈ fo := fun j hj => by
    rw [List.getD_eq_getElem?_getD, List.getElem?_eq_getElem hj]; exact List.getElem_mem _
  have hd : ∀ k j, j < fo.length → ∃ x r, leftF (fo.getD j []) (goneL (tkF fo k l)) = x :: r ∧ x ∈ fo.getD j [] ∧ x ∉ goneL (tkF fo k l) ∧ lat (eatF fo (tkF fo k l)) (j : Nat) = x := fun k j hj => by
    obtain ⟨x, r, e, h1, h2⟩ := left_head (tl k) (F.none _ (om j hj))
    exact ⟨x, r, e, h1, h2, by rw [lat_map_eat fo _ hj, e]; rfl⟩
  refine ⟨fun k hk x x0 x1 => ?_, nn, fun k hk j hj => ?_, fun k hk j hj h => ?_, fun k hk j hj y y0 y1 al => ?_, fun j hj x y x0 x1 y0 y1 h => ?_⟩
  · show lat (behF (tkF fo k l) (eatF fo (tkF fo k l)) 1) x = _
    rw [lat_beh x0 (by rw [tl]; exact x1), ck_eat, eat_len, Int.one_mul]
  · obtain ⟨x, r, _, h1, _, e⟩ := hd k j hj
    rw [e]
    exact F.rng _ (om j hj) x h1
  · obtain ⟨x, r, _, h1, h2, e⟩ := hd k j hj
    rw [e] at h ⊢
    exact fun z => h2 (mem_goneL.mpr ⟨⟨(F.rng _ (om j hj) x h1).1, by rw [tl]; exact h⟩, z⟩)
  · obtain ⟨x, r, e1, _, _, e⟩ := hd k j hj
    rw [e]
    unfold leftF at e1
    refine head_first e1 (all _ (om j hj) y y0 y1) ?_
    have : y ∉ goneL (tkF fo k l) := fun z => by
      obtain ⟨⟨_, z1⟩, z2⟩ := mem_goneL.mp z
      rw [tl] at z1
      exact al z1 z2
    simpa using this
  · have a1 := List.idxOf_lt_length_iff.mpr (all _ (om j hj) x x0 x1)
    have a2 := List.idxOf_lt_length_iff.mpr (all _ (om j hj) y y0 y1)
    have e1 := List.getElem_idxOf a1
    have e2 := List.getElem_idxOf a2
    rw [← e1, ← e2]
    congr 1
theorem meal_lie {c : List Int} {os : List (List Int)} (ok : TabOk c os) {a : Int} (a0 : 0 ≤ a) (a1 : a < os.length) {o' : List Int} (ok2 : TabOk c (os.set a.toNat o')) :
    topsF c.length (stepsF c (os.set a.toNat o')) a = topsF c.length (stepsF c os) a ∨ ∃ k x, (fullF c.length (os.getD a.toNat []))[k]? = some x ∧ (∀ y ∈ (fullF c.length (os.getD a.toNat [])).take k, topAt (topsF c.length (stepsF c (os.set a.toNat o')) a) y = topAt (topsF c.length (stepsF c os) a) y) ∧ topAt (topsF c.length (stepsF c (os.set a.toNat o')) a) x < topAt (topsF c.length (stepsF c os) a) x := by
  have fok := full_ok ok
  have fok2 := full_ok ok2
  have S := start_ok ok.c6 ok.cnt
  have l2 : (os.set a.toNat o').length = os.length := List.length_set
  have all : ∀ os : List (List Int), ∀ o ∈ os.map (fullF c.length), ∀ x : Int, 0 ≤ x → x ≤ c.length → x ∈ o := fun os o ho x h0 h1 => by
    obtain ⟨p, _, rfl⟩ := List.mem_map.mp ho
    exact full_has h0 h1
  obtain ⟨n1, s1⟩ := meal_tick fok a 7 _ _ S
  obtain ⟨n2, s2⟩ := meal_tick fok2 a 7 _ _ S
  obtain ⟨N, hN⟩ : ∃ N : Nat, WM = (N : Int) := ⟨WM.toNat, by decide⟩
  have R1 := run_ok (N := N) fok (all os) (l := c.map (· * WM)) (by rw [List.length_map]) fun k hk => n1 k (by omega)
  have R2 := run_ok (N := N) fok2 (all _) (l := c.map (· * WM)) (by rw [List.length_map]) fun k hk => n2 k (by omega)
  have tN : WM.toNat = N := by omega
  rw [tN] at s1 s2
  rw [List.length_map] at R1 R2
  rw [l2] at R2
  have eo : ∀ (os : List (List Int)) j, j < os.length → (os.map (fullF c.length)).getD j [] = fullF c.length (os.getD j []) := fun os j hj => by
    rw [List.getD_eq_getElem?_getD, List.getD_eq_getElem?_getD, List.getElem?_map, List.getElem?_eq_getElem hj]; rfl
  have tw := two_runs R1 R2 (i := a.toNat) (by omega) (fun j hj ji => by
    have : ((os.set a.toNat o').map (fullF c.length)).getD j [] = (os.map (fullF c.length)).getD j [] := by
      rw [List.map_set, List.getD_eq_getElem?_getD, List.getD_eq_getElem?_getD, List.getElem?_set_ne (fun e => ji e.symm)]
    rw [this]) (fun _ _ _ => rfl) (fun x x0 x1 => by
    show lat (c.map (· * WM)) x = 0 ∨ (N : Int) ≤ lat (c.map (· * WM)) x
    have e : lat (c.map (· * WM)) x = lat c x * WM := by
      unfold lat
      rw [List.getD_eq_getElem?_getD, List.getD_eq_getElem?_getD, List.getElem?_map]
      cases c[x.toNat]? with
      | none => simp
      | some v => rfl
    rw [e, ← hN]
    have h0 := (ok.cnt _ (lat_mem x0 x1)).1
    rcases Int.lt_or_eq_of_le h0 with z | z
    · refine .inr ?_
      have : 1 * WM ≤ lat c x * WM := Int.mul_le_mul_of_nonneg_right (by omega) (by decide)
      omega
    · exact .inl (by rw [← z, Int.zero_mul]))
  have ea : (((a.toNat : Nat)) : Int) = a := by omega
  simp only [ea] at tw
  have t1 : ∀ y : Int, 0 ≤ y → y ≤ c.length → topAt (topsF c.length (stepsF c os) a) y = shareF (stepsF c os) a y := fun y h0 h1 => lat_nums _ h0 (by omega)
  have t2 : ∀ y : Int, 0 ≤ y → y ≤ c.length → topAt (topsF c.length (stepsF c (os.set a.toNat o')) a) y = shareF (stepsF c (os.set a.toNat o')) a y := fun y h0 h1 => lat_nums _ h0 (by omega)
  rcases tw with h | ⟨x, x0, x1, hb, hx⟩
  · refine .inl ?_
    unfold topsF
    refine List.map_congr_left fun x _ => ?_
    show shareF (mealF 7 _ _ _) a x = shareF (mealF 7 _ _ _) a x
    rw [s1, s2, h x]
  · refine .inr ⟨(fullF c.length (os.getD a.toNat [])).idxOf x, x, ?_, fun y hy => ?_, ?_⟩
    · have := List.idxOf_lt_length_iff.mpr (full_has (o := os.getD a.toNat []) x0 x1)
      rw [List.getElem?_eq_getElem this, List.getElem_idxOf this]
    · obtain ⟨i, hi, e⟩ := List.mem_take_iff_getElem.mp hy
      have ym : y ∈ fullF c.length (os.getD a.toNat []) := List.mem_of_mem_take hy
      have om : os.getD a.toNat [] ∈ os := by
        rw [List.getD_eq_getElem?_getD, List.getElem?_eq_getElem (show a.toNat < os.length by omega)]; exact List.getElem_mem _
      obtain ⟨y0, y1⟩ := full_in (ok.rng _ om) y ym
      rw [t1 y y0 y1, t2 y y0 y1]
      show shareF (mealF 7 _ _ _) a y = shareF (mealF 7 _ _ _) a y
      rw [s1, s2]
      refine (hb y y0 y1 ?_).symm
      rw [eo os _ (by omega)]
      have nd := full_nd (n := c.length) (ok.nd _ om) (ok.rng _ om)
      rw [← e, nd.idxOf_getElem i (by omega)]
      omega
    · rw [t1 x x0 x1, t2 x x0 x1]
      show shareF (mealF 7 _ _ _) a x < shareF (mealF 7 _ _ _) a x
      rw [s1, s2]
      exact hx
end
end K48
namespace K48
open PySem L2 Fra
section
variable {P : Program} {w : World} {K : PySem.W.Frag} {mg : Str → Option Value} {base : Heap}
theorem owl_mk {K : PySem.W.Frag} {G H : Hp} : ∀ d : List Int, OwL K G H (d.map fun n => Tr.fz (di n)) (d.map V.int) []
  | [] => ⟨rfl, rfl⟩
  | n :: d => ⟨.int n, d.map V.int, [], [], rfl, rfl, ⟨rfl, rfl, rfl⟩, owl_mk d⟩
def lvF (n k : Nat) : List (List Int) := (List.range (k + 1)).flatMap (turnsK n)
theorem lv_succ (n k : Nat) : lvF n (k + 1) = lvF n k ++ turnsK n (k + 1) := by
  unfold lvF
  rw [List.range_succ (n := k + 1), List.flatMap_append]
  simp
theorem lv_small : ∀ n, n ≤ 4 → ∀ k, k ≤ n → (lvF n k).length ≤ 65 := by
  have : ∀ n : Fin 5, ∀ k : Fin (n.val + 1), (lvF n.val k.val).length ≤ 65 := by decide +kernel
  intro n hn k hk
  exact this ⟨n, by omega⟩ ⟨k, by show k < n + 1; omega⟩
theorem hvl_of {K : PySem.W.Frag} {G : Hp} : ∀ l : List Int, HvL K G (l.map di) (l.map V.int)
  | [] => rfl
  | n :: l => ⟨.int n, l.map V.int, rfl, ⟨rfl, rfl⟩, hvl_of l⟩
theorem hvl_rows {K : PySem.W.Frag} {G : Hp} : ∀ {ps : List (Addr × List Int)}, (∀ p ∈ ps, G p.1 = some (.lst (p.2.map V.int))) → HvL K G ((ps.map (·.2)).map dis) (ps.map fun p => V.ref p.1)
  | [], _ => rfl
  | p :: ps, h => ⟨.ref p.1, _, rfl, ⟨p.1, p.2.map V.int, rfl, SqL.of (h p (.head _)), hvl_of p.2⟩, hvl_rows fun q hq => h q (.tail _ hq)⟩
theorem owl_rows {K : PySem.W.Frag} {G H : Hp} : ∀ {ps : List (Addr × List Int)}, (∀ p ∈ ps, H p.1 = some (.lst (p.2.map V.int))) → OwL K G H ((ps.map (·.2)).map tL) (ps.map fun p => V.ref p.1) (ps.map (·.1))
  | [], _ => ⟨rfl, rfl⟩
  | p :: ps, h => ⟨.ref p.1, _, [p.1], ps.map (·.1), rfl, rfl, ⟨p.1, p.2.map V.int, [], rfl, h p (.head _), owl_mk p.2, rfl⟩, owl_rows fun q hq => h q (.tail _ hq)⟩
structure Told (H0 H : Hp) (a : Addr) (ps : List (Addr × List Int)) : Prop where
  at_ : H a = some (.lst (ps.map fun p => V.ref p.1))
  rows : ∀ p ∈ ps, H p.1 = some (.lst (p.2.map V.int))
  nd : (a :: ps.map (·.1)).Nodup
  new : ∀ x ∈ a :: ps.map (·.1), H0 x = none
theorem told_of {K : PySem.W.Frag} {G H0 H : Hp} {L : List (List Int)} {v : V} {fq : List Addr} (h : Ow K G H (tLL L) v fq) (n : ∀ x ∈ fq, H0 x = none) (d : fq.Nodup) : ∃ a ps, v = .ref a ∧ fq = a :: ps.map (·.1) ∧ ps.map (·.2) = L ∧ Told H0 H a ps := by
  obtain ⟨a, vs, fq', rfl, ha, owl, rfl⟩ := h
  obtain ⟨ps, rfl, rfl, e3, e4⟩ := rows_ow owl
  exact ⟨a, ps, rfl, rfl, e3, ha, e4, d, n⟩
abbrev s_all_orders : Stmt := top 50
abbrev nOR : List Str := ["many", "told", "longest", "length"]
theorem sc_all_orders : FnScope nOR ["many"] (defScope s_all_orders) := ⟨rfl, rfl, rfl, by decide +kernel, rfl, by decide +kernel, by decide +kernel⟩
abbrev stOR (i : Nat) : Stmt := (defBody s_all_orders).getD i (.Pass ⟨0, 0, 0, 0⟩)
theorem bmX {X : Cx} {K : PySem.W.Frag} {e : Expr} {t : TE} {ta : TA} (hK : X.K = K) (h : PE X e (tBM X.K "list" rExtend t ta)) : PE X e (tBM K "list" rExtend t ta) := hK ▸ h
theorem or_for {f f1 : Addr} {fd1 : FuncData} {k n : Nat} (T : Txt mg) (K_longer : Kn P w K mg base CX0 (k + 1) "longer" f1 fd1 ["lists", "many"] (spT K rLonger)) (hn : n ≤ 4) :
    ∃ τ : TS, (∀ i, PS ((famD P w K mg base nOR "all_orders" (defScope s_all_orders) f (k + 1)).cx i) (stOR 3) τ) ∧ ∀ (D : Ends) (o3 : Option V) (H0 H : Hp) (a b : Addr) (ps qs : List (Addr × List Int)), Same H0 H → Told H0 H a ps → ps.map (·.2) = lvF n 0 → H b = some (.lst (qs.map fun p => V.ref p.1)) → (∀ q ∈ qs, H q.1 = some (.lst (q.2.map V.int))) → qs.map (·.2) = turnsK n 0 →
      (∀ o2 o3 H' ps', Same H0 H' → Told H0 H' a ps' → ps'.map (·.2) = lvF n n → D.nx [some (.int n), some (.ref a), o2, o3] H') → τ D [some (.int n), some (.ref a), some (.ref b), o3] H := by
  refine ⟨tFor (iRng1 (tCons (tVar 0) tNil)) (gName 3) (tSeq (tAsg (tCall (spT K rLonger) [] E0 (tCons (tVar 2) (tCons (tVar 0) tNil))) (gName 2)) (tDrop (tBM K "list" rExtend (tVar 1) (tCons (tVar 2) tNil)))), fun i => ?_, ?_⟩
  · exact ps_for (X := (famD P w K mg base nOR "all_orders" (defScope s_all_orders) f (k + 1)).cx i) (pOwn rfl) rfl (pi_range1 (X := (famD P w K mg base nOR "all_orders" (defScope s_all_orders) f (k + 1)).cx i) rfl T.b_range (pa_cons (pv (X := (famD P w K mg base nOR "all_orders" (defScope s_all_orders) f (k + 1)).cx i) (x := "many") 0) pa_nil)) (pg_name (X := (famD P w K mg base nOR "all_orders" (defScope s_all_orders) f (k + 1)).cx i) (i := 3) sc_all_orders.nd rfl (Or.inl rfl))
      (pss_cons (ps_set (X := (famD P w K mg base nOR "all_orders" (defScope s_all_orders) f (k + 1)).cx i) (i := 2) sc_all_orders.nd rfl (Or.inl rfl) (pe_kn (X := (famD P w K mg base nOR "all_orders" (defScope s_all_orders) f (k + 1)).cx i) (x := "longer") K_longer i.hr rfl (pa_cons (pv (X := (famD P w K mg base nOR "all_orders" (defScope s_all_orders) f (k + 1)).cx i) (x := "longest") 2) (pa_cons (pv (X := (famD P w K mg base nOR "all_orders" (defScope s_all_orders) f (k + 1)).cx i) (x := "many") 0) pa_nil))))
      (pss_one (ps_expr (X := (famD P w K mg base nOR "all_orders" (defScope s_all_orders) f (k + 1)).cx i) (bmX (K := K) rfl (pe_bm (X := (famD P w K mg base nOR "all_orders" (defScope s_all_orders) f (k + 1)).cx i) PySem.F.plainAttrs_list PySem.F.slot_list_extend PySem.F.type_list_extend mt_extend (pv (X := (famD P w K mg base nOR "all_orders" (defScope s_all_orders) f (k + 1)).cx i) (x := "told") 1) (pa_cons (pv (X := (famD P w K mg base nOR "all_orders" (defScope s_all_orders) f (k + 1)).cx i) (x := "longest") 2) pa_nil))))))
  intro D o3 H0 H a b ps qs sm td e0 hb hq e1 fin
  have big : 1000 < sizeLine := by decide
  refine tFor_r1 (hi := (n : Int)) n (fun R h => ⟨_, rfl, h⟩) ⟨by omega, by omega⟩ (by omega) (fun i σ' H' => ∃ b o3 ps qs, σ' = [some (.int n), some (.ref a), some (.ref b), o3] ∧ Same H0 H' ∧ Told H0 H' a ps ∧ ps.map (·.2) = lvF n i ∧ H' b = some (.lst (qs.map fun p => V.ref p.1)) ∧ (∀ q ∈ qs, H' q.1 = some (.lst (q.2.map V.int))) ∧ qs.map (·.2) = turnsK n i) ⟨b, o3, ps, qs, rfl, sm, td, e0, hb, hq, e1⟩ (fun i σ' H' hi z => ?_) (fun σ' H' z => ?_)
  · obtain ⟨b, o3, ps, qs, rfl, sm, td, e0, hb, hq, e1⟩ := z
    obtain ⟨b1, b2⟩ := turns_small n (by omega) i (by omega)
    dsimp only [gName, List.set, tSeq, tAsg]
    refine ⟨_, rfl, _, rfl, H', [.lst ((qs.map (·.2)).map dis), di n], tLL (longerF (turnsK n i) n), Same.refl _, ⟨_, _, rfl, ⟨b, _, rfl, SqL.of hb, hvl_rows hq⟩, ⟨_, _, rfl, ⟨rfl, rfl⟩, rfl⟩⟩, ⟨turnsK n i, n, by rw [e1], b1, by omega, b2, rfl⟩, fun v G2 H2 fq st2 ow nw => ?_⟩
    obtain ⟨b', qs', rfl, rfl, e3, td'⟩ := told_of (H0 := H') ow nw.n nw.d
    have ne : ∀ x ∈ b' :: qs'.map (·.1), x ≠ a := fun x hx z => by
      have := nw.n x hx
      rw [z, td.at_] at this
      cases this
    have l1 : (ps.map fun p => V.ref p.1).length ≤ 65 := by
      have := congrArg List.length e0
      rw [List.length_map] at this
      rw [List.length_map, this]
      exact lv_small n hn i (by omega)
    have l2 : (qs'.map fun p => V.ref p.1).length ≤ 1000 - 65 := by
      have h1 := congrArg List.length e3
      have h2 := congrArg List.length (lv_succ n i)
      have h3 := lv_small n hn (i + 1) (by omega)
      rw [List.length_append] at h2
      have h4 : (turnsK n (i + 1)).length = (longerF (turnsK n i) n).length := rfl
      rw [List.length_map] at h1
      rw [List.length_map, h1]
      omega
    have a2 := st2.h _ _ td.at_
    refine ⟨_, rfl, .inl ⟨rfl, _, SqL.of a2⟩, _, rfl, a, b', _, _, rfl, rfl, a2, td'.at_, by omega, ?_⟩
    have hnew : ∀ x ∈ b' :: qs'.map (·.1), H0 x = none := fun x hx => sm.free (nw.n x hx)
    have sm2 : Same H0 (upd H2 a (.lst ((ps.map fun p => V.ref p.1) ++ qs'.map fun p => V.ref p.1))) := (sm.trans st2.h).upd (td.new a (.head _))
    have ndq := (List.nodup_cons.mp nw.d).2
    have ndp := List.nodup_cons.mp td.nd
    have rows2 : ∀ p ∈ ps ++ qs', upd H2 a (.lst ((ps.map fun p => V.ref p.1) ++ qs'.map fun p => V.ref p.1)) p.1 = some (.lst (p.2.map V.int)) := fun p hp => by
      rcases List.mem_append.mp hp with hp | hp
      · have ne2 : p.1 ≠ a := fun z => ndp.1 (by rw [← z]; exact List.mem_map_of_mem hp)
        rw [upd_ne ne2]
        exact st2.h _ _ (td.rows p hp)
      · rw [upd_ne (ne _ (.tail _ (List.mem_map_of_mem hp)))]
        exact td'.rows p hp
    refine ⟨b', some (.int (0 + i)), ps ++ qs', qs', rfl, sm2, ⟨?_, rows2, ?_, ?_⟩, ?_, ?_, fun q hq => rows2 q (List.mem_append_right _ hq), e3⟩
    · rw [upd_same, List.map_append]
    · rw [List.map_append]
      refine List.nodup_cons.mpr ⟨fun z => ?_, List.nodup_append.mpr ⟨ndp.2, ndq, fun x hx y hy z => ?_⟩⟩
      · rcases List.mem_append.mp z with z | z
        · exact ndp.1 z
        · exact ne a (.tail _ z) rfl
      · subst z
        obtain ⟨p, hp, rfl⟩ := List.mem_map.mp hx
        have := nw.n p.1 (.tail _ hy)
        rw [td.rows p hp] at this
        cases this
    · intro x hx
      rcases List.mem_cons.mp hx with rfl | hx
      · exact td.new x (.head _)
      · rw [List.map_append] at hx
        rcases List.mem_append.mp hx with hx | hx
        · exact td.new x (.tail _ hx)
        · exact hnew x (.tail _ hx)
    · rw [List.map_append, e0, e3, lv_succ]; rfl
    · rw [upd_ne (ne b' (.head _))]
      exact td'.at_
  · obtain ⟨b, o3, ps, qs, rfl, sm, td, e0, _⟩ := z
    exact fin _ _ _ ps sm td e0
def rAllO (dd : List Dv) (t : Tr) : Prop := ∃ n : Nat, n ≤ 4 ∧ dd = [di n] ∧ t = tLL (lvF n n)
theorem ok_all_orders {f f1 : Addr} {fd fd1 : FuncData} {k : Nat} (F : Fun K "all_orders" "all_orders" s_all_orders f fd) (T : Txt mg) (K_longer : Kn P w K mg base CX0 (k + 1) "longer" f1 fd1 ["lists", "many"] (spT K rLonger)) : FnOk P w K mg base CX0 (k + 2) f fd ["many"] (spT K rAllO) := by
  refine fn_ok F.d sc_all_orders (fun dd t h => by obtain ⟨n, _, rfl, _⟩ := h; rfl) fun dd t h => ?_
  obtain ⟨n, hn, rfl, rfl⟩ := h
  obtain ⟨tk, hg⟩ := T.g_MOST_THINGS
  refine ⟨_, .inl rfl, ?_⟩
  refine rns_cons (rn_skip (Et.s (Ew.et (ew_or (p := false) (q := false) (Et.to (et_lt (ev_nm 0 rfl) ev_int) ?_) fun _ => ew_or1 (Et.to (et_gt (ev_nm 0 rfl) (ev_glob (v := .int 4) hg ⟨_, rfl⟩ rfl)) ?_)))) rfl) ?_
  · exact decide_eq_false (by omega)
  · exact decide_eq_false (by omega)
  refine rns_cons (rn_set 1 (Ev.s (ev_lst (eva_cons (ev_lst eva_nil (Nat.zero_le _)) eva_nil) (by show 1 ≤ sizeLine; decide))) (fun _ => sc_all_orders.nd)) ?_
  refine rns_cons (rn_set 2 (Ev.s (ev_lst (eva_cons (ev_lst eva_nil (Nat.zero_le _)) eva_nil) (by show 1 ≤ sizeLine; decide))) (fun _ => sc_all_orders.nd)) ?_
  show Rns _ [stOR 3, stOR 4] [some (ti n), some (tLL [[]]), some (tLL [[]]), none] _
  obtain ⟨τ, p, q⟩ := or_for (P := P) (w := w) (base := base) (f := f) T K_longer hn
  refine ⟨tSeq τ (tRet (tVar 1)), fun i => pss_cons (p i) (pss_one (ps_ret (pv (X := (famD P w K mg base nOR "all_orders" (defScope s_all_orders) f (k + 1)).cx i) (x := "told") 1))), fun D σ G0 H0 G H r post => ?_⟩
  obtain ⟨fp, r⟩ := r
  obtain ⟨v0, _, fa, _, rfl, rfl, ⟨h00, h0⟩, v1, _, f1', _, rfl, rfl, ow1, v2, _, f2', _, rfl, rfl, ow2, o3, _, rfl, rfl, rfl⟩ := r.own
  have hG : ∀ x o, G0 x = some o → x ∉ fa ++ (f1' ++ (f2' ++ [])) := fun x o hx hm => by
    have := r.g x hm
    rw [r.st.g x o hx] at this
    cases this
  have hH : ∀ x o, H0 x = some o → x ∉ fa ++ (f1' ++ (f2' ++ [])) := fun x o hx hm => by
    have := r.n x hm
    rw [hx] at this
    cases this
  have d0 := r.d
  obtain ⟨B, hB⟩ : ∃ B : Hp, B = fun x => if x ∈ f1' ++ f2' then none else H x := ⟨_, rfl⟩
  have fa0 : fa = [] := h00
  rw [fa0, List.nil_append, List.append_nil] at d0 hG hH
  have n0 : ∀ x ∈ f1' ++ f2', B x = none := fun x hx => by rw [hB]; exact if_pos hx
  have sB : Same B H := fun x o hx => by
    rw [hB] at hx
    dsimp only at hx
    split at hx
    · cases hx
    · exact hx
  have gB : Same G0 B := fun x o hx => by rw [hB]; exact (if_neg (hG x o hx)).trans (r.st.s _ _ (r.st.g _ _ hx))
  have oB : Same H0 B := fun x o hx => by rw [hB]; exact (if_neg (hH x o hx)).trans (r.st.h _ _ hx)
  have nn : ∀ x, B x = none → H0 x = none ∧ G0 x = none := fun x hx => ⟨oB.free hx, gB.free hx⟩
  obtain ⟨d1, d2, d3⟩ := List.nodup_append.mp d0
  obtain ⟨a, ps, rfl, rfl, e1, td1⟩ := told_of (H0 := B) ow1 (fun x hx => n0 x (List.mem_append_left _ hx)) d1
  obtain ⟨b, qs, rfl, rfl, e2, td2⟩ := told_of (H0 := B) ow2 (fun x hx => n0 x (List.mem_append_right _ hx)) d2
  rw [hvi h0]
  refine q _ o3 B H a b ps qs sB td1 e1 td2.at_ td2.rows e2 fun o2 o3 H' ps' sm td e3 => ?_
  refine ⟨_, rfl, ?_⟩
  refine post (.ref a) G0 H' (a :: ps'.map (·.1)) ⟨Same.refl _, oB.trans sm, gB.trans sm, fun a h h' => absurd h h'⟩ ?_ ⟨fun x hx => (nn x (td.new x hx)).1, fun x hx => (nn x (td.new x hx)).2, td.nd⟩
  rw [← e3]
  exact ⟨a, _, _, rfl, td.at_, owl_rows td.rows, rfl⟩
end
end K48
namespace K48
open PySem L2 Fra
section
variable {P : Program} {w : World} {K : PySem.W.Frag} {mg : Str → Option Value} {base : Heap}
theorem x1_tab (cs : List Int) (os : List (List Int)) : atI [dis cs, .lst (os.map dis)] 1 = some (.lst (os.map dis)) := rfl
theorem x0_tab (cs : List Int) (os : List (List Int)) : atI [dis cs, .lst (os.map dis)] 0 = some (dis cs) := rfl
abbrev s_check_asker : Stmt := top 48
theorem sc_check_asker : FnScope ["table", "asker"] ["table", "asker"] (defScope s_check_asker) := ⟨rfl, rfl, rfl, by decide +kernel, rfl, by decide +kernel, by decide +kernel⟩
def rChk (dd : List Dv) (t : Tr) : Prop := ∃ (cs : List Int) (os : List (List Int)) (n : Int), 0 ≤ n ∧ n < os.length ∧ dd = [tabD cs os, di n] ∧ t = tn
theorem ok_check_asker {f : Addr} {fd : FuncData} {k : Nat} (F : Fun K "check_asker" "check_asker" s_check_asker f fd) (T : Txt mg) : FnOk P w K mg base CX0 (k + 1) f fd ["table", "asker"] (spT K rChk) := by
  refine fn_ok F.d sc_check_asker (fun dd t h => by obtain ⟨_, _, _, _, _, rfl, _⟩ := h; rfl) fun dd t h => ?_
  obtain ⟨cs, os, n, n0, n1, rfl, rfl⟩ := h
  refine ⟨_, .inr ⟨rfl, [some (.fz (tabD cs os)), some (ti n)], rfl⟩, ?_⟩
  refine rns_one (rn_skip (Et.s (Ew.et (ew_or (p := false) (q := false) (Et.to (et_lt (ev_nm 1 rfl) ev_int) (decide_eq_false (by omega))) fun _ => ew_or1 (Et.to (et_ge (ev_nm 1 rfl) (ev_len T.b_len (ev_ixT (ev_nm 0 rfl) ev_int rfl (x1_tab cs os)) (.inl rfl))) (decide_eq_false (by rw [List.length_map]; omega)))))) rfl)
abbrev nTO : List Str := ["table", "asker", "order", "orders"]
abbrev s_told_otherwise : Stmt := top 49
theorem sc_told_otherwise : FnScope nTO ["table", "asker", "order"] (defScope s_told_otherwise) := ⟨rfl, rfl, rfl, by decide +kernel, rfl, by decide +kernel, by decide +kernel⟩
theorem er_rowset (os : List (List Int)) (n : Nat) (o : List Int) : er (.ow (((os.map dis).map Tr.fz).set n (.fz (dis o)))) = .lst ((os.set n o).map dis) := by
  rw [← List.map_set, ← List.map_set, er_fzs]
theorem ix_tab {os : List (List Int)} {n : Int} (n0 : 0 ≤ n) (n1 : n < os.length) : ixN ((os.map dis).map Tr.fz).length n = some n.toNat := by
  unfold ixN
  rw [List.length_map, List.length_map, if_pos n0, if_pos (by omega)]
def rTO (dd : List Dv) (t : Tr) : Prop := ∃ (cs : List Int) (os : List (List Int)) (n : Int) (o : List Int), 0 ≤ n ∧ n < os.length ∧ TabOk cs (os.set n.toNat o) ∧ dd = [tabD cs os, di n, dis o] ∧ t = .tp [tInts cs, tRows (os.set n.toNat o)]
theorem ok_told_otherwise {f f1 f2 : Addr} {fd fd1 fd2 : FuncData} {k : Nat} (F : Fun K "told_otherwise" "told_otherwise" s_told_otherwise f fd) (T : Txt mg) (K_check_asker : Kn P w K mg base CX0 (k + 1) "check_asker" f1 fd1 ["table", "asker"] (spT K rChk)) (K_table_of : Kn P w K mg base CX0 (k + 2) "table_of" f2 fd2 ["counts", "orders"] (spT K rTab)) : FnOk P w K mg base CX0 (k + 3) f fd ["table", "asker", "order"] (spT K rTO) := by
  refine fn_ok F.d sc_told_otherwise (fun dd t h => by obtain ⟨_, _, _, _, _, _, _, rfl, _⟩ := h; rfl) fun dd t h => ?_
  obtain ⟨cs, os, n, o, n0, n1, ok, rfl, rfl⟩ := h
  refine ⟨_, .inl rfl, ?_⟩
  refine rns_cons (rn_expr (Ev.s (ev_call K_check_asker (by show k + 1 ≤ k + 2; omega) (eva_cons (ev_nm 0 rfl) (eva_cons (ev_nm 1 rfl) eva_nil)) ⟨cs, os, n, n0, n1, rfl, rfl⟩))) ?_
  refine rns_cons (rn_set 3 (Ev.s (ev_list T.b_list (ev_ixT (ev_nm 0 rfl) ev_int rfl (x1_tab cs os)) (.inl rfl))) (fun _ => sc_told_otherwise.nd)) ?_
  refine rns_cons (rn_ixset 3 (n := n) (m := n.toNat) (us := (os.map dis).map Tr.fz) (t := .fz (dis o)) rfl (Ev.s (ev_nm 1 rfl)) (ix_tab n0 n1) (Ev.s (ev_nm 2 rfl)) (hps := fun i => pg_sub (pv 3) (uE_ok i) set_list)) ?_
  refine rns_frz 3 rfl ?_
  rw [er_rowset]
  show Rns _ _ [some (.fz (tabD cs os)), some (ti n), some (.fz (dis o)), some (.fz (.lst ((os.set n.toNat o).map dis)))] _
  exact rns_one (rn_ret (Ev.s (ev_call K_table_of (Nat.le_refl _) (eva_cons (ev_ixT (ev_nm 0 rfl) ev_int rfl (x0_tab cs os)) (eva_cons (ev_nm 3 rfl) eva_nil)) ⟨cs, os.set n.toNat o, ok, rfl, rfl⟩)))
def mR (c : List Int) (os : List (List Int)) (a : Int) : List Int := topsF c.length (stepsF c os) a
theorem dRow_map (W : Int) (r : List Int) : dRow W r = .lst (r.map fun s => dF (fW W s)) := by unfold dRow; rw [List.map_map]; rfl
theorem mR_row {c : List Int} {os : List (List Int)} (ok : TabOk c os) (a : Int) : RowOk WM c.length (mR c os a) := by
  have fok := full_ok ok
  have S := start_ok ok.c6 ok.cnt
  refine ⟨wm0, wm1, by unfold mR topsF; rw [List.length_map, nums_len'], fun t ht => ?_⟩
  obtain ⟨x, _, rfl⟩ := List.mem_map.mp ht
  have := share_nonneg (steps := stepsF c os) (fun s hs => (steps_ok ok fok s hs).l0) a x
  have sm : ((stepsF c os).map Stp.len).sum = WM := meal_sum fok 7 _ _ S
  rw [sm] at this
  exact this
theorem nums_key {n : Nat} {a : Int} (a0 : 0 ≤ a) (a1 : a < n) (g : Int → Dv) : atI ((numsF n).map g) a = some (g a) := by
  rw [show a = ((a.toNat : Nat) : Int) by omega]
  refine atI_nat ?_
  unfold numsF
  rw [List.map_map, List.getElem?_map, List.getElem?_range (by omega)]
  show some (g (0 + ((a.toNat : Nat) : Int))) = _
  rw [Int.zero_add]
theorem shares_rows (c : List Int) (os : List (List Int)) : dShares c.length (stepsF c os) os.length = .lst ((numsF os.length).map fun b => dRow WM (mR c os b)) := by
  unfold dShares
  congr 1
  exact List.map_congr_left fun b _ => (dRow_map _ _).symm
abbrev s_row_at : Stmt := top 51
theorem sc_row_at : FnScope ["table", "asker", "way", "shares"] ["table", "asker", "way"] (defScope s_row_at) := ⟨rfl, rfl, rfl, by decide +kernel, rfl, by decide +kernel, by decide +kernel⟩
def rRowAt (dd : List Dv) (t : Tr) : Prop := ∃ (c : List Int) (os : List (List Int)) (a : Int), TabOk c os ∧ 0 ≤ a ∧ a < os.length ∧ dd = [tabD c os, di a, ds "meal"] ∧ t = .fz (dRow WM (mR c os a))
theorem ok_row_at {f f1 : Addr} {fd fd1 : FuncData} {k : Nat} (F : Fun K "row_at" "row_at" s_row_at f fd) (T : Txt mg) (K_meal : Kn P w K mg base CX0 (k + 6) "meal" f1 fd1 ["table"] (spT K rMeal)) : FnOk P w K mg base CX0 (k + 8) f fd ["table", "asker", "way"] (spT K rRowAt) := by
  refine fn_ok F.d sc_row_at (fun dd t h => by obtain ⟨_, _, _, _, _, _, rfl, _⟩ := h; rfl) fun dd t h => ?_
  obtain ⟨c, os, a, ok, a0, a1, rfl, rfl⟩ := h
  refine ⟨_, .inl rfl, ?_⟩
  have fok := full_ok ok
  refine rns_cons (rn_set 3 (Ev.s (ev_if (Et.to (q := false) (et_eqF (u := .str "meal") (v := .str "turns") (ev_nm 2 rfl) ev_str rfl) (by decide +kernel)) (fun h => by cases h) (fun _ => Ev.to (ev_ixT (d := dShares c.length (stepsF c os) os.length) (ev_call K_meal (by show k + 6 ≤ k + 7; omega) (eva_cons (ev_nm 0 rfl) eva_nil) ⟨c, os, ok, fok, rfl, rfl⟩) ev_int rfl rfl) (by rw [shares_rows])))) (fun _ => sc_row_at.nd)) ?_
  exact rns_one (rn_ret (Ev.s (ev_ix (ev_nm 3 rfl) (ev_nm 1 rfl) rfl (nums_key a0 a1 _))))
def wordF (W : Int) (t1 t2 full : List Int) : Str := if eqD (dRow W t2) (dRow W t1) = true then "same" else if goodF t1 t2 full = true then "worse" else if goodF t2 t1 full = true then "better" else "other"
abbrev s_word_for : Stmt := top 52
theorem sc_word_for : FnScope ["table", "asker", "first", "new"] ["table", "asker", "first", "new"] (defScope s_word_for) := ⟨rfl, rfl, rfl, by decide +kernel, rfl, by decide +kernel, by decide +kernel⟩
def rWord (dd : List Dv) (t : Tr) : Prop := ∃ (c : List Int) (os : List (List Int)) (a : Int) (o : List Int) (W : Int) (t1 t2 : List Int), c.length ≤ 6 ∧ o.length ≤ 6 ∧ (∀ x ∈ o, 0 ≤ x ∧ x < c.length) ∧ atI os a = some o ∧ RowOk W c.length t1 ∧ RowOk W c.length t2 ∧ dd = [tabD c os, di a, dRow W t1, dRow W t2] ∧ t = tx (wordF W t1 t2 (fullF c.length o))
theorem dp_row (W : Int) (r : List Int) : dpD (dRow W r) ≤ 50 := Nat.le_trans (dpD_lst (n := 1) fun d hd => by
  obtain ⟨p, _, rfl⟩ := List.mem_map.mp hd
  exact dpD_dF p) (by decide)
theorem ok_word_for {f f1 : Addr} {fd fd1 : FuncData} {k : Nat} (F : Fun K "word_for" "word_for" s_word_for f fd) (T : Txt mg) (K_as_good : Kn P w K mg base CX0 (k + 5) "as_good" f1 fd1 ["table", "asker", "one", "other"] (spT K rGood)) : FnOk P w K mg base CX0 (k + 6) f fd ["table", "asker", "first", "new"] (spT K rWord) := by
  refine fn_ok F.d sc_word_for (fun dd t h => by obtain ⟨_, _, _, _, _, _, _, _, _, _, _, _, _, rfl, _⟩ := h; rfl) fun dd t h => ?_
  obtain ⟨c, os, a, o, W, t1, t2, c6, o6, orng, oat, k1, k2, rfl, rfl⟩ := h
  refine ⟨_, .inl rfl, ?_⟩
  unfold wordF
  by_cases h0 : eqD (dRow W t2) (dRow W t1) = true
  · rw [if_pos h0]
    exact rns_ret (rn_ifT (Et.s (et_eqS (ev_nm 3 rfl) (ev_nm 2 rfl) (.inl ⟨_, _, rfl, rfl⟩) (dp_row W t2))) h0 (rns_one (rn_ret (Ev.s ev_str))))
  · rw [if_neg h0]
    refine rns_cons (rn_skip (Et.s (et_eqS (ev_nm 3 rfl) (ev_nm 2 rfl) (.inl ⟨_, _, rfl, rfl⟩) (dp_row W t2))) (by show eqD (dRow W t2) (dRow W t1) = false; simpa using h0)) ?_
    by_cases h1 : goodF t1 t2 (fullF c.length o) = true
    · rw [if_pos h1]
      exact rns_ret (rn_ifT (Et.s (et_val (ev_call K_as_good (Nat.le_refl _) (eva_cons (ev_nm 0 rfl) (eva_cons (ev_nm 1 rfl) (eva_cons (ev_nm 2 rfl) (eva_cons (ev_nm 3 rfl) eva_nil)))) ⟨c, os, a, o, W, t1, t2, c6, o6, orng, oat, k1, k2, rfl, rfl⟩))) h1 (rns_one (rn_ret (Ev.s ev_str))))
    · rw [if_neg h1]
      refine rns_cons (rn_skip (Et.s (et_val (ev_call K_as_good (Nat.le_refl _) (eva_cons (ev_nm 0 rfl) (eva_cons (ev_nm 1 rfl) (eva_cons (ev_nm 2 rfl) (eva_cons (ev_nm 3 rfl) eva_nil)))) ⟨c, os, a, o, W, t1, t2, c6, o6, orng, oat, k1, k2, rfl, rfl⟩))) (by simpa using h1)) ?_
      by_cases h2 : goodF t2 t1 (fullF c.length o) = true
      · rw [if_pos h2]
        exact rns_ret (rn_ifT (Et.s (et_val (ev_call K_as_good (Nat.le_refl _) (eva_cons (ev_nm 0 rfl) (eva_cons (ev_nm 1 rfl) (eva_cons (ev_nm 3 rfl) (eva_cons (ev_nm 2 rfl) eva_nil)))) ⟨c, os, a, o, W, t2, t1, c6, o6, orng, oat, k2, k1, rfl, rfl⟩))) h2 (rns_one (rn_ret (Ev.s ev_str))))
      · rw [if_neg h2]
        exact rns_cons (rn_skip (Et.s (et_val (ev_call K_as_good (Nat.le_refl _) (eva_cons (ev_nm 0 rfl) (eva_cons (ev_nm 1 rfl) (eva_cons (ev_nm 3 rfl) (eva_cons (ev_nm 2 rfl) eva_nil)))) ⟨c, os, a, o, W, t2, t1, c6, o6, orng, oat, k2, k1, rfl, rfl⟩))) (by simpa using h2)) (rns_one (rn_ret (Ev.s ev_str)))
end
end K48
namespace K48
open PySem L2 Fra
section
variable {P : Program} {w : World} {K : PySem.W.Frag} {mg : Str → Option Value} {base : Heap}
abbrev s__law_cell_at : Stmt := top 55
theorem sc__law_cell_at : FnScope ["_law_script", "_law_k"] ["_law_script", "_law_k"] (defScope s__law_cell_at) := ⟨rfl, rfl, rfl, by decide +kernel, rfl, by decide +kernel, by decide +kernel⟩
def rCell (dd : List Dv) (t : Tr) : Prop := ∃ (ns : List Int) (k : Int), 0 ≤ k ∧ dd = [dis ns, di k] ∧ t = ti (cellF ns k)
theorem ok__law_cell_at {f : Addr} {fd : FuncData} {k : Nat} (F : Fun K "_law_cell_at" "_law_cell_at" s__law_cell_at f fd) (T : Txt mg) : FnOk P w K mg base CX0 (k + 1) f fd ["_law_script", "_law_k"] (spT K rCell) := by
  refine fn_ok F.d sc__law_cell_at (fun dd t h => by obtain ⟨_, _, _, rfl, _⟩ := h; rfl) fun dd t h => ?_
  obtain ⟨ns, j, hj, rfl, rfl⟩ := h
  refine ⟨_, .inl rfl, ?_⟩
  by_cases hl : j < ns.length
  · refine rns_ret (rn_ifT (Et.s (et_lt (ev_nm 1 rfl) (ev_len T.b_len (ev_nm 0 rfl) (.inl rfl)))) ?_ (rns_one (rn_ret (Ev.s (ev_ix (ev_nm 0 rfl) (ev_nm 1 rfl) rfl ?_)))))
    · rw [List.length_map]; exact decide_eq_true hl
    · exact cell_in hj hl
  · refine rns_cons (rn_skip (Et.s (et_lt (ev_nm 1 rfl) (ev_len T.b_len (ev_nm 0 rfl) (.inl rfl)))) ?_) ?_
    · rw [List.length_map]; exact decide_eq_false hl
    · rw [cell_out hj (by omega)]
      exact rns_one (rn_ret (Ev.s ev_int))
def popK (cell : Int) (left : List Int) : Nat → Int × List Int × List Int
  | 0 => (cell, left, [])
  | k + 1 => ((popK cell left k).1 / (popK cell left k).2.1.length, (popK cell left k).2.1.eraseIdx ((popK cell left k).1 % (popK cell left k).2.1.length).toNat, (popK cell left k).2.2 ++ [(((popK cell left k).2.1)[((popK cell left k).1 % (popK cell left k).2.1.length).toNat]?).getD 0])
theorem popK_perm (cell : Int) (left : List Int) : ∀ k, k ≤ left.length → ((popK cell left k).2.2 ++ (popK cell left k).2.1).Perm left ∧ (popK cell left k).2.1.length = left.length - k ∧ (popK cell left k).2.2.length = k
  | 0, _ => ⟨.refl _, by simp [popK], rfl⟩
  | k + 1, hk => by
    obtain ⟨h1, h2, h3⟩ := popK_perm cell left k (by omega)
    generalize hs : popK cell left k = s at *
    obtain ⟨c, l, o⟩ := s
    have e : popK cell left (k + 1) = (c / l.length, l.eraseIdx (c % l.length).toNat, o ++ [(l[(c % l.length).toNat]?).getD 0]) := by
      show ((popK cell left k).1 / _, _, _) = _
      rw [hs]
    rw [e]
    have hl : 0 < l.length := by have : l.length = left.length - k := h2; omega
    have m0 := Int.emod_nonneg c (show (l.length : Int) ≠ 0 by omega)
    have m1 := Int.emod_lt_of_pos c (show 0 < (l.length : Int) by omega)
    generalize hm : (c % l.length).toNat = m at *
    have hml : m < l.length := by omega
    refine ⟨?_, ?_, by rw [List.length_append]; have : o.length = k := h3; simp [this]⟩
    · show (o ++ [(l[m]?).getD 0] ++ l.eraseIdx m).Perm left
      rw [List.getElem?_eq_getElem hml, Option.getD_some, List.append_assoc]
      exact (List.Perm.append_left o (erase_perm hml)).trans h1
    · show (l.eraseIdx m).length = _
      rw [List.length_eraseIdx_of_lt hml]
      have : l.length = left.length - k := h2
      omega
def sizeF (cell : Int) (n : Nat) : Nat := if cell % 2 = 0 then n else (cell / 2 % (n + 1)).toNat
def orderF (cell : Int) (n : Nat) : List Int := (popK (cell / (2 * n + 2)) (numsF n) (sizeF cell n)).2.2
theorem size_le (cell : Int) (n : Nat) : sizeF cell n ≤ n := by
  unfold sizeF
  split
  · exact Nat.le_refl _
  · have := Int.emod_lt_of_pos (cell / 2) (show 0 < (n : Int) + 1 by omega)
    omega
theorem nums_len (n : Nat) : (numsF n).length = n := by unfold numsF; rw [List.length_map, List.length_range]
theorem order_ok (cell : Int) (n : Nat) : (orderF cell n).Nodup ∧ ∀ x ∈ orderF cell n, 0 ≤ x ∧ x < n := by
  obtain ⟨h, _⟩ := popK_perm (cell / (2 * n + 2)) (numsF n) (sizeF cell n) (by rw [nums_len]; exact size_le cell n)
  refine ⟨(List.nodup_append.mp (h.nodup_iff.mpr (nums_nodup n))).1, fun x hx => mem_nums.mp (h.mem_iff.mp (List.mem_append_left _ hx))⟩
abbrev s__law_order : Stmt := top 56
theorem sc__law_order : FnScope ["_law_cell", "_law_many", "_law_size", "_law_left", "_law_order_here", "_law_k", "_law_at"] ["_law_cell", "_law_many"] (defScope s__law_order) := ⟨rfl, rfl, rfl, by decide +kernel, rfl, by decide +kernel, by decide +kernel⟩
def rOrder (dd : List Dv) (t : Tr) : Prop := ∃ (cell : Int) (n : Nat), n ≤ 6 ∧ dd = [di cell, di n] ∧ t = tInts (orderF cell n)
theorem ok__law_order {f : Addr} {fd : FuncData} {k : Nat} (F : Fun K "_law_order" "_law_order" s__law_order f fd) (T : Txt mg) : FnOk P w K mg base CX0 (k + 1) f fd ["_law_cell", "_law_many"] (spT K rOrder) := by
  refine fn_ok F.d sc__law_order (fun dd t h => by obtain ⟨_, _, _, rfl, _⟩ := h; rfl) fun dd t h => ?_
  obtain ⟨cell, n, hn, rfl, rfl⟩ := h
  refine ⟨_, .inl rfl, ?_⟩
  have big : 1000 < sizeLine := by decide
  have hsz := size_le cell n
  refine rns_cons (rn_set 2 (Ev.s (ev_ix (d := di (sizeF cell n)) (ev_lst (eva_cons (ev_nm 1 rfl) (eva_cons (ev_mod (ev_div (ev_nm 0 rfl) ev_int ⟨by decide, small_lt (by decide) (by decide)⟩) (ev_add (ev_nm 1 rfl) ev_int) (by omega)) eva_nil)) (by show 2 ≤ sizeLine; decide)) (ev_mod (ev_nm 0 rfl) ev_int (by decide)) rfl ?_)) (fun _ => sc__law_order.nd)) ?_
  · show atI [di (n : Int), di (cell / 2 % ((n : Int) + 1))] (cell % 2) = _
    have h0 := Int.emod_nonneg cell (show (2 : Int) ≠ 0 by decide)
    have h2 := Int.emod_lt_of_pos cell (show (0 : Int) < 2 by decide)
    unfold sizeF
    have : cell % 2 = 0 ∨ cell % 2 = 1 := by omega
    rcases this with h | h
    · rw [h, if_pos rfl]; rfl
    · rw [h, if_neg (by decide)]
      have m0 := Int.emod_nonneg (cell / 2) (show (n : Int) + 1 ≠ 0 by omega)
      rw [show (((cell / 2 % ((n : Int) + 1)).toNat : Nat) : Int) = cell / 2 % ((n : Int) + 1) by omega]
      rfl
  refine rns_cons (rn_set 0 (Ev.s (ev_div (ev_nm 0 rfl) (ev_add (ev_mul ev_int (ev_nm 1 rfl) ⟨small_lt (by decide) (by decide), small_lt (by omega) (by omega)⟩) ev_int) ⟨by omega, small_lt (by omega) (by omega)⟩)) (fun _ => sc__law_order.nd)) ?_
  refine rns_cons (rn_set 3 (Ev.s (ev_listrange T.b_list T.b_range (ev_nm 1 rfl) (by omega) (by omega))) (fun _ => sc__law_order.nd)) ?_
  refine rns_cons (rn_set 4 (Ev.s (ev_lst eva_nil (Nat.zero_le _))) (fun _ => sc__law_order.nd)) ?_
  refine rns_cons (rn_for (EvI.s (evi_range1 T.b_range (ev_nm 2 rfl) ⟨by omega, by omega⟩)) (evg_nm 5 (fun _ => sc__law_order.nd)) (fun k => [some (ti (popK (cell / (2 * n + 2)) (numsF n) k).1), some (ti n), some (ti (sizeF cell n)), some (tInts (popK (cell / (2 * n + 2)) (numsF n) k).2.1), some (tInts (popK (cell / (2 * n + 2)) (numsF n) k).2.2), none, none]) rfl (fun _ => rfl) (fun j d hd => ?_)) ?_
  · obtain ⟨hj, rfl⟩ := rng_get hd
    have hj' : j < sizeF cell n := by omega
    obtain ⟨p1, p2, p3⟩ := popK_perm (cell / (2 * n + 2)) (numsF n) j (by rw [nums_len]; omega)
    rw [nums_len] at p2
    have e : popK (cell / (2 * n + 2)) (numsF n) (j + 1) = ((popK (cell / (2 * n + 2)) (numsF n) j).1 / (popK (cell / (2 * n + 2)) (numsF n) j).2.1.length, (popK (cell / (2 * n + 2)) (numsF n) j).2.1.eraseIdx ((popK (cell / (2 * n + 2)) (numsF n) j).1 % (popK (cell / (2 * n + 2)) (numsF n) j).2.1.length).toNat, (popK (cell / (2 * n + 2)) (numsF n) j).2.2 ++ [(((popK (cell / (2 * n + 2)) (numsF n) j).2.1)[((popK (cell / (2 * n + 2)) (numsF n) j).1 % (popK (cell / (2 * n + 2)) (numsF n) j).2.1.length).toNat]?).getD 0]) := rfl
    rw [e]
    generalize popK (cell / (2 * n + 2)) (numsF n) j = s at p1 p2 p3
    obtain ⟨c, l, o⟩ := s
    simp only at p1 p2 p3 ⊢
    have hl : 0 < (l.length : Int) := by omega
    have hl6 : (l.length : Int) ≤ 6 := by omega
    have m0 := Int.emod_nonneg c (show (l.length : Int) ≠ 0 by omega)
    have m1 := Int.emod_lt_of_pos c hl
    have el : (ers (l.map fun n => Tr.fz (di n))).length = l.length := by rw [ers_map, List.length_map, List.length_map]
    have hlm : (((l.map fun n => Tr.fz (di n)).length : Nat) : Int) = l.length := by rw [List.length_map]
    refine ⟨_, _, rfl, rns_cons (rn_set 6 (EvS.to (t' := ti (c % l.length)) (Ev.pk (ev_mod (ev_nm 0 rfl) (ev_len T.b_len (ev_nm 3 rfl) (.inl rfl)) (by rw [el]; exact hl)) True.intro) (by rw [el])) (fun _ => sc__law_order.nd))
      (rns_cons (rn_set 0 (EvS.to (t' := ti (c / l.length)) (Ev.pk (ev_div (ev_nm 0 rfl) (ev_len T.b_len (ev_nm 3 rfl) (.inl rfl)) (by rw [el]; exact ⟨hl, small_lt (by omega) (by omega)⟩)) True.intro) (by rw [el])) (fun _ => sc__law_order.nd))
      (rns_one (rn_append_pop 4 3 (d := di ((l[(c % l.length).toNat]?).getD 0)) (n := c % l.length) (m := (c % l.length).toNat) (by decide) rfl rfl (Ev.s (ev_nm 6 rfl)) ?_ ⟨by omega, by omega⟩ ?_ ?_))), [5, 6], ?_⟩
    · rw [List.length_map]
      unfold ixN
      rw [if_pos m0, if_pos m1]
    · rw [List.getElem?_map, List.getElem?_eq_getElem (show (c % l.length).toNat < l.length by omega)]
      rfl
    · rw [List.length_map]; omega
    · show [_, _, _, some (Tr.ow (List.eraseIdx _ _)), some (Tr.ow (_ ++ [_])), _, _] = [_, _, _, some (Tr.ow _), some (Tr.ow _), _, _]
      rw [List.map_append, erase_map]
      rfl
  · rw [List.length_map, List.length_range]
    show Rns _ _ [_, _, _, _, some (tInts (popK (cell / (2 * n + 2)) (numsF n) (sizeF cell n)).2.2), _, _] _
    exact rns_one (rn_retO 4 rfl)
def cellsF (ns : List Int) (st : Int) : List Int := (List.range 13).map fun k => cellF ns (st + (0 + ((k : Nat) : Int)))
theorem cells_get (ns : List Int) (st : Int) {k : Nat} (hk : k < 13) : (cellsF ns st)[k]? = some (cellF ns (st + (0 + ((k : Nat) : Int)))) := by
  unfold cellsF
  rw [List.getElem?_map, List.getElem?_range hk]; rfl
def cntF (c : Int) : Int := if c / 10 % 2 = 0 then c % 4 else c % 10
def manyT (th : Nat) (ns : List Int) (st : Int) : Nat := (cellF ns (st + (0 + ((0 : Nat) : Int))) % ((th : Int) + 1)).toNat
def countsT (th : Nat) (ns : List Int) (st : Int) : List Int := (cutD (cellsF ns st) (some 1) (some (1 + (manyT th ns st : Int)))).map cntF
def nOrd (ns : List Int) (st most : Int) : Nat := (1 + cellF ns (st + (0 + ((0 : Nat) : Int))) / 7 % most).toNat
def cellT (ns : List Int) (st : Int) (k : Nat) : Int := if cellF ns (st + (0 + ((0 : Nat) : Int))) / 42 % 3 = 0 ∧ 1 < cellF ns (st + (0 + ((7 + k : Nat) : Int))) % 5 then cellF ns (st + (0 + ((7 : Nat) : Int))) else cellF ns (st + (0 + ((7 + k : Nat) : Int)))
def ordersT (th : Nat) (ns : List Int) (st most : Int) : List (List Int) := (List.range (nOrd ns st most)).map fun k => orderF (cellT ns st k) (manyT th ns st)
theorem manyT_th (th : Nat) (ns : List Int) (st : Int) : manyT th ns st ≤ th := by
  unfold manyT
  have := Int.emod_lt_of_pos (cellF ns (st + (0 + ((0 : Nat) : Int)))) (show (0 : Int) < (th : Int) + 1 by omega)
  omega
theorem manyT_le {th : Nat} (h : th ≤ 6) (ns : List Int) (st : Int) : manyT th ns st ≤ 6 := Nat.le_trans (manyT_th th ns st) h
theorem manyT_int (th : Nat) (ns : List Int) (st : Int) : cellF ns (st + (0 + ((0 : Nat) : Int))) % ((th : Int) + 1) = (manyT th ns st : Int) := by
  unfold manyT
  have := Int.emod_nonneg (cellF ns (st + (0 + ((0 : Nat) : Int)))) (show (th : Int) + 1 ≠ 0 by omega)
  omega
theorem nOrd_le {ns : List Int} {st most : Int} (h1 : 1 ≤ most) (h6 : most ≤ 6) : 1 ≤ nOrd ns st most ∧ nOrd ns st most ≤ 6 ∧ (1 + cellF ns (st + (0 + ((0 : Nat) : Int))) / 7 % most = (nOrd ns st most : Int)) := by
  unfold nOrd
  have a := Int.emod_nonneg (cellF ns (st + (0 + ((0 : Nat) : Int))) / 7) (show most ≠ 0 by omega)
  have b := Int.emod_lt_of_pos (cellF ns (st + (0 + ((0 : Nat) : Int))) / 7) (show 0 < most by omega)
  omega
theorem cutD_nat {α : Type} (l : List α) (a b : Nat) : cutD l (some (a : Int)) (some (b : Int)) = (l.drop (min a l.length)).take (min b l.length - min a l.length) := by
  unfold cutD
  rw [HT.sIx_nat, HT.sIx_nat]
theorem counts_len {th : Nat} (h6 : th ≤ 6) (ns : List Int) (st : Int) : (countsT th ns st).length = manyT th ns st := by
  unfold countsT
  have := manyT_le h6 ns st
  have e : cutD (cellsF ns st) (some 1) (some (1 + (manyT th ns st : Int))) = cutD (cellsF ns st) (some ((1 : Nat) : Int)) (some ((1 + manyT th ns st : Nat) : Int)) := by
    congr 2
  rw [List.length_map, e, cutD_nat, List.length_take, List.length_drop]
  have : (cellsF ns st).length = 13 := by unfold cellsF; rw [List.length_map, List.length_range]
  omega
theorem cntF_ok (c : Int) : 0 ≤ cntF c ∧ cntF c ≤ 9 := by
  unfold cntF
  have := Int.emod_nonneg c (show (4 : Int) ≠ 0 by decide)
  have := Int.emod_lt_of_pos c (show (0 : Int) < 4 by decide)
  have := Int.emod_nonneg c (show (10 : Int) ≠ 0 by decide)
  have := Int.emod_lt_of_pos c (show (0 : Int) < 10 by decide)
  split <;> omega
theorem tab_ok {th : Nat} (t6 : th ≤ 6) {ns : List Int} {st most : Int} (h1 : 1 ≤ most) (h6 : most ≤ 6) : TabOk (countsT th ns st) (ordersT th ns st most) := by
  obtain ⟨n1, n2, _⟩ := nOrd_le (ns := ns) (st := st) h1 h6
  refine ⟨by rw [counts_len t6]; exact manyT_le t6 ns st, fun x hx => ?_, ?_, ?_, fun o ho => ?_, fun o ho x hx => ?_⟩
  · obtain ⟨c, _, rfl⟩ := List.mem_map.mp hx
    exact cntF_ok c
  · unfold ordersT; rw [List.length_map, List.length_range]; exact n1
  · unfold ordersT; rw [List.length_map, List.length_range]; exact n2
  · obtain ⟨k, _, rfl⟩ := List.mem_map.mp ho
    exact (order_ok _ _).1
  · obtain ⟨k, _, rfl⟩ := List.mem_map.mp ho
    rw [counts_len t6]
    exact (order_ok _ _).2 x hx
abbrev s__law_table : Stmt := top 57
theorem sc__law_table : FnScope ["_law_script", "_law_start", "_law_things", "_law_askers", "_law_cells", "_law_many", "_law_counts", "_law_orders", "_law_k", "_law_cell"] ["_law_script", "_law_start", "_law_things", "_law_askers"] (defScope s__law_table) := ⟨rfl, rfl, rfl, by decide +kernel, rfl, by decide +kernel, by decide +kernel⟩
def rTable (dd : List Dv) (t : Tr) : Prop := ∃ (th : Nat) (ns : List Int) (st most : Int), th ≤ 6 ∧ 0 ≤ st ∧ 1 ≤ most ∧ most ≤ 6 ∧ dd = [dis ns, di st, di th, di most] ∧ t = .fz (tabD (countsT th ns st) (ordersT th ns st most))
theorem ok__law_table {f f1 f2 : Addr} {fd fd1 fd2 : FuncData} {k : Nat} (F : Fun K "_law_table" "_law_table" s__law_table f fd) (T : Txt mg) (K__law_cell_at : Kn P w K mg base CX0 (k + 1) "_law_cell_at" f1 fd1 ["_law_script", "_law_k"] (spT K rCell)) (K__law_order : Kn P w K mg base CX0 (k + 1) "_law_order" f2 fd2 ["_law_cell", "_law_many"] (spT K rOrder)) : FnOk P w K mg base CX0 (k + 2) f fd ["_law_script", "_law_start", "_law_things", "_law_askers"] (spT K rTable) := by
  refine fn_ok F.d sc__law_table (fun dd t h => by obtain ⟨_, _, _, _, _, _, _, _, rfl, _⟩ := h; rfl) fun dd t h => ?_
  obtain ⟨th, ns, st, most, t6, hst, h1, h6, rfl, rfl⟩ := h
  refine ⟨_, .inl rfl, ?_⟩
  have big : 1000 < sizeLine := by decide
  have hM := manyT_le t6 ns st
  obtain ⟨n1, n2, n3⟩ := nOrd_le (ns := ns) (st := st) h1 h6
  have cget : ∀ k : Nat, k < 13 → atI ((cellsF ns st).map di) ((k : Nat) : Int) = some (di (cellF ns (st + (0 + ((k : Nat) : Int))))) := fun k hk => atI_nat (by rw [List.getElem?_map, cells_get ns st hk]; rfl)
  have clen : (cellsF ns st).length = 13 := by unfold cellsF; rw [List.length_map, List.length_range]
  refine rns_cons (ρ1 := [some (.fz (dis ns)), some (ti st), some (ti th), some (ti most), some (.fz (dis (cellsF ns st))), none, none, none, none, none]) (rn_lcG 4 (ElcS (Elc.as (d := dis (cellsF ns st)) (elc (own := ["_law_k"]) (fr := [0, 1]) (evi_range1 T.b_range ev_int ⟨by decide, by decide⟩) (evg_nm 0 (fun _ => by show List.Nodup (["_law_k", "_law_script", "_law_start"] : List Str); decide)) (by decide) (fun k => true) (fun k => ti (cellF ns (st + (0 + ((k : Nat) : Int))))) (by rw [List.length_map, List.length_range]; show 13 < sizeLine; decide) (fun k d hd => by
      obtain ⟨hk, rfl⟩ := rng_get hd
      exact ⟨_, rfl, el_nil, fun _ => ev_call K__law_cell_at (Nat.le_refl _) (eva_cons (ev_nm 1 rfl) (eva_cons (ev_add (ev_nm 2 rfl) (ev_nm 0 rfl)) eva_nil)) ⟨ns, _, by omega, rfl, rfl⟩⟩) (fun dd => by cases dd <;> rfl)) (by rw [List.filter_eq_self.mpr (fun _ _ => rfl), er_map]; rfl))) (fun i => lcs ⟨rfl, rfl, by decide +kernel, by decide +kernel, by decide +kernel, by decide +kernel⟩) (fun _ => sc__law_table.nd)) ?_
  refine rns_cons (rn_set 5 (EvS.to (t' := ti (manyT th ns st)) (Ev.s (ev_mod (ev_ix (d := di (cellF ns (st + (0 + ((0 : Nat) : Int))))) (ev_nm 4 rfl) ev_int rfl (cget 0 (by decide))) (ev_add (ev_nm 2 rfl) ev_int) (by omega))) (by rw [manyT_int])) (fun _ => sc__law_table.nd)) ?_
  refine rns_cons (rn_lcG 6 (ElcS (Elc.as (d := dis (countsT th ns st)) (elc (own := ["_law_cell"]) (fr := []) (evi_list (ev_slice (ev_nm 4 rfl) rfl (eo_some ev_int) (eo_some (ev_add ev_int (ev_nm 5 rfl)))) (er_fzs _)) (evg_nm 0 (fun _ => by show List.Nodup (["_law_cell"] : List Str); decide)) (by decide) (fun k => true) (fun k => ti ((((cutD (cellsF ns st) (some 1) (some (1 + (manyT th ns st : Int)))).map cntF)[k]?).getD 0)) ?_ (fun k d hd => ?_) (fun dd => ?_)) ?_)) (fun i => lcs ⟨rfl, rfl, by decide +kernel, by decide +kernel, by decide +kernel, by decide +kernel⟩) (fun _ => sc__law_table.nd)) ?_
  · have := cutD_len ((cellsF ns st).map di) (some 1) (some (1 + (manyT th ns st : Int)))
    rw [List.length_map, clen] at this
    omega
  · rw [cutD_map] at hd
    obtain ⟨c, hc, rfl⟩ := map_get hd
    refine ⟨_, rfl, el_nil, fun _ => ?_⟩
    rw [List.getElem?_map, hc]
    refine ev_ix (d := di (cntF c)) (ev_lst (eva_cons (ev_mod (ev_nm 0 rfl) ev_int (by decide)) (eva_cons (ev_mod (ev_nm 0 rfl) ev_int (by decide)) eva_nil)) (by show 2 ≤ sizeLine; decide)) (ev_mod (ev_div (ev_nm 0 rfl) ev_int ⟨by decide, small_lt (by decide) (by decide)⟩) ev_int (by decide)) rfl ?_
    show atI [di (c % 4), di (c % 10)] (c / 10 % 2) = _
    have a := Int.emod_nonneg (c / 10) (show (2 : Int) ≠ 0 by decide)
    have b := Int.emod_lt_of_pos (c / 10) (show (0 : Int) < 2 by decide)
    unfold cntF
    have : c / 10 % 2 = 0 ∨ c / 10 % 2 = 1 := by omega
    rcases this with h | h <;> rw [h] <;> rfl
  · cases dd <;> rfl
  · rw [List.filter_eq_self.mpr (fun _ _ => rfl), er_map, cutD_map, List.length_map]
    unfold countsT
    have := map_range_get ((cutD (cellsF ns st) (some 1) (some (1 + (manyT th ns st : Int)))).map cntF) 0 id
    rw [List.length_map] at this
    simp only [List.map_id, id] at this
    rw [this]
  refine rns_cons (rn_set 7 (Ev.s (ev_lst eva_nil (Nat.zero_le _))) (fun _ => sc__law_table.nd)) ?_
  have cd7 : CDivB (cellF ns (st + (0 + ((0 : Nat) : Int)))) 7 := ⟨by decide, small_lt (by decide) (by decide)⟩
  have cd42 : CDivB (cellF ns (st + (0 + ((0 : Nat) : Int)))) 42 := ⟨by decide, small_lt (by decide) (by decide)⟩
  refine rns_cons (rn_for (its := rngD 0 (nOrd ns st most)) (EvI.s (EvI.to (evi_range1 T.b_range (ev_add ev_int (ev_mod (ev_div (ev_ix (d := di (cellF ns (st + (0 + ((0 : Nat) : Int))))) (ev_nm 4 rfl) ev_int rfl (cget 0 (by decide))) ev_int cd7) (ev_nm 3 rfl) (by omega))) ?_) ?_)) (evg_nm 8 (fun _ => sc__law_table.nd)) (fun k => [some (.fz (dis ns)), some (ti st), some (ti th), some (ti most), some (.fz (dis (cellsF ns st))), some (ti (manyT th ns st)), some (.fz (dis (countsT th ns st))), some (tRows ((ordersT th ns st most).take k)), none, none]) rfl (fun _ => rfl) (fun j d hd => ?_)) ?_
  · rw [n3]; omega
  · rw [n3, Int.toNat_natCast]
  · obtain ⟨hj, rfl⟩ := rng_get hd
    have c7 : atI ((cellsF ns st).map di) (7 + (0 + (j : Int))) = some (di (cellF ns (st + (0 + ((7 + j : Nat) : Int))))) := by
      have := cget (7 + j) (by omega)
      rwa [show ((7 + j : Nat) : Int) = 7 + (0 + (j : Int)) by omega] at this ⊢
    have hord : (ordersT th ns st most)[j]? = some (orderF (cellT ns st j) (manyT th ns st)) := by
      unfold ordersT
      rw [List.getElem?_map, List.getElem?_range hj]; rfl
    have hlen : ((ordersT th ns st most).take j).length < sizeLine := by
      rw [List.length_take]
      have : (ordersT th ns st most).length = nOrd ns st most := by unfold ordersT; rw [List.length_map, List.length_range]
      omega
    have fin : tRows ((ordersT th ns st most).take (j + 1)) = .ow (((ordersT th ns st most).take j).map tInts ++ [tInts (orderF (cellT ns st j) (manyT th ns st))]) := by
      rw [take_get hord]
      show Tr.ow _ = _
      rw [List.map_append]; rfl
    rw [fin]
    cases hf : decide (cellF ns (st + (0 + ((0 : Nat) : Int))) / 42 % 3 = 0) && decide (1 < cellF ns (st + (0 + ((7 + j : Nat) : Int))) % 5) with
    | true =>
      have ec : cellT ns st j = cellF ns (st + (0 + ((7 : Nat) : Int))) := by
        unfold cellT
        rw [Bool.and_eq_true, decide_eq_true_eq, decide_eq_true_eq] at hf
        rw [if_pos hf]
      refine ⟨_, _, rfl, rns_cons (rn_set 9 (Ev.s (ev_ix (ev_nm 4 rfl) (ev_add ev_int (ev_nm 8 rfl)) rfl c7)) (fun _ => sc__law_table.nd)) (rns_cons (rn_ifT (Et.s (Ew.et (ew_and (et_eq (ev_mod (ev_div (ev_ix (d := di (cellF ns (st + (0 + ((0 : Nat) : Int))))) (ev_nm 4 rfl) ev_int rfl (cget 0 (by decide))) ev_int cd42) ev_int (by decide)) ev_int) fun _ => (ew_and1 (et_gt (ev_mod (ev_nm 9 rfl) ev_int (by decide)) ev_int))))) hf (rns_one (rn_set 9 (Ev.s (ev_ix (d := di (cellF ns (st + (0 + ((7 : Nat) : Int))))) (ev_nm 4 rfl) ev_int rfl (cget 7 (by decide)))) (fun _ => sc__law_table.nd))))
        (rns_one (rn_append 7 rfl (Ev.s (ev_call K__law_order (Nat.le_refl _) (eva_cons (ev_nm 9 rfl) (eva_cons (ev_nm 5 rfl) eva_nil)) ⟨_, manyT th ns st, hM, rfl, rfl⟩)) (by rw [List.length_map]; exact hlen)))), [8, 9], ?_⟩
      rw [ec]; rfl
    | false =>
      have ec : cellT ns st j = cellF ns (st + (0 + ((7 + j : Nat) : Int))) := by
        unfold cellT
        rw [if_neg]
        intro z
        rw [decide_eq_true z.1, decide_eq_true z.2] at hf
        cases hf
      refine ⟨_, _, rfl, rns_cons (rn_set 9 (Ev.s (ev_ix (ev_nm 4 rfl) (ev_add ev_int (ev_nm 8 rfl)) rfl c7)) (fun _ => sc__law_table.nd)) (rns_cons (rn_skip (Et.s (Ew.et (ew_and (et_eq (ev_mod (ev_div (ev_ix (d := di (cellF ns (st + (0 + ((0 : Nat) : Int))))) (ev_nm 4 rfl) ev_int rfl (cget 0 (by decide))) ev_int cd42) ev_int (by decide)) ev_int) fun _ => (ew_and1 (et_gt (ev_mod (ev_nm 9 rfl) ev_int (by decide)) ev_int))))) hf)
        (rns_one (rn_append 7 rfl (Ev.s (ev_call K__law_order (Nat.le_refl _) (eva_cons (ev_nm 9 rfl) (eva_cons (ev_nm 5 rfl) eva_nil)) ⟨_, manyT th ns st, hM, rfl, rfl⟩)) (by rw [List.length_map]; exact hlen)))), [8, 9], ?_⟩
      rw [ec]; rfl
  · have el : (rngD 0 (nOrd ns st most)).length = (ordersT th ns st most).length := by unfold ordersT; simp
    rw [el, List.take_length]
    refine rns_freezeTo (d := .lst ((ordersT th ns st most).map dis)) 7 rfl (er_tRows _) ?_
    exact rns_one (rn_ret (Ev.s (ev_tupD (eva_cons (ev_nm 6 rfl) (eva_cons (ev_nm 7 rfl) eva_nil)) rfl (by show 2 ≤ sizeLine; decide))))
end
end K48
namespace K48
open PySem L2 Fra
section
variable {P : Program} {w : World} {K : PySem.W.Frag} {mg : Str → Option Value} {base : Heap}
abbrev s__law_full : Stmt := top 58
theorem sc__law_full : FnScope ["_law_table_here", "_law_asker", "_law_order_here", "_law_many"] ["_law_table_here", "_law_asker"] (defScope s__law_full) := ⟨rfl, rfl, rfl, by decide +kernel, rfl, by decide +kernel, by decide +kernel⟩
theorem ok__law_full {f : Addr} {fd : FuncData} {k : Nat} (F : Fun K "_law_full" "_law_full" s__law_full f fd) (T : Txt mg) : FnOk P w K mg base CX0 (k + 1) f fd ["_law_table_here", "_law_asker"] (spT K rFull) := by
  refine fn_ok F.d sc__law_full (fun dd t h => by obtain ⟨_, _, _, _, _, _, _, rfl, _⟩ := h; rfl) fun dd t h => ?_
  obtain ⟨c, os, a, o, h1, h2, h3, rfl, rfl⟩ := h
  refine ⟨_, .inl rfl, ?_⟩
  have big : 1000 < sizeLine := by decide
  refine rns_cons (rn_set 2 (Ev.s (ev_ix (d := dis o) (ev_ixT (d := .lst (os.map dis)) (ev_nm 0 rfl) ev_int rfl rfl) (ev_nm 1 rfl) rfl (atI_map dis h3))) (fun _ => sc__law_full.nd)) ?_
  refine rns_cons (rn_set 3 (Ev.s (ev_len T.b_len (ev_ixT (d := dis c) (ev_nm 0 rfl) ev_int rfl rfl) (.inl rfl))) (fun _ => sc__law_full.nd)) ?_
  rw [List.length_map]
  refine rns_one (rn_ret (Ev.s (Ev.to (ev_cat (ev_cat (ev_nm 2 rfl) (ev_lst (eva_cons (ev_nm 3 rfl) eva_nil) (by show 1 ≤ sizeLine; decide)) rfl rfl ?_) (ev_lc (own := ["_law_k"]) (fr := [2]) (fun i => lcs ⟨rfl, rfl, by decide +kernel, by decide +kernel, by decide +kernel, by decide +kernel⟩) (evi_range1 T.b_range (ev_nm 3 rfl) ⟨by omega, by omega⟩) (evg_nm 0 (fun _ => by show List.Nodup (["_law_k", "_law_order_here"] : List Str); decide)) (by decide) (fun k => !o.contains (0 + ((k : Nat) : Int))) (fun k => ti (0 + ((k : Nat) : Int))) ?_ (fun k d hd => ?_) (fun dd => ?_)) (er_fzs _) (er_map _ _) ?_) ?_)))
  · show (o.map di).length + 1 ≤ sizeLine
    rw [List.length_map]; omega
  · rw [List.length_map, List.length_range]; omega
  · obtain ⟨hi, rfl⟩ := rng_get hd
    exact ⟨_, rfl, el_one (et_notin (ev_nm 0 rfl) (ev_nm 1 rfl) rfl (by with_unfolding_all rfl)), fun _ => ev_nm 0 rfl⟩
  · cases dd <;> rfl
  · have e : (rngD 0 ((c.length : Nat) : Int).toNat).length = c.length := by simp
    rw [e]
    show ((o.map di) ++ [di _]).length + ((restF c.length o).map di).length ≤ sizeLine
    have := restF_len c.length o
    simp only [List.length_append, List.length_map, List.length_singleton]
    omega
  · have e : (rngD 0 ((c.length : Nat) : Int).toNat).length = c.length := by simp
    rw [e]
    show Tr.ow ((((o.map di) ++ [di _]) ++ ((restF c.length o).map di)).map .fz) = Tr.ow ((o ++ [(c.length : Int)] ++ restF c.length o).map _)
    simp only [List.map_append, List.map_map]
    rfl
abbrev nLS : List Str := ["_law_many", "_law_rows", "_law_found", "_law_k", "_law_longer", "_law_row"]
abbrev s__law_lists : Stmt := top 62
theorem sc__law_lists : FnScope nLS ["_law_many"] (defScope s__law_lists) := ⟨rfl, rfl, rfl, by decide +kernel, rfl, by decide +kernel, by decide +kernel⟩
def rLists (dd : List Dv) (t : Tr) : Prop := ∃ n : Nat, n ≤ 4 ∧ dd = [di n] ∧ t = .fz (.lst ((lvF n n).map dis))
theorem ok__law_lists {f : Addr} {fd : FuncData} {k : Nat} (F : Fun K "_law_lists" "_law_lists" s__law_lists f fd) (T : Txt mg) : FnOk P w K mg base CX0 (k + 1) f fd ["_law_many"] (spT K rLists) := by
  refine fn_ok F.d sc__law_lists (fun dd t h => by obtain ⟨_, _, rfl, _⟩ := h; rfl) fun dd t h => ?_
  obtain ⟨n, n4, rfl, rfl⟩ := h
  refine ⟨_, .inl rfl, ?_⟩
  have big : 1000 < sizeLine := by decide
  refine rns_cons (rn_set 1 (Ev.s (Ev.as (d := .lst ((turnsK n 0).map dis)) (ev_lst (eva_cons (ev_lst eva_nil (Nat.zero_le _)) eva_nil) (by show 1 ≤ sizeLine; decide)) rfl)) (fun _ => sc__law_lists.nd)) ?_
  refine rns_cons (rn_set 2 (Ev.s (Ev.as (d := .lst ((lvF n 0).map dis)) (ev_lst (eva_cons (ev_lst eva_nil (Nat.zero_le _)) eva_nil) (by show 1 ≤ sizeLine; decide)) rfl)) (fun _ => sc__law_lists.nd)) ?_
  have rl : (rngD 0 ((n : Int)).toNat).length = n := by rw [List.length_map, List.length_range]; omega
  refine rns_cons (rn_for (EvI.s (evi_range1 T.b_range (ev_nm 0 rfl) ⟨by omega, by omega⟩)) (evg_nm 3 (fun _ => sc__law_lists.nd)) (fun i => [some (ti n), some (.fz (.lst ((turnsK n i).map dis))), some (.fz (.lst ((lvF n i).map dis))), none, none, none]) rfl (fun _ => rfl) (fun i d hd => ?_)) ?_
  · obtain ⟨hi, rfl⟩ := rng_get hd
    have hi' : i < n := by omega
    obtain ⟨b1, b2⟩ := turns_small n (by omega) i (by omega)
    have lv1 := lv_small n n4 i (by omega)
    have lv2 := lv_small n n4 (i + 1) (by omega)
    have lvs := lv_succ n i
    have tk : turnsK n (i + 1) = longerF (turnsK n i) n := rfl
    rw [lvs, tk]
    rw [lvs, tk, List.length_append] at lv2
    generalize turnsK n i = L at b1 b2 lv2
    generalize lvF n i = V at lv1 lv2
    refine ⟨_, [some (ti n), some (.fz (.lst ((longerF L n).map dis))), some (.fz (.lst ((V ++ longerF L n).map dis))), some (ti (0 + (i : Int))), some (.fz (.lst ((longerF L n).map dis))), none], rfl, ?_, [3, 4], rfl⟩
    refine rns_cons (rn_set 4 (Ev.s (ev_lst eva_nil (Nat.zero_le _))) (fun _ => sc__law_lists.nd)) ?_
    refine rns_cons (rn_for (EvI.s (evi_list (ev_nm 1 rfl) rfl)) (evg_nm 5 (fun _ => sc__law_lists.nd)) (fun j => [some (ti n), some (.fz (.lst (L.map dis))), some (.fz (.lst (V.map dis))), some (ti (0 + (i : Int))), some (tLL (longerF (L.take j) n)), none]) rfl (fun _ => rfl) (fun j d hd => ?_)) ?_
    · obtain ⟨l, hl, rfl⟩ := map_get hd
      have e : (longerF (L.take (j + 1)) n) = longerF (L.take j) n ++ ((List.range n).filter fun k => !l.contains (0 + ((k : Nat) : Int))).map fun k => l ++ [0 + ((k : Nat) : Int)] := by
        rw [take_get hl]
        unfold longerF
        rw [List.flatMap_append]
        simp
      have hlen : (longerF (L.take (j + 1)) n).length ≤ 1000 := by
        refine Nat.le_trans (longerF_len _ _) (Nat.le_trans (Nat.mul_le_mul_right n ?_) b1)
        rw [List.length_take]; exact Nat.min_le_right ..
      have ll := b2 l (List.mem_of_getElem? hl)
      refine ⟨_, _, rfl, rns_one (rn_extend 4 rfl (Ev.s (ev_lcf (own := ["_law_number"]) (fr := [5]) (List.range n) (fun k => di (0 + ((k : Nat) : Int))) (fun k => !l.contains (0 + ((k : Nat) : Int))) (fun k => .ow ((l.map di ++ [di (0 + ((k : Nat) : Int))]).map .fz)) (fun i => lcs ⟨rfl, rfl, by decide +kernel, by decide +kernel, by decide +kernel, by decide +kernel⟩) (EvI.to (evi_range1 T.b_range (ev_nm 0 rfl) ⟨by omega, by omega⟩) (by rw [Int.toNat_natCast])) (evg_nm 0 (fun _ => by show List.Nodup (["_law_number", "_law_row"] : List Str); decide)) (by decide) (by rw [List.length_range]; omega) (fun x hx => ⟨_, rfl, by exact el_one (et_notin (ev_nm 0 rfl) (ev_nm 1 rfl) rfl (by with_unfolding_all rfl)), fun _ => by
          exact ev_cat (ev_nm 1 rfl) (ev_lst (eva_cons (ev_nm 0 rfl) eva_nil) (by show 1 ≤ sizeLine; decide)) rfl rfl (by show (l.map di).length + 1 ≤ sizeLine; rw [List.length_map]; omega)⟩) (fun dd => by cases dd <;> rfl))) ?_), [5], ?_⟩
      · rw [List.length_map, List.length_map]
        have := congrArg List.length e
        rw [List.length_append, List.length_map] at this
        omega
      · have eT : tLL (longerF (L.take (j + 1)) n) = .ow (List.map tL (longerF (L.take j) n) ++ List.map (fun k => Tr.ow (List.map Tr.fz (List.map di l ++ [di (0 + ((k : Nat) : Int))]))) (List.filter (fun k => !l.contains (0 + ((k : Nat) : Int))) (List.range n))) := by
          rw [e]
          unfold tLL
          rw [List.map_append, List.map_map]
          congr 2
          refine List.map_congr_left fun k _ => ?_
          show Tr.ow _ = Tr.ow _
          rw [List.map_append, List.map_append, List.map_map]
          rfl
        show [_, _, _, _, some _, _] = [_, _, _, _, some _, _]
        rw [eT]
    · rw [List.length_map, List.take_length]
      refine rns_freezeTo (d := .lst ((longerF L n).map dis)) 4 rfl (er_tLL _) ?_
      refine rns_cons (rn_set 1 (Ev.s (ev_nm 4 rfl)) (fun _ => sc__law_lists.nd)) ?_
      refine rns_one (rn_set 2 (Ev.s (Ev.as (d := .lst ((V ++ longerF L n).map dis)) (ev_cat (ev_nm 2 rfl) (ev_nm 1 rfl) rfl rfl (by rw [List.length_map, List.length_map]; omega)) (by rw [er_fzs, List.map_append]))) (fun _ => sc__law_lists.nd))
  · rw [rl]
    exact rns_one (rn_ret (Ev.s (ev_nm 2 rfl)))
def uS (W : Int) (tops : List Int) (s : Int × Int) (x : Int) : Int × Int := (s.1 * (fW W (topAt tops x)).2 + (fW W (topAt tops x)).1 * s.2, s.2 * (fW W (topAt tops x)).2)
def uP (W : Int) (tops full : List Int) (k : Nat) : Int × Int := (full.take k).foldl (uS W tops) (0, 1)
theorem uP_succ {W : Int} {tops full : List Int} {k : Nat} {x : Int} (h : full[k]? = some x) : uP W tops full (k + 1) = uS W tops (uP W tops full k) x := by
  unfold uP
  rw [take_get h, List.foldl_append]; rfl
structure UOk (W S : Int) (k : Nat) (p : Int × Int) : Prop where
  b0 : 0 < p.2
  b1 : p.2 ≤ ((2 ^ (70 * k) : Nat) : Int)
  t0 : 0 ≤ p.1
  t1 : p.1 ≤ k * p.2
  e : p.1 * W = S * p.2
theorem uP_ok {W : Int} {n : Nat} {tops : List Int} (h : RowOk W n tops) (full : List Int) : ∀ k, k ≤ full.length → UOk W (preS tops full k) k (uP W tops full k)
  | 0, _ => ⟨by show (0 : Int) < 1; decide, by show (1 : Int) ≤ ((2 ^ 0 : Nat) : Int); decide, by show (0 : Int) ≤ 0; decide, by show (0 : Int) ≤ ((0 : Nat) : Int) * 1; decide, by show (0 : Int) * W = 0 * 1; rw [Int.zero_mul]; rfl⟩
  | k + 1, hk => by
    obtain ⟨x, hx⟩ : ∃ x, full[k]? = some x := ⟨_, List.getElem?_eq_getElem (by omega)⟩
    obtain ⟨b0, b1, t0, t1, e⟩ := uP_ok h full k (by omega)
    rw [uP_succ hx, preS_succ hx]
    obtain ⟨x0, x1⟩ := topAt_ok h x
    have w0 := h.w0
    have w1 := h.w1
    have q0 := fW_pos (s := topAt tops x) w0
    have q1 := fW_le (s := topAt tops x) w0
    have qe := fW_cross (s := topAt tops x) w0
    have p0 := fW_nonneg (s := topAt tops x) w0 x0
    unfold uS
    generalize uP W tops full k = u at b0 b1 t0 t1 e
    generalize fW W (topAt tops x) = f at q0 q1 qe p0
    generalize topAt tops x = t at x0 x1 qe
    generalize preS tops full k = S at e
    obtain ⟨T, B⟩ := u
    obtain ⟨p, q⟩ := f
    dsimp only at b0 b1 t0 t1 e q0 q1 qe p0 ⊢
    have pq : p ≤ q := by
      have : p * W ≤ q * W := by
        rw [qe, Int.mul_comm q W]
        exact Int.mul_le_mul_of_nonneg_right x1 (by omega)
      exact Int.le_of_mul_le_mul_right this w0
    refine ⟨Int.mul_pos b0 q0, ?_, ?_, ?_, ?_⟩
    · have m1 : B * q ≤ ((2 ^ (70 * k) : Nat) : Int) * q := Int.mul_le_mul_of_nonneg_right b1 (by omega)
      have m2 : ((2 ^ (70 * k) : Nat) : Int) * q ≤ ((2 ^ (70 * k) : Nat) : Int) * (2 ^ 70 : Int) := Int.mul_le_mul_of_nonneg_left (by omega) (by omega)
      have m3 : ((2 ^ (70 * (k + 1)) : Nat) : Int) = ((2 ^ (70 * k) : Nat) : Int) * (2 ^ 70 : Int) := by
        rw [show 70 * (k + 1) = 70 * k + 70 by omega, Nat.pow_add, Int.natCast_mul]; rfl
      omega
    · have := Int.mul_nonneg t0 (Int.le_of_lt q0)
      have := Int.mul_nonneg p0 (Int.le_of_lt b0)
      omega
    · show T * q + p * B ≤ (((k + 1 : Nat)) : Int) * (B * q)
      have m1 : T * q ≤ (k * B) * q := Int.mul_le_mul_of_nonneg_right t1 (by omega)
      have m2 : p * B ≤ q * B := Int.mul_le_mul_of_nonneg_right pq (by omega)
      have m3 : (((k + 1 : Nat)) : Int) * (B * q) = (k * B) * q + q * B := by
        rw [Int.natCast_add, Int.add_mul, Int.mul_assoc, Int.mul_comm q B]; show _ + 1 * _ = _; rw [Int.one_mul]
      omega
    · calc (T * q + p * B) * W = (T * W) * q + (p * W) * B := by rw [Int.add_mul, Int.mul_right_comm T q W, Int.mul_right_comm p B W]
        _ = (S * B) * q + (t * q) * B := by rw [e, qe]
        _ = (S + t) * (B * q) := by rw [Int.add_mul, Int.mul_assoc S B q, Int.mul_assoc t q B, Int.mul_comm q B]
theorem UOk.big {W S : Int} {k : Nat} {p : Int × Int} (h : UOk W S k p) (hk : k ≤ 13) : p.1.natAbs < 2 ^ 8000 ∧ p.2.natAbs < 2 ^ 8000 := by
  obtain ⟨b0, b1, t0, t1, _⟩ := h
  have pk : 2 ^ (70 * k) ≤ 2 ^ 910 := Nat.pow_le_pow_right (by decide) (by omega)
  have c1 : p.2.natAbs ≤ 2 ^ 910 := by omega
  have c2 : (k : Int) * p.2 ≤ 13 * p.2 := Int.mul_le_mul_of_nonneg_right (by omega) (by omega)
  have c3 : p.1.natAbs ≤ 13 * 2 ^ 910 := by omega
  exact ⟨Nat.lt_of_le_of_lt c3 (by decide +kernel), Nat.lt_of_le_of_lt c1 (by decide +kernel)⟩
theorem U_le {W S1 S2 : Int} {k1 k2 : Nat} {p q : Int × Int} (w0 : 0 < W) (h1 : UOk W S1 k1 p) (h2 : UOk W S2 k2 q) : (q.1 * p.2 ≤ p.1 * q.2 ↔ S2 ≤ S1) ∧ (q.1 * p.2 < p.1 * q.2 ↔ S2 < S1) := by
  have e1 : (q.1 * p.2) * W = S2 * (q.2 * p.2) := by rw [Int.mul_right_comm, h2.e, Int.mul_assoc]
  have e2 : (p.1 * q.2) * W = S1 * (q.2 * p.2) := by rw [Int.mul_right_comm, h1.e, Int.mul_assoc, Int.mul_comm p.2]
  have b := Int.mul_pos h2.b0 h1.b0
  have key : ∀ x y a c w : Int, 0 < w → 0 < W → x * W = a * w → y * W = c * w → (x < y → a < c) := fun x y a c w hw hW ex ey h => by
    refine Classical.byContradiction fun z => ?_
    have : c * w ≤ a * w := Int.mul_le_mul_of_nonneg_right (by omega) (by omega)
    have : x * W < y * W := Int.mul_lt_mul_of_pos_right h hW
    omega
  have kb : ∀ x y a c w : Int, 0 < w → 0 < W → x * W = a * w → y * W = c * w → (a < c → x < y) := fun x y a c w hw hW ex ey h => by
    refine Classical.byContradiction fun z => ?_
    have : y * W ≤ x * W := Int.mul_le_mul_of_nonneg_right (by omega) (by omega)
    have : a * w < c * w := Int.mul_lt_mul_of_pos_right h hw
    omega
  have l1 : q.1 * p.2 < p.1 * q.2 ↔ S2 < S1 := ⟨key _ _ _ _ _ b w0 e1 e2, kb _ _ _ _ _ b w0 e1 e2⟩
  have l2 : p.1 * q.2 < q.1 * p.2 ↔ S1 < S2 := ⟨key _ _ _ _ _ b w0 e2 e1, kb _ _ _ _ _ b w0 e2 e1⟩
  refine ⟨⟨fun h => ?_, fun h => ?_⟩, l1⟩
  · refine Classical.byContradiction fun z => ?_
    have := l2.mpr (by omega)
    omega
  · refine Classical.byContradiction fun z => ?_
    have := l2.mp (by omega)
    omega
def uL (W : Int) (tops full : List Int) (k : Nat) : List (Int × Int) := (List.range k).map fun j => uP W tops full (j + 1)
theorem uL_succ (W : Int) (tops full : List Int) (k : Nat) : uL W tops full (k + 1) = uL W tops full k ++ [uP W tops full (k + 1)] := by
  unfold uL
  rw [List.range_succ, List.map_append]; rfl
theorem uL_len (W : Int) (tops full : List Int) (k : Nat) : (uL W tops full k).length = k := by unfold uL; rw [List.length_map, List.length_range]
abbrev nSU : List Str := ["_law_table_here", "_law_asker", "_law_row", "_law_found", "_law_top", "_law_bottom", "_law_number", "_law_one"]
abbrev s__law_sums : Stmt := top 59
theorem sc__law_sums : FnScope nSU ["_law_table_here", "_law_asker", "_law_row"] (defScope s__law_sums) := ⟨rfl, rfl, rfl, by decide +kernel, rfl, by decide +kernel, by decide +kernel⟩
def rLSums (dd : List Dv) (t : Tr) : Prop := ∃ (c : List Int) (os : List (List Int)) (a : Int) (o : List Int) (W : Int) (tops : List Int), TabOk c os ∧ atI os a = some o ∧ o ∈ os ∧ RowOk W c.length tops ∧ dd = [tabD c os, di a, dRow W tops] ∧ t = .ow ((uL W tops (fullF c.length o) (fullF c.length o).length).map tF)
theorem ok__law_sums {f f1 : Addr} {fd fd1 : FuncData} {k : Nat} (F : Fun K "_law_sums" "_law_sums" s__law_sums f fd) (T : Txt mg) (K__law_full : Kn P w K mg base CX0 (k + 1) "_law_full" f1 fd1 ["_law_table_here", "_law_asker"] (spT K rFull)) : FnOk P w K mg base CX0 (k + 2) f fd ["_law_table_here", "_law_asker", "_law_row"] (spT K rLSums) := by
  refine fn_ok F.d sc__law_sums (fun dd t h => by obtain ⟨_, _, _, _, _, _, _, _, _, _, rfl, _⟩ := h; rfl) fun dd t h => ?_
  obtain ⟨c, os, a, o, W, tops, ok, oat, om, rok, rfl, rfl⟩ := h
  refine ⟨_, .inl rfl, ?_⟩
  have big : 1000 < sizeLine := by decide
  have c6 := ok.c6
  have ol := ok.olen om
  have fl := full_len (n := c.length) o
  have fin := full_in (ok.rng o om)
  have w0 := rok.w0
  refine rns_cons (rn_set 3 (EvS.to (t' := .ow ((uL W tops (fullF c.length o) 0).map tF)) (Ev.s (ev_lst eva_nil (Nat.zero_le _))) rfl) (fun _ => sc__law_sums.nd)) ?_
  refine rns_cons (rn_set 4 (EvS.to (t' := ti (uP W tops (fullF c.length o) 0).1) (Ev.s ev_int) rfl) (fun _ => sc__law_sums.nd)) ?_
  refine rns_cons (rn_set 5 (EvS.to (t' := ti (uP W tops (fullF c.length o) 0).2) (Ev.s ev_int) rfl) (fun _ => sc__law_sums.nd)) ?_
  refine rns_cons (rn_for (EvI.s (evi_list (ev_call K__law_full (Nat.le_refl _) (eva_cons (ev_nm 0 rfl) (eva_cons (ev_nm 1 rfl) eva_nil)) ⟨c, os, a, o, by omega, by omega, oat, rfl, rfl⟩) (er_tInts _))) (evg_nm 6 (fun _ => sc__law_sums.nd)) (fun j => [some (.fz (tabD c os)), some (ti a), some (.fz (dRow W tops)), some (.ow ((uL W tops (fullF c.length o) j).map tF)), some (ti (uP W tops (fullF c.length o) j).1), some (ti (uP W tops (fullF c.length o) j).2), none, none]) rfl (fun _ => rfl) (fun j d hd => ?_)) ?_
  · obtain ⟨x, hx, rfl⟩ := map_get hd
    have jl := (List.getElem?_eq_some_iff.mp hx).1
    obtain ⟨x0, x1⟩ := fin x (List.mem_of_getElem? hx)
    have ub := (uP_ok rok (fullF c.length o) j (by omega)).big (by omega)
    obtain ⟨t0, t1⟩ := topAt_ok rok x
    have sm : SmallF (fW W (topAt tops x)) := fW_small (m := 1) w0 rok.w1 t0 (by omega) (by decide)
    have rat := rowAt rok x0 x1
    have ul := uL_len W tops (fullF c.length o) j
    rw [uL_succ, uP_succ hx]
    generalize uL W tops (fullF c.length o) j = L at ul
    generalize uP W tops (fullF c.length o) j = u at ub
    have at0 : ∀ r : Int × Int, atI [di r.1, di r.2] 0 = some (di r.1) := fun _ => rfl
    have at1 : ∀ r : Int × Int, atI [di r.1, di r.2] 1 = some (di r.2) := fun _ => rfl
    unfold uS
    generalize fW W (topAt tops x) = f at sm rat
    obtain ⟨p1, p2, p3⟩ := sm
    refine ⟨_, [some (.fz (tabD c os)), some (ti a), some (.fz (dRow W tops)), some (.ow ((L ++ [(u.1 * f.2 + f.1 * u.2, u.2 * f.2)]).map tF)), some (ti (u.1 * f.2 + f.1 * u.2)), some (ti (u.2 * f.2)), some (ti x), some (tF f)], rfl, ?_, [6, 7], rfl⟩
    refine rns_cons (rn_set 7 (Ev.s (ev_ix (ev_nm 2 rfl) (ev_nm 6 rfl) rfl rat)) (fun _ => sc__law_sums.nd)) ?_
    refine rns_cons (rn_set 4 (Ev.s (ev_add (ev_mul (ev_nm 4 rfl) (ev_ixT (ev_nm 7 rfl) ev_int rfl (at1 f)) ⟨ub.1, lt_big p2 (by decide)⟩) (ev_mul (ev_ixT (ev_nm 7 rfl) ev_int rfl (at0 f)) (ev_nm 5 rfl) ⟨lt_big p3 (by decide), ub.2⟩))) (fun _ => sc__law_sums.nd)) ?_
    refine rns_cons (rn_set 5 (Ev.s (ev_mul (ev_nm 5 rfl) (ev_ixT (ev_nm 7 rfl) ev_int rfl (at1 f)) ⟨ub.2, lt_big p2 (by decide)⟩)) (fun _ => sc__law_sums.nd)) ?_
    refine rns_one (Rn.to (rn_append 3 rfl (Ev.s (ev_tupD (dd := [di (u.1 * f.2 + f.1 * u.2), di (u.2 * f.2)]) (eva_cons (ev_nm 4 rfl) (eva_cons (ev_nm 5 rfl) eva_nil)) rfl (by show 2 ≤ sizeLine; decide))) (by rw [List.length_map]; omega)) ?_)
    rw [List.map_append]; rfl
  · rw [List.length_map]
    exact rns_one (rn_retO 3 rfl)
theorem er_uL (l : List (Int × Int)) : er (.ow (l.map tF)) = .lst (l.map dF) := by
  rw [er_ow_map]; rfl
theorem zip_u (W : Int) (t1 t2 full : List Int) (m : Nat) : zipD ((uL W t1 full m).map dF) ((uL W t2 full m).map dF) = (List.range m).map fun j => .tup [dF (uP W t1 full (j + 1)), dF (uP W t2 full (j + 1))] := by
  unfold uL
  rw [List.map_map, List.map_map]
  have gen : ∀ (f g : Nat → Dv) (l : List Nat), zipD (l.map f) (l.map g) = l.map fun a => .tup [f a, g a] := fun f g l => by
    induction l with
    | nil => rfl
    | cons a l ih =>
      show Dv.tup [f a, g a] :: zipD (l.map f) (l.map g) = _
      rw [ih]; rfl
  exact gen _ _ _
end
end K48
namespace K48
open PySem L2 Fra
section
variable {P : Program} {w : World} {K : PySem.W.Frag} {mg : Str → Option Value} {base : Heap}
abbrev s__law_no_less : Stmt := top 60
theorem sc__law_no_less : FnScope ["_law_some", "_law_others"] ["_law_some", "_law_others"] (defScope s__law_no_less) := ⟨rfl, rfl, rfl, by decide +kernel, rfl, by decide +kernel, by decide +kernel⟩
def rNoLess (dd : List Dv) (t : Tr) : Prop := ∃ (W : Int) (n : Nat) (t1 t2 full : List Int), full.length ≤ 13 ∧ RowOk W n t1 ∧ RowOk W n t2 ∧ dd = [.lst ((uL W t1 full full.length).map dF), .lst ((uL W t2 full full.length).map dF)] ∧ t = tb (goodF t1 t2 full)
theorem ok__law_no_less {f : Addr} {fd : FuncData} {k : Nat} (F : Fun K "_law_no_less" "_law_no_less" s__law_no_less f fd) (T : Txt mg) : FnOk P w K mg base CX0 (k + 1) f fd ["_law_some", "_law_others"] (spT K rNoLess) := by
  refine fn_ok F.d sc__law_no_less (fun dd t h => by obtain ⟨_, _, _, _, _, _, _, _, rfl, _⟩ := h; rfl) fun dd t h => ?_
  obtain ⟨W, n, t1, t2, full, hf, k1, k2, rfl, rfl⟩ := h
  refine ⟨_, .inl rfl, ?_⟩
  have big : 1000 < sizeLine := by decide
  have at0 : ∀ r : Int × Int, atI [di r.1, di r.2] 0 = some (di r.1) := fun _ => rfl
  have at1 : ∀ r : Int × Int, atI [di r.1, di r.2] 1 = some (di r.2) := fun _ => rfl
  have e : (((List.range full.length).map fun j => decide (preS t2 full (j + 1) ≤ preS t1 full (j + 1))).all id) = goodF t1 t2 full := by
    rw [Bool.eq_iff_iff, good_iff, List.all_eq_true]
    constructor
    · intro h j hj
      exact of_decide_eq_true (h _ (List.mem_map.mpr ⟨j, List.mem_range.mpr hj, rfl⟩))
    · intro h b hb
      obtain ⟨j, hj, rfl⟩ := List.mem_map.mp hb
      exact decide_eq_true (h j (List.mem_range.mp hj))
  refine rns_one (rn_ret (EvS.to (Ev.s (ev_all (bs := (List.range full.length).map fun j => decide (preS t2 full (j + 1) ≤ preS t1 full (j + 1))) T.b_all (ev_lcm (own := ["_law_one", "_law_other"]) (fr := []) (List.range full.length) (fun j => .tup [dF (uP W t1 full (j + 1)), dF (uP W t2 full (j + 1))]) (fun j => tb (decide (preS t2 full (j + 1) ≤ preS t1 full (j + 1)))) (fun i => lcs ⟨rfl, rfl, by decide +kernel, by decide +kernel, by decide +kernel, by decide +kernel⟩) (EvI.to (evi_zip T.b_zip (ev_nm 0 rfl) (ev_nm 1 rfl) rfl rfl) (zip_u W t1 t2 full full.length)) (evg_t2 0 1 (fun _ => by show List.Nodup (["_law_one", "_law_other"] : List Str); decide)) (by decide) (by rw [List.length_range]; omega) (fun j hj => ⟨_, rfl, by
      have hj' := List.mem_range.mp hj
      have u1 := uP_ok k1 full (j + 1) (by omega)
      have u2 := uP_ok k2 full (j + 1) (by omega)
      have b1 := u1.big (by omega)
      have b2 := u2.big (by omega)
      exact Ev.to (ev_ge (ev_mul (ev_ixT (ev_nm 0 rfl) ev_int rfl (at0 _)) (ev_ixT (ev_nm 1 rfl) ev_int rfl (at1 _)) ⟨b1.1, b2.2⟩) (ev_mul (ev_ixT (ev_nm 1 rfl) ev_int rfl (at0 _)) (ev_ixT (ev_nm 0 rfl) ev_int rfl (at1 _)) ⟨b2.1, b1.2⟩)) (by rw [decide_eq_decide.mpr (U_le k1.w0 u1 u2).1])⟩) (fun dd => by rcases dd with _ | ⟨_, _ | ⟨_, _⟩⟩ <;> rfl)) (er_mapB _ _))) (by rw [e])))
abbrev nWO : List Str := ["_law_table_here", "_law_asker", "_law_first", "_law_other", "_law_some", "_law_others"]
abbrev s__law_word : Stmt := top 61
theorem sc__law_word : FnScope nWO ["_law_table_here", "_law_asker", "_law_first", "_law_other"] (defScope s__law_word) := ⟨rfl, rfl, rfl, by decide +kernel, rfl, by decide +kernel, by decide +kernel⟩
def rLWord (dd : List Dv) (t : Tr) : Prop := ∃ (c : List Int) (os : List (List Int)) (a : Int) (o : List Int) (W : Int) (t1 t2 : List Int), TabOk c os ∧ atI os a = some o ∧ o ∈ os ∧ RowOk W c.length t1 ∧ RowOk W c.length t2 ∧ dd = [tabD c os, di a, dRow W t1, dRow W t2] ∧ t = tx (wordF W t1 t2 (fullF c.length o))
theorem ok__law_word {f f1 f2 : Addr} {fd fd1 fd2 : FuncData} {k : Nat} (F : Fun K "_law_word" "_law_word" s__law_word f fd) (T : Txt mg) (K__law_sums : Kn P w K mg base CX0 (k + 2) "_law_sums" f1 fd1 ["_law_table_here", "_law_asker", "_law_row"] (spT K rLSums)) (K__law_no_less : Kn P w K mg base CX0 (k + 1) "_law_no_less" f2 fd2 ["_law_some", "_law_others"] (spT K rNoLess)) : FnOk P w K mg base CX0 (k + 3) f fd ["_law_table_here", "_law_asker", "_law_first", "_law_other"] (spT K rLWord) := by
  refine fn_ok F.d sc__law_word (fun dd t h => by obtain ⟨_, _, _, _, _, _, _, _, _, _, _, _, rfl, _⟩ := h; rfl) fun dd t h => ?_
  obtain ⟨c, os, a, o, W, t1, t2, ok, oat, om, k1, k2, rfl, rfl⟩ := h
  refine ⟨_, .inl rfl, ?_⟩
  have c6 := ok.c6
  have ol := ok.olen om
  have fl := full_len (n := c.length) o
  unfold wordF
  by_cases h0 : eqD (dRow W t2) (dRow W t1) = true
  · rw [if_pos h0]
    exact rns_ret (rn_ifT (Et.s (et_eqS (ev_nm 3 rfl) (ev_nm 2 rfl) (.inl ⟨_, _, rfl, rfl⟩) (dp_row W t2))) h0 (rns_one (rn_ret (Ev.s ev_str))))
  · rw [if_neg h0]
    refine rns_cons (rn_skip (Et.s (et_eqS (ev_nm 3 rfl) (ev_nm 2 rfl) (.inl ⟨_, _, rfl, rfl⟩) (dp_row W t2))) (by show eqD (dRow W t2) (dRow W t1) = false; simpa using h0)) ?_
    refine rns_cons (rn_set 4 (Ev.s (Ev.as (d := .lst ((uL W t1 (fullF c.length o) (fullF c.length o).length).map dF)) (ev_call K__law_sums (Nat.le_refl _) (eva_cons (ev_nm 0 rfl) (eva_cons (ev_nm 1 rfl) (eva_cons (ev_nm 2 rfl) eva_nil))) ⟨c, os, a, o, W, t1, ok, oat, om, k1, rfl, rfl⟩) (er_uL _))) (fun _ => sc__law_word.nd)) ?_
    refine rns_cons (rn_set 5 (Ev.s (Ev.as (d := .lst ((uL W t2 (fullF c.length o) (fullF c.length o).length).map dF)) (ev_call K__law_sums (Nat.le_refl _) (eva_cons (ev_nm 0 rfl) (eva_cons (ev_nm 1 rfl) (eva_cons (ev_nm 3 rfl) eva_nil))) ⟨c, os, a, o, W, t2, ok, oat, om, k2, rfl, rfl⟩) (er_uL _))) (fun _ => sc__law_word.nd)) ?_
    generalize fullF c.length o = full at fl
    by_cases h1 : goodF t1 t2 full = true
    · rw [if_pos h1]
      exact rns_ret (rn_ifT (Et.s (et_val (ev_call K__law_no_less (by show k + 1 ≤ k + 2; omega) (eva_cons (ev_nm 4 rfl) (eva_cons (ev_nm 5 rfl) eva_nil)) ⟨W, c.length, t1, t2, full, by omega, k1, k2, rfl, rfl⟩))) h1 (rns_one (rn_ret (Ev.s ev_str))))
    · rw [if_neg h1]
      refine rns_cons (rn_skip (Et.s (et_val (ev_call K__law_no_less (by show k + 1 ≤ k + 2; omega) (eva_cons (ev_nm 4 rfl) (eva_cons (ev_nm 5 rfl) eva_nil)) ⟨W, c.length, t1, t2, full, by omega, k1, k2, rfl, rfl⟩))) (by simpa using h1)) ?_
      have at_ : atI [ds "other", ds "better"] (if goodF t2 t1 full = true then 1 else 0) = some (ds (if goodF t2 t1 full = true then "better" else "other")) := by
        cases goodF t2 t1 full <;> rfl
      exact rns_one (rn_ret (Ev.s (ev_ix (xs := [ds "other", ds "better"]) (ev_lst (eva_cons ev_str (eva_cons ev_str eva_nil)) (by show 2 ≤ sizeLine; decide)) (ev_intb T.b_int (ev_call K__law_no_less (by show k + 1 ≤ k + 2; omega) (eva_cons (ev_nm 5 rfl) (eva_cons (ev_nm 4 rfl) eva_nil)) ⟨W, c.length, t2, t1, full, by omega, k2, k1, rfl, rfl⟩)) rfl at_)))
end
end K48
namespace K48
open PySem L2 Fra
section
variable {P : Program} {w : World} {K : PySem.W.Frag} {mg : Str → Option Value} {base : Heap}
abbrev nDU : List Str := ["_law_table_here", "_law_asker", "_law_first", "_law_rows", "_law_order_here", "_law_orders", "_law_other"]
abbrev s__law_due : Stmt := top 63
theorem sc__law_due : FnScope nDU ["_law_table_here", "_law_asker"] (defScope s__law_due) := ⟨rfl, rfl, rfl, by decide +kernel, rfl, by decide +kernel, by decide +kernel⟩
theorem lv_ok : ∀ n, n ≤ 4 → ∀ o ∈ lvF n n, o.Nodup ∧ ∀ x ∈ o, 0 ≤ x ∧ x < (n : Int) := by
  have : ∀ n : Fin 5, ((lvF n.val n.val).all fun o => decide o.Nodup && o.all fun x => decide (0 ≤ x ∧ x < (n.val : Int))) = true := by decide +kernel
  intro n hn o ho
  have := List.all_eq_true.mp (this ⟨n, by omega⟩) o ho
  rw [Bool.and_eq_true, decide_eq_true_eq, List.all_eq_true] at this
  exact ⟨this.1, fun x hx => of_decide_eq_true (this.2 x hx)⟩
theorem set_ok {c : List Int} {os : List (List Int)} (ok : TabOk c os) {a : Nat} {o : List Int} (nd : o.Nodup) (rng : ∀ x ∈ o, 0 ≤ x ∧ x < c.length) : TabOk c (os.set a o) := by
  refine ⟨ok.c6, ok.cnt, by rw [List.length_set]; exact ok.o1, by rw [List.length_set]; exact ok.o6, fun o' h => ?_, fun o' h => ?_⟩
  · rcases List.mem_or_eq_of_mem_set h with z | rfl
    · exact ok.nd o' z
    · exact nd
  · rcases List.mem_or_eq_of_mem_set h with z | rfl
    · exact ok.rng o' z
    · exact rng
def wdF (c : List Int) (os : List (List Int)) (a : Int) (o : List Int) : Str := wordF WM (mR c os a) (mR c (os.set a.toNat o) a) (fullF c.length (os.getD a.toNat []))
abbrev dDue (c : List Int) (os : List (List Int)) (a : Int) (L : List (List Int)) : Dv := .lst (L.map fun o => .tup [dis o, ds (wdF c os a o)])
def rDue (dd : List Dv) (t : Tr) : Prop := ∃ (c : List Int) (os : List (List Int)) (a : Int), TabOk c os ∧ c.length ≤ 4 ∧ 0 ≤ a ∧ a < os.length ∧ dd = [tabD c os, di a] ∧ t = .fz (dDue c os a (lvF c.length c.length))
theorem er_rows2 (os : List (List Int)) (n : Nat) (o : List Int) : er (.ow ((os.map tInts).set n (.fz (dis o)))) = .lst ((os.set n o).map dis) := by
  have e : ∀ (l : List (List Int)) (n : Nat), ers ((l.map tInts).set n (.fz (dis o))) = (l.set n o).map dis := by
    intro l
    induction l with
    | nil => intro n; rfl
    | cons x l ih =>
      intro n
      cases n with
      | zero =>
        show dis o :: ers (l.map tInts) = _
        rw [ers_map, List.map_map]
        show _ = dis o :: l.map dis
        congr 1
        exact List.map_congr_left fun x _ => er_tInts x
      | succ n =>
        show er (tInts x) :: ers ((l.map tInts).set n _) = dis x :: (l.set n o).map dis
        rw [ih, er_tInts]
  show Dv.lst _ = Dv.lst _
  rw [e]
theorem ok__law_due {f f1 f2 f3 : Addr} {fd fd1 fd2 fd3 : FuncData} {k : Nat} (F : Fun K "_law_due" "_law_due" s__law_due f fd) (T : Txt mg) (K_meal : Kn P w K mg base CX0 (k + 6) "meal" f1 fd1 ["table"] (spT K rMeal)) (K__law_lists : Kn P w K mg base CX0 (k + 1) "_law_lists" f2 fd2 ["_law_many"] (spT K rLists)) (K__law_word : Kn P w K mg base CX0 (k + 3) "_law_word" f3 fd3 ["_law_table_here", "_law_asker", "_law_first", "_law_other"] (spT K rLWord)) : FnOk P w K mg base CX0 (k + 7) f fd ["_law_table_here", "_law_asker"] (spT K rDue) := by
  refine fn_ok F.d sc__law_due (fun dd t h => by obtain ⟨_, _, _, _, _, _, _, rfl, _⟩ := h; rfl) fun dd t h => ?_
  obtain ⟨c, os, a, ok, c4, a0, a1, rfl, rfl⟩ := h
  refine ⟨_, .inl rfl, ?_⟩
  have big : 1000 < sizeLine := by decide
  have o6 := ok.o6
  have lvl := lv_small c.length c4 c.length (Nat.le_refl _)
  have lvo := lv_ok c.length c4
  obtain ⟨o1, ho1⟩ : ∃ o1, os[a.toNat]? = some o1 := ⟨_, List.getElem?_eq_getElem (by omega)⟩
  have om1 := List.mem_of_getElem? ho1
  have og : os.getD a.toNat [] = o1 := by rw [List.getD_eq_getElem?_getD, ho1]; rfl
  have oat : atI os a = some o1 := by
    rw [show a = ((a.toNat : Nat) : Int) by omega]
    exact atI_nat ho1
  have k1 := mR_row ok a
  refine rns_cons (rn_set 2 (Ev.s (ev_ix (xs := (numsF os.length).map fun b => dRow WM (mR c os b)) (Ev.to (ev_ixT (d := dShares c.length (stepsF c os) os.length) (ev_call K_meal (Nat.le_refl _) (eva_cons (ev_nm 0 rfl) eva_nil) ⟨c, os, ok, full_ok ok, rfl, rfl⟩) ev_int rfl rfl) (by rw [shares_rows])) (ev_nm 1 rfl) rfl (nums_key a0 a1 _))) (fun _ => sc__law_due.nd)) ?_
  refine rns_cons (rn_set 3 (EvS.to (t' := .ow (((lvF c.length c.length).take 0).map fun o => .fz (.tup [dis o, ds (wdF c os a o)]))) (Ev.s (ev_lst eva_nil (Nat.zero_le _))) rfl) (fun _ => sc__law_due.nd)) ?_
  refine rns_cons (rn_for (its := (lvF c.length c.length).map dis) (EvI.s (evi_list (ev_call K__law_lists (by show k + 1 ≤ k + 6; omega) (eva_cons (Ev.to (t' := ti (c.length : Nat)) (ev_len T.b_len (ev_ixT (ev_nm 0 rfl) ev_int rfl (x0_tab c os)) (.inl rfl)) (by rw [List.length_map])) eva_nil) ⟨c.length, c4, rfl, rfl⟩) rfl)) (evg_nm 4 (fun _ => sc__law_due.nd)) (fun j => [some (.fz (tabD c os)), some (ti a), some (.fz (dRow WM (mR c os a))), some (.ow (((lvF c.length c.length).take j).map fun o => .fz (.tup [dis o, ds (wdF c os a o)]))), none, none, none]) rfl (fun _ => rfl) (fun j d hd => ?_)) ?_
  · obtain ⟨o, ho, rfl⟩ := map_get hd
    obtain ⟨nd, rng⟩ := lvo o (List.mem_of_getElem? ho)
    have ok2 := set_ok ok (a := a.toNat) nd rng
    have l2 : (os.set a.toNat o).length = os.length := List.length_set
    have k2 := mR_row ok2 a
    have jl : ((lvF c.length c.length).take j).length ≤ 65 := by rw [List.length_take]; omega
    have ecs : Tr.ow ((c.map di).map Tr.fz) = tInts c := congrArg Tr.ow (ints_tr c)
    have ew : wdF c os a o = wordF WM (mR c os a) (mR c (os.set a.toNat o) a) (fullF c.length o1) := by unfold wdF; rw [og]
    refine ⟨_, [some (.fz (tabD c os)), some (ti a), some (.fz (dRow WM (mR c os a))), some (.ow (((lvF c.length c.length).take (j + 1)).map fun o => .fz (.tup [dis o, ds (wdF c os a o)]))), some (.fz (dis o)), some (.fz (.lst ((os.set a.toNat o).map dis))), some (.fz (dRow WM (mR c (os.set a.toNat o) a)))], rfl, ?_, [4, 5, 6], rfl⟩
    refine rns_cons (rn_lcG 5 (ElcP (elcm (own := ["_law_one"]) (fr := []) os dis tInts (evi_list (ev_ixT (ev_nm 0 rfl) ev_int rfl (x1_tab c os)) rfl) (evg_nm 0 (fun _ => by show List.Nodup (["_law_one"] : List Str); decide)) (by decide) (by omega) (fun o ho => ⟨_, rfl, by exact Ev.to (ev_list T.b_list (ev_nm 0 rfl) (.inl rfl)) (by rw [ints_tr])⟩) (fun dd => by cases dd <;> rfl)) (cl_tRows _)) (fun i => lcs ⟨rfl, rfl, by decide +kernel, by decide +kernel, by decide +kernel, by decide +kernel⟩) (fun _ => sc__law_due.nd)) ?_
    refine rns_cons (rn_ixset 5 (n := a) (m := a.toNat) (us := os.map tInts) (t := .fz (dis o)) rfl (Ev.s (ev_nm 1 rfl)) (by rw [List.length_map]; unfold ixN; rw [if_pos a0, if_pos (by omega)]) (Ev.s (ev_nm 4 rfl)) (hps := fun i => pg_sub (pv 5) (uE_ok i) set_list)) ?_
    refine rns_freezeTo (d := .lst ((os.set a.toNat o).map dis)) 5 rfl (er_rows2 _ _ _) ?_
    refine rns_cons (rn_set 6 (Ev.s (ev_ix (xs := (numsF (os.set a.toNat o).length).map fun b => dRow WM (mR c (os.set a.toNat o) b)) (Ev.to (ev_ixT (d := dShares c.length (stepsF c (os.set a.toNat o)) (os.set a.toNat o).length) (ev_call K_meal (Nat.le_refl _) (eva_cons (ev_tup (eva_cons (Ev.to (ev_list T.b_list (ev_ixT (ev_nm 0 rfl) ev_int rfl (x0_tab c os)) (.inl rfl)) ecs) (eva_cons (ev_nm 5 rfl) eva_nil)) (by show 2 ≤ sizeLine; decide)) eva_nil) ⟨c, os.set a.toNat o, ok2, full_ok ok2, by
      show [er (.tp [tInts c, .fz (.lst ((os.set a.toNat o).map dis))])] = [tabD c (os.set a.toNat o)]
      show [Dv.tup [er (tInts c), _]] = _
      rw [er_tInts]; rfl, rfl⟩) ev_int rfl rfl) (by rw [shares_rows])) (ev_nm 1 rfl) rfl (nums_key a0 (by rw [l2]; exact a1) _))) (fun _ => sc__law_due.nd)) ?_
    refine rns_one (Rn.to (rn_append 3 rfl (Ev.s (ev_tupD (dd := [dis o, ds (wdF c os a o)]) (eva_cons (Ev.as (d := dis o) (ev_list T.b_list (ev_nm 4 rfl) (.inl rfl)) (er_fzs _)) (eva_cons (Ev.to (t' := tx (wdF c os a o)) (ev_call K__law_word (by show k + 3 ≤ k + 6; omega) (eva_cons (ev_nm 0 rfl) (eva_cons (ev_nm 1 rfl) (eva_cons (ev_nm 2 rfl) (eva_cons (ev_nm 6 rfl) eva_nil)))) ⟨c, os, a, o1, WM, mR c os a, mR c (os.set a.toNat o) a, ok, oat, om1, k1, k2, rfl, rfl⟩) (by rw [ew])) eva_nil)) rfl (by show 2 ≤ sizeLine; decide))) (by rw [List.length_map]; omega)) ?_)
    rw [take_get ho, List.map_append]; rfl
  · rw [List.length_map, List.take_length]
    refine rns_freezeTo (d := dDue c os a (lvF c.length c.length)) 3 rfl (by rw [er_ow_map]; rfl) ?_
    exact rns_one (rn_ret (Ev.s (ev_nm 3 rfl)))
end
end K48
namespace K48
open PySem L2 Fra
section
variable {P : Program} {w : World} {K : PySem.W.Frag} {mg : Str → Option Value} {base : Heap}
abbrev nLI : List Str := ["table", "asker", "way", "orders", "first", "told", "order", "new"]
abbrev s_lies : Stmt := top 53
theorem sc_lies : FnScope nLI ["table", "asker", "way"] (defScope s_lies) := ⟨rfl, rfl, rfl, by decide +kernel, rfl, by decide +kernel, by decide +kernel⟩
abbrev stLI (i : Nat) : Stmt := (defBody s_lies).getD i (.Pass ⟨0, 0, 0, 0⟩)
theorem bmA {X : Cx} {K : PySem.W.Frag} {e : Expr} {t : TE} {ta : TA} (hK : X.K = K) (h : PE X e (tBM X.K "list" rAppend t ta)) : PE X e (tBM K "list" rAppend t ta) := hK ▸ h
theorem er_tab (cs : List Int) (os : List (List Int)) : er (.tp [tInts cs, tRows os]) = tabD cs os := by
  show Dv.tup [er _, er _] = _
  rw [er_tInts, er_tRows]; rfl
structure Tld (B H : Hp) (l b : Addr) (ps : List (Addr × List Int)) (wd : List Int → Str) (zs : List (Addr × Addr × List Int)) : Prop where
  la : H l = some (.lst (ps.map fun p => V.ref p.1))
  rows : ∀ p ∈ ps, H p.1 = some (.lst (p.2.map V.int))
  lb : H b = some (.lst (zs.map fun z => V.ref z.1))
  tup : ∀ z ∈ zs, H z.1 = some (.tup [.ref z.2.1, .str (wd z.2.2)])
  nd : (zs.map (·.1)).Nodup
  new : ∀ z ∈ zs, B z.1 = none ∧ z.1 ≠ b ∧ z.1 ∉ ps.map (·.1)
theorem li_for {f f3 f4 f5 : Addr} {fd3 fd4 fd5 : FuncData} {k : Nat} (K_row_at : Kn P w K mg base CX0 (k + 8) "row_at" f3 fd3 ["table", "asker", "way"] (spT K rRowAt)) (K_told_otherwise : Kn P w K mg base CX0 (k + 3) "told_otherwise" f4 fd4 ["table", "asker", "order"] (spT K rTO)) (K_word_for : Kn P w K mg base CX0 (k + 6) "word_for" f5 fd5 ["table", "asker", "first", "new"] (spT K rWord))
    {c : List Int} {os : List (List Int)} {a : Int} (ok : TabOk c os) (c4 : c.length ≤ 4) (a0 : 0 ≤ a) (a1 : a < os.length) :
    ∃ τ : TS, (∀ i, PS ((famD P w K mg base nLI "lies" (defScope s_lies) f (k + 8)).cx i) (stLI 4) τ) ∧ ∀ (D : Ends) (o6 o7 : Option V) (B H : Hp) (v0 v4 : V) (l b : Addr) (ps : List (Addr × List Int)), Same B H → Hv K B (tabD c os) v0 → Hv K B (dRow WM (mR c os a)) v4 → ps.map (·.2) = lvF c.length c.length → Tld B H l b ps (wdF c os a) [] → B b = none → b ≠ l → b ∉ ps.map (·.1) →
      (∀ o6 o7 H' zs, Same B H' → Tld B H' l b ps (wdF c os a) zs → zs.map (·.2) = ps → D.nx [some v0, some (.int a), some (.str "meal"), some (.ref l), some v4, some (.ref b), o6, o7] H') → τ D [some v0, some (.int a), some (.str "meal"), some (.ref l), some v4, some (.ref b), o6, o7] H := by
  refine ⟨tFor (iList K (tVar 3)) (gName 6) (tSeq (tAsg (tCall (spT K rRowAt) [] E0 (tCons (tCall (spT K rTO) [] E0 (tCons (tVar 0) (tCons (tVar 1) (tCons (tVar 6) tNil)))) (tCons (tVar 1) (tCons (tVar 2) tNil)))) (gName 7)) (tDrop (tBM K "list" rAppend (tVar 5) (tCons (tTup (tCons (tVar 6) (tCons (tCall (spT K rWord) [] E0 (tCons (tVar 0) (tCons (tVar 1) (tCons (tVar 4) (tCons (tVar 7) tNil))))) tNil))) tNil)))), fun i => ?_, ?_⟩
  · exact ps_for (X := (famD P w K mg base nLI "lies" (defScope s_lies) f (k + 8)).cx i) (pOwn rfl) rfl (pi_list (X := (famD P w K mg base nLI "lies" (defScope s_lies) f (k + 8)).cx i) (pv (X := (famD P w K mg base nLI "lies" (defScope s_lies) f (k + 8)).cx i) (x := "orders") 3)) (pg_name (X := (famD P w K mg base nLI "lies" (defScope s_lies) f (k + 8)).cx i) (i := 6) sc_lies.nd rfl (Or.inl rfl))
      (pss_cons (ps_set (X := (famD P w K mg base nLI "lies" (defScope s_lies) f (k + 8)).cx i) (i := 7) sc_lies.nd rfl (Or.inl rfl) (pe_kn (X := (famD P w K mg base nLI "lies" (defScope s_lies) f (k + 8)).cx i) (x := "row_at") K_row_at i.hr rfl (pa_cons (pe_kn (X := (famD P w K mg base nLI "lies" (defScope s_lies) f (k + 8)).cx i) (x := "told_otherwise") K_told_otherwise (i.hr.mono (by omega)) rfl (pa_cons (pv (X := (famD P w K mg base nLI "lies" (defScope s_lies) f (k + 8)).cx i) (x := "table") 0) (pa_cons (pv (X := (famD P w K mg base nLI "lies" (defScope s_lies) f (k + 8)).cx i) (x := "asker") 1) (pa_cons (pv (X := (famD P w K mg base nLI "lies" (defScope s_lies) f (k + 8)).cx i) (x := "order") 6) pa_nil)))) (pa_cons (pv (X := (famD P w K mg base nLI "lies" (defScope s_lies) f (k + 8)).cx i) (x := "asker") 1) (pa_cons (pv (X := (famD P w K mg base nLI "lies" (defScope s_lies) f (k + 8)).cx i) (x := "way") 2) pa_nil)))))
      (pss_one (ps_expr (X := (famD P w K mg base nLI "lies" (defScope s_lies) f (k + 8)).cx i) (bmA (K := K) rfl (pe_bm (X := (famD P w K mg base nLI "lies" (defScope s_lies) f (k + 8)).cx i) PySem.F.plainAttrs_list PySem.F.slot_list_append PySem.F.type_list_append mt_append (pv (X := (famD P w K mg base nLI "lies" (defScope s_lies) f (k + 8)).cx i) (x := "told") 5) (pa_cons (pe_tup (pa_cons (pv (X := (famD P w K mg base nLI "lies" (defScope s_lies) f (k + 8)).cx i) (x := "order") 6) (pa_cons (pe_kn (X := (famD P w K mg base nLI "lies" (defScope s_lies) f (k + 8)).cx i) (x := "word_for") K_word_for (i.hr.mono (by omega)) rfl (pa_cons (pv (X := (famD P w K mg base nLI "lies" (defScope s_lies) f (k + 8)).cx i) (x := "table") 0) (pa_cons (pv (X := (famD P w K mg base nLI "lies" (defScope s_lies) f (k + 8)).cx i) (x := "asker") 1) (pa_cons (pv (X := (famD P w K mg base nLI "lies" (defScope s_lies) f (k + 8)).cx i) (x := "first") 4) (pa_cons (pv (X := (famD P w K mg base nLI "lies" (defScope s_lies) f (k + 8)).cx i) (x := "new") 7) pa_nil))))) pa_nil))) pa_nil))))))
  intro D o6 o7 B H v0 v4 l b ps sm hv0 hv4 eps td nb bl bps fin
  have big : 1000 < sizeLine := by decide
  have lvl := lv_small c.length c4 c.length (Nat.le_refl _)
  have lvo := lv_ok c.length c4
  obtain ⟨o1, ho1⟩ : ∃ o1, os[a.toNat]? = some o1 := ⟨_, List.getElem?_eq_getElem (by omega)⟩
  have om1 := List.mem_of_getElem? ho1
  have og : os.getD a.toNat [] = o1 := by rw [List.getD_eq_getElem?_getD, ho1]; rfl
  have oat : atI os a = some o1 := by
    rw [show a = ((a.toNat : Nat) : Int) by omega]
    exact atI_nat ho1
  have pl : ps.length ≤ 65 := by rw [← List.length_map (f := fun p : Addr × List Int => p.2), eps]; exact lvl
  have k1 := mR_row ok a
  refine ⟨_, rfl, l, rfl, ⟨_, SqL.of td.la⟩, ?_⟩
  refine for_list (K := K) (a := l) (xs := ps.map fun p => V.ref p.1) (fun i σ' H' => ∃ o6 o7 zs, σ' = [some v0, some (.int a), some (.str "meal"), some (.ref l), some v4, some (.ref b), o6, o7] ∧ Same B H' ∧ Tld B H' l b ps (wdF c os a) zs ∧ zs.map (·.2) = ps.take i) ⟨o6, o7, [], rfl, sm, td, rfl⟩ (fun i σ' H' _ z => by obtain ⟨_, _, _, _, _, t, _⟩ := z; exact SqL.of t.la) ?_ ?_
  · rintro i x σ' H' hi ⟨o6, o7, zs, rfl, sm, td, e⟩
    rw [List.getElem?_map] at hi
    obtain ⟨p, hp, rfl⟩ := Option.map_eq_some_iff.mp hi
    have pm := List.mem_of_getElem? hp
    have om : p.2 ∈ lvF c.length c.length := by rw [← eps]; exact List.mem_map_of_mem pm
    obtain ⟨nd, rng⟩ := lvo p.2 om
    have ok2 := set_ok ok (a := a.toNat) nd rng
    have l2 : (os.set a.toNat p.2).length = os.length := List.length_set
    have k2 := mR_row ok2 a
    have zl : zs.length ≤ 65 := by
      have := congrArg List.length e
      rw [List.length_map, List.length_take] at this
      omega
    dsimp only [gName, List.set, tSeq, tAsg]
    refine ⟨v0, rfl, .int a, rfl, .ref p.1, rfl, H', [tabD c os, di a, dis p.2], .tp [tInts c, tRows (os.set a.toNat p.2)], Same.refl _, ⟨v0, _, rfl, hv0.mono sm, .int a, _, rfl, ⟨rfl, rfl⟩, .ref p.1, _, rfl, ⟨p.1, _, rfl, SqL.of (td.rows p pm), hvl_of p.2⟩, rfl⟩, ⟨c, os, a, p.2, a0, a1, ok2, rfl, rfl⟩, fun v1 G1 H1 f1 s1 ow1 n1 => ?_⟩
    have hv1 : Hv K H1 (tabD c (os.set a.toNat p.2)) v1 := by
      have := ow1.hv (G' := H1) s1.s fun _ _ => rfl
      rwa [er_tab] at this
    refine ⟨.int a, rfl, .str "meal", rfl, H1, [tabD c (os.set a.toNat p.2), di a, ds "meal"], .fz (dRow WM (mR c (os.set a.toNat p.2) a)), Same.refl _, ⟨v1, _, rfl, hv1, .int a, _, rfl, ⟨rfl, rfl⟩, .str "meal", _, rfl, ⟨rfl, rfl⟩, rfl⟩, ⟨c, os.set a.toNat p.2, a, ok2, a0, by rw [l2]; exact a1, rfl, rfl⟩, fun v7 G7 H7 f7 s7 ow7 n7 => ?_⟩
    have hv7 : Hv K H7 (dRow WM (mR c (os.set a.toNat p.2) a)) v7 := ow7.2.mono s7.s
    have s17 : Same H' H7 := s1.h.trans s7.h
    have sm7 : Same B H7 := sm.trans s17
    refine ⟨.ref b, rfl, .inl ⟨rfl, _, SqL.of (s17 _ _ td.lb)⟩, .ref p.1, rfl, v0, rfl, .int a, rfl, v4, rfl, v7, rfl, H7, [tabD c os, di a, dRow WM (mR c os a), dRow WM (mR c (os.set a.toNat p.2) a)], tx (wdF c os a p.2), Same.refl _, ⟨v0, _, rfl, hv0.mono sm7, .int a, _, rfl, ⟨rfl, rfl⟩, v4, _, rfl, hv4.mono sm7, v7, _, rfl, hv7, rfl⟩, ⟨c, os, a, o1, WM, mR c os a, mR c (os.set a.toNat p.2) a, ok.c6, ok.olen om1, ok.rng o1 om1, oat, k1, k2, rfl, ?_⟩, fun v8 G8 H8 f8 s8 ow8 n8 => ⟨by show 2 ≤ sizeLine; decide, fun q hq => ?_⟩⟩
    · unfold wdF; rw [og]
    have ev8 : v8 = .str (wdF c os a p.2) := hvi ow8.2
    subst ev8
    have s18 : Same H' H8 := s17.trans s8.h
    have sm8 : Same B H8 := sm.trans s18
    have qn : ∀ y o, H8 y = some o → y ≠ q := fun y o hy z => by rw [z, hq] at hy; cases hy
    have qb := qn b _ (s18 _ _ td.lb)
    have ql := qn l _ (s18 _ _ td.la)
    have qp : ∀ y ∈ ps, y.1 ≠ q := fun y hy => qn _ _ (s18 _ _ (td.rows y hy))
    have qz : ∀ z ∈ zs, z.1 ≠ q := fun z hz => qn _ _ (s18 _ _ (td.tup z hz))
    refine ⟨b, zs.map fun z => V.ref z.1, .ref q, rfl, rfl, by rw [upd_ne qb]; exact s18 _ _ td.lb, by rw [List.length_map]; omega, some (.ref p.1), some v7, zs ++ [(q, p)], rfl, ?_, ⟨?_, fun y hy => ?_, ?_, fun z hz => ?_, ?_, fun z hz => ?_⟩, ?_⟩
    · exact (sm8.upd (sm8.free hq)).upd nb
    · rw [upd_ne bl.symm, upd_ne ql]; exact s18 _ _ td.la
    · rw [upd_ne (show y.1 ≠ b from fun z => bps (z ▸ List.mem_map_of_mem (f := (·.1)) hy)), upd_ne (qp y hy)]
      exact s18 _ _ (td.rows y hy)
    · rw [upd_same, List.map_append]; rfl
    · rcases List.mem_append.mp hz with hz | hz
      · rw [upd_ne (td.new z hz).2.1, upd_ne (qz z hz)]
        exact s18 _ _ (td.tup z hz)
      · rw [List.mem_singleton.mp hz]
        show upd _ b _ q = _
        rw [upd_ne qb.symm, upd_same]
    · rw [List.map_append, List.nodup_append]
      refine ⟨td.nd, List.nodup_cons.mpr ⟨(fun z => nomatch z), .nil⟩, fun x hx y hy z => ?_⟩
      obtain ⟨z1, hz1, rfl⟩ := List.mem_map.mp hx
      have : y = q := List.mem_singleton.mp hy
      exact qz z1 hz1 (z.trans this)
    · rcases List.mem_append.mp hz with hz | hz
      · exact td.new z hz
      · rw [List.mem_singleton.mp hz]
        exact ⟨sm8.free hq, fun z => qb z.symm, fun z => by
          obtain ⟨y, hy, ey⟩ := List.mem_map.mp z
          exact qp y hy ey⟩
    · rw [List.map_append, e, take_get hp]; rfl
  · rintro σ' H' ⟨o6, o7, zs, rfl, sm, td, e⟩
    rw [List.length_map, List.take_length] at e
    exact fin o6 o7 H' zs sm td e
end
end K48
namespace K48
open PySem L2 Fra
section
variable {P : Program} {w : World} {K : PySem.W.Frag} {mg : Str → Option Value} {base : Heap}
theorem owl_zs {K : PySem.W.Frag} {G H : Hp} {wd : List Int → Str} : ∀ {zs : List (Addr × Addr × List Int)}, (∀ z ∈ zs, H z.1 = some (.tup [.ref z.2.1, .str (wd z.2.2)])) → (∀ z ∈ zs, H z.2.1 = some (.lst (z.2.2.map V.int))) → OwL K G H (zs.map fun z => .tp [tInts z.2.2, tx (wd z.2.2)]) (zs.map fun z => V.ref z.1) (zs.flatMap fun z => [z.1, z.2.1])
  | [], _, _ => ⟨rfl, rfl⟩
  | z :: zs, h1, h2 => ⟨.ref z.1, _, [z.1, z.2.1], _, rfl, rfl, ⟨z.1, _, [z.2.1], rfl, h1 z (.head _), ⟨.ref z.2.1, _, [z.2.1], [], rfl, rfl, ⟨z.2.1, _, [], rfl, h2 z (.head _), owl_mk z.2.2, rfl⟩, .str (wd z.2.2), [], [], [], rfl, rfl, ⟨rfl, rfl, rfl⟩, rfl, rfl⟩, rfl⟩, owl_zs (fun y hy => h1 y (.tail _ hy)) fun y hy => h2 y (.tail _ hy)⟩
theorem flat_perm : ∀ zs : List (Addr × Addr × List Int), (zs.flatMap fun z => [z.1, z.2.1]).Perm (zs.map (·.1) ++ zs.map (·.2.1))
  | [] => .refl _
  | z :: zs => by
    rw [List.flatMap_cons, List.map_cons, List.map_cons]
    show (z.1 :: z.2.1 :: zs.flatMap fun z => [z.1, z.2.1]).Perm (z.1 :: (zs.map (·.1) ++ z.2.1 :: zs.map (·.2.1)))
    refine .cons _ ?_
    exact (List.Perm.cons _ (flat_perm zs)).trans List.perm_middle.symm
abbrev tTld (c : List Int) (os : List (List Int)) (a : Int) (L : List (List Int)) : Tr := .ow (L.map fun o => .tp [tInts o, tx (wdF c os a o)])
def rLies (dd : List Dv) (t : Tr) : Prop := ∃ (c : List Int) (os : List (List Int)) (a : Int), TabOk c os ∧ c.length ≤ 4 ∧ 0 ≤ a ∧ a < os.length ∧ dd = [tabD c os, di a, ds "meal"] ∧ t = tTld c os a (lvF c.length c.length)
theorem ok_lies {f f1 f2 f3 f4 f5 : Addr} {fd fd1 fd2 fd3 fd4 fd5 : FuncData} {k : Nat} {dv : Value} (F : FunD K "lies" "lies" s_lies dv f fd) (T : Txt mg) (K_all_orders : Kn P w K mg base CX0 (k + 2) "all_orders" f1 fd1 ["many"] (spT K rAllO)) (K_check_asker : Kn P w K mg base CX0 (k + 1) "check_asker" f2 fd2 ["table", "asker"] (spT K rChk)) (K_row_at : Kn P w K mg base CX0 (k + 8) "row_at" f3 fd3 ["table", "asker", "way"] (spT K rRowAt)) (K_told_otherwise : Kn P w K mg base CX0 (k + 3) "told_otherwise" f4 fd4 ["table", "asker", "order"] (spT K rTO)) (K_word_for : Kn P w K mg base CX0 (k + 6) "word_for" f5 fd5 ["table", "asker", "first", "new"] (spT K rWord)) : FnOk P w K mg base CX0 (k + 9) f fd ["table", "asker", "way"] (spT K rLies) := by
  refine fn_ok F sc_lies (fun dd t h => by obtain ⟨_, _, _, _, _, _, _, rfl, _⟩ := h; rfl) fun dd t h => ?_
  obtain ⟨c, os, a, ok, c4, a0, a1, rfl, rfl⟩ := h
  refine ⟨_, .inl rfl, ?_⟩
  have big : 1000 < sizeLine := by decide
  refine rns_cons (rn_set 3 (Ev.s (ev_call K_all_orders (by show k + 2 ≤ k + 8; omega) (eva_cons (Ev.to (t' := ti (c.length : Nat)) (ev_len T.b_len (ev_ixT (ev_nm 0 rfl) ev_int rfl (x0_tab c os)) (.inl rfl)) (by rw [List.length_map])) eva_nil) ⟨c.length, c4, rfl, rfl⟩)) (fun _ => sc_lies.nd)) ?_
  refine rns_cons (rn_expr (Ev.s (ev_call K_check_asker (by show k + 1 ≤ k + 8; omega) (eva_cons (ev_nm 0 rfl) (eva_cons (ev_nm 1 rfl) eva_nil)) ⟨c, os, a, a0, a1, rfl, rfl⟩))) ?_
  refine rns_cons (rn_set 4 (Ev.s (ev_call K_row_at (Nat.le_refl _) (eva_cons (ev_nm 0 rfl) (eva_cons (ev_nm 1 rfl) (eva_cons (ev_nm 2 rfl) eva_nil))) ⟨c, os, a, ok, a0, a1, rfl, rfl⟩)) (fun _ => sc_lies.nd)) ?_
  refine rns_cons (rn_set 5 (Ev.s (ev_lst eva_nil (Nat.zero_le _))) (fun _ => sc_lies.nd)) ?_
  show Rns _ [stLI 4, stLI 5] [some (.fz (tabD c os)), some (ti a), some (tx "meal"), some (tLL (lvF c.length c.length)), some (.fz (dRow WM (mR c os a))), some (.ow []), none, none] _
  obtain ⟨τ, p, q⟩ := li_for (P := P) (w := w) (base := base) (f := f) K_row_at K_told_otherwise K_word_for ok c4 a0 a1
  refine ⟨tSeq τ (tRet (tVar 5)), fun i => pss_cons (p i) (pss_one (ps_ret (pv (X := (famD P w K mg base nLI "lies" (defScope s_lies) f (k + 8)).cx i) (x := "told") 5))), fun D σ G0 H0 G H r post => ?_⟩
  obtain ⟨fp, r⟩ := r
  obtain ⟨v0, _, fa0, _, rfl, rfl, ⟨h00, h0⟩, v1, _, fa1, _, rfl, rfl, ⟨h10, h1⟩, v2, _, fa2, _, rfl, rfl, ⟨h20, h2⟩, v3, _, f3, _, rfl, rfl, ow3, v4, _, fa4, _, rfl, rfl, ⟨h40, h4⟩, v5, _, f5, _, rfl, rfl, ow5, o6, _, rfl, o7, _, rfl, rfl, rfl⟩ := r.own
  have e0 : fa0 = [] := h00
  have e1 : fa1 = [] := h10
  have e2 : fa2 = [] := h20
  have e4 : fa4 = [] := h40
  subst e0 e1 e2 e4
  have d0 := r.d
  have rg := r.g
  have rn := r.n
  simp only [List.nil_append, List.append_nil] at d0 rg rn
  obtain ⟨B, hB⟩ : ∃ B : Hp, B = fun x => if x ∈ f3 ++ f5 then none else H x := ⟨_, rfl⟩
  have n0 : ∀ x ∈ f3 ++ f5, B x = none := fun x hx => by rw [hB]; exact if_pos hx
  have off : ∀ x o, G x = some o → x ∉ f3 ++ f5 := fun x o hx hm => by rw [rg x hm] at hx; cases hx
  have sB : Same B H := fun x o hx => by
    rw [hB] at hx
    dsimp only at hx
    split at hx
    · cases hx
    · exact hx
  have GB : Same G B := fun x o hx => by rw [hB]; exact (if_neg (off x o hx)).trans (r.st.s _ _ hx)
  have gB : Same G0 B := r.st.g.trans GB
  have oB : Same H0 B := fun x o hx => by
    rw [hB]
    exact (if_neg (fun hm => by rw [rn x hm] at hx; cases hx)).trans (r.st.h _ _ hx)
  obtain ⟨d1, d2, d3⟩ := List.nodup_append.mp d0
  obtain ⟨l, ps, rfl, rfl, e1, td1⟩ := told_of (H0 := B) ow3 (fun x hx => n0 x (List.mem_append_left _ hx)) d1
  obtain ⟨b, vs, fq, rfl, hb, owl, rfl⟩ := ow5
  obtain ⟨rfl, rfl⟩ := owl
  rw [hvi h1, hvi h2]
  have nb : B b = none := n0 b (List.mem_append_right _ (.head _))
  have bl : b ≠ l := fun z => d3 l (.head _) b (.head _) z.symm
  have bps : b ∉ ps.map (·.1) := fun z => d3 b (.tail _ z) b (.head _) rfl
  refine q _ o6 o7 B H v0 v4 l b ps sB (h0.mono GB) (h4.mono GB) e1 ⟨td1.at_, td1.rows, hb, (fun z hz => nomatch hz), .nil, fun z hz => nomatch hz⟩ nb bl bps fun o6 o7 H' zs sm td e3 => ?_
  refine ⟨_, rfl, ?_⟩
  have pin : ∀ z ∈ zs, z.2 ∈ ps := fun z hz => by rw [← e3]; exact List.mem_map_of_mem hz
  have Bn : ∀ x ∈ b :: zs.flatMap (fun z => [z.1, z.2.1]), B x = none := fun x hx => by
    rcases List.mem_cons.mp hx with rfl | hx
    · exact nb
    · obtain ⟨z, hz, hx⟩ := List.mem_flatMap.mp hx
      rcases List.mem_cons.mp hx with rfl | hx
      · exact (td.new z hz).1
      · rw [List.mem_singleton.mp hx]
        exact n0 _ (List.mem_append_left _ (.tail _ (List.mem_map_of_mem (f := (·.1)) (pin z hz))))
  refine post (.ref b) G0 H' (b :: zs.flatMap fun z => [z.1, z.2.1]) ⟨Same.refl _, oB.trans sm, gB.trans sm, fun a h h' => absurd h h'⟩ ?_ ⟨fun x hx => oB.free (Bn x hx), fun x hx => gB.free (Bn x hx), ?_⟩
  · have eL : (lvF c.length c.length).map (fun o => Tr.tp [tInts o, tx (wdF c os a o)]) = zs.map fun z => Tr.tp [tInts z.2.2, tx (wdF c os a z.2.2)] := by
      rw [← e1, ← e3, List.map_map, List.map_map]; rfl
    show Ow _ _ _ (.ow _) _ _
    rw [eL]
    exact ⟨b, _, _, rfl, td.lb, owl_zs td.tup fun z hz => td.rows z.2 (pin z hz), rfl⟩
  · refine List.nodup_cons.mpr ⟨fun hx => ?_, (flat_perm zs).nodup_iff.mpr (List.nodup_append.mpr ⟨td.nd, ?_, fun x hx y hy e => ?_⟩)⟩
    · obtain ⟨z, hz, hx⟩ := List.mem_flatMap.mp hx
      rcases List.mem_cons.mp hx with hx | hx
      · exact (td.new z hz).2.1 hx.symm
      · have hx := List.mem_singleton.mp hx
        exact bps (hx ▸ List.mem_map_of_mem (f := (·.1)) (pin z hz))
    · have : zs.map (·.2.1) = ps.map (·.1) := by rw [← e3, List.map_map]; rfl
      rw [this]
      exact (List.nodup_cons.mp d1).2
    · obtain ⟨z, hz, rfl⟩ := List.mem_map.mp hx
      obtain ⟨z', hz', rfl⟩ := List.mem_map.mp hy
      exact (td.new z hz).2.2 (e ▸ List.mem_map_of_mem (f := (·.1)) (pin z' hz'))
end
end K48
namespace K48
open PySem L2 Fra
section
variable {P : Program} {w : World} {K : PySem.W.Frag} {mg : Str → Option Value} {base : Heap}
theorem zs_of {K : PySem.W.Frag} {G H : Hp} {wd : List Int → Str} : ∀ {L : List (List Int)} {vs : List V} {fq : List Addr}, OwL K G H (L.map fun o => .tp [tInts o, tx (wd o)]) vs fq → ∃ zs : List (Addr × Addr × List Int), vs = zs.map (fun z => V.ref z.1) ∧ fq = zs.flatMap (fun z => [z.1, z.2.1]) ∧ zs.map (fun z => z.2.2) = L ∧ (∀ z ∈ zs, H z.1 = some (.tup [.ref z.2.1, .str (wd z.2.2)])) ∧ ∀ z ∈ zs, H z.2.1 = some (.lst (z.2.2.map V.int))
  | [], _, _, ⟨h1, h2⟩ => ⟨[], h1, h2, rfl, (fun z h => nomatch h), fun z h => nomatch h⟩
  | o :: L, _, _, ⟨v, r, f1, f2, h1, h2, h3, h4⟩ => by
    obtain ⟨zs, e1, e2, e3, e4, e5⟩ := zs_of (L := L) h4
    subst h1 h2 e1 e2
    obtain ⟨q, vs, fx, rfl, hq, ol, rfl⟩ := h3
    obtain ⟨va, r1, fa, fa', rfl, rfl, oa, ol⟩ := ol
    obtain ⟨vb, r2, fb, fb', rfl, rfl, ob, ol⟩ := ol
    obtain ⟨rfl, rfl⟩ := ol
    obtain ⟨p, xs, fy, rfl, hp, oi, rfl⟩ := oa
    obtain ⟨rfl, rfl⟩ := ints_ow oi
    have eb : fb = [] := ob.1
    have ev : vb = .str (wd o) := hvi ob.2
    subst eb ev
    refine ⟨(q, p, o) :: zs, rfl, rfl, by rw [List.map_cons, e3], fun z hz => ?_, fun z hz => ?_⟩
    · rcases List.mem_cons.mp hz with rfl | hz
      · exact hq
      · exact e4 z hz
    · rcases List.mem_cons.mp hz with rfl | hz
      · exact hp
      · exact e5 z hz
theorem owl_zs2 {K : PySem.W.Frag} {G H : Hp} {wd : List Int → Str} : ∀ {zs : List (Addr × Addr × List Int)}, (∀ z ∈ zs, H z.1 = some (.tup [.ref z.2.1, .str (wd z.2.2)])) → (∀ z ∈ zs, H z.2.1 = some (.lst ((z.2.2 ++ [0]).map V.int))) → OwL K G H (zs.map fun z => .tp [tInts (z.2.2 ++ [0]), tx (wd z.2.2)]) (zs.map fun z => V.ref z.1) (zs.flatMap fun z => [z.1, z.2.1])
  | [], _, _ => ⟨rfl, rfl⟩
  | z :: zs, h1, h2 => ⟨.ref z.1, _, [z.1, z.2.1], _, rfl, rfl, ⟨z.1, _, [z.2.1], rfl, h1 z (.head _), ⟨.ref z.2.1, _, [z.2.1], [], rfl, rfl, ⟨z.2.1, _, [], rfl, h2 z (.head _), owl_mk (z.2.2 ++ [0]), rfl⟩, .str (wd z.2.2), [], [], [], rfl, rfl, ⟨rfl, rfl, rfl⟩, rfl, rfl⟩, rfl⟩, owl_zs2 (fun y hy => h1 y (.tail _ hy)) fun y hy => h2 y (.tail _ hy)⟩
theorem rn_tldapp {ι : Type} {F : Fam ι} {ρ : En} {st : Stmt} (j jx jy : Nat) {L : List (List Int)} {wd : List Int → Str} (h : ρ[j]? = some (some (.ow (L.map fun o => .tp [tInts o, tx (wd o)])))) (hx : ρ[jx]? = some none) (hy : ρ[jy]? = some none) (nxy : jx ≠ jy) (hz : ∀ o ∈ L, o.length < sizeLine)
    (hps : ∀ i, PS (F.cx i) st (tFor (iList F.K (tVar j)) (gTup F.K 2 (gCons (gName jx) (gCons (gName jy) gNil))) (tDrop (tBM F.K "list" rAppend (tVar jx) (tCons (tC (.int 0)) tNil))))) :
    Rn F st ρ (.nx (ρ.set j (some (.ow (L.map fun o => .tp [tInts (o ++ [0]), tx (wd o)]))))) := by
  refine ⟨_, hps, fun D σ G0 H0 G H r k => ?_⟩
  obtain ⟨fp, r⟩ := r
  have lx : jx < σ.length := by rw [← r.own.len]; exact (List.getElem?_eq_some_iff.mp hx).1
  have ly : jy < σ.length := by rw [← r.own.len]; exact (List.getElem?_eq_some_iff.mp hy).1
  have jjx : j ≠ jx := fun z => by rw [z, hx] at h; cases h
  have jjy : j ≠ jy := fun z => by rw [z, hy] at h; cases h
  obtain ⟨v, f, s1, o1, nd, sw⟩ := r.swap1 h
  obtain ⟨b, vs, fq, rfl, hb, owl, rfl⟩ := o1
  obtain ⟨zs, rfl, rfl, eL, ht, hl⟩ := zs_of owl
  have n1 := List.nodup_cons.mp nd
  obtain ⟨na, nb, nab⟩ := List.nodup_append.mp ((flat_perm zs).nodup_iff.mp n1.2)
  have bz : b ∉ zs.map (·.2.1) := fun z => n1.1 ((flat_perm zs).mem_iff.mpr (List.mem_append_right _ z))
  have tz : ∀ z ∈ zs, z.1 ∉ zs.map (·.2.1) := fun z hz hm => nab z.1 (List.mem_map_of_mem (f := (·.1)) hz) z.1 hm rfl
  have zL : ∀ z ∈ zs, z.2.2 ∈ L := fun z hz => by rw [← eL]; exact List.mem_map_of_mem (f := fun z : Addr × Addr × List Int => z.2.2) hz
  refine ⟨_, s1, b, rfl, ⟨_, SqL.of hb⟩, ?_⟩
  refine for_list (K := F.K) (a := b) (xs := zs.map fun z => V.ref z.1) (fun i σ' Hc => (σ'.length = σ.length ∧ ∀ q, q ≠ jx → q ≠ jy → σ'[q]? = σ[q]?) ∧ Md (zs.map (·.2.1)) H Hc ∧ ∀ m z, zs[m]? = some z → Hc z.2.1 = some (.lst ((if m < i then z.2.2 ++ [0] else z.2.2).map V.int)))
    ⟨⟨rfl, fun _ _ _ => rfl⟩, .refl, fun m z hz => hl z (List.mem_of_getElem? hz)⟩ (fun i σ' Hc _ z => SqL.of (z.2.1 b _ bz hb)) ?_ ?_
  · rintro i x σ' Hc hi ⟨⟨le, hq⟩, md, hj⟩
    rw [List.getElem?_map] at hi
    obtain ⟨z, hz0, rfl⟩ := Option.map_eq_some_iff.mp hi
    have zm := List.mem_of_getElem? hz0
    have hc0 := hj i z hz0
    rw [if_neg (Nat.lt_irrefl _)] at hc0
    refine ⟨z.1, _, rfl, SqT.of (md z.1 _ (tz z zm) (ht z zm)), rfl, _, _, rfl, _, _, rfl, rfl, ?_⟩
    have gx : ((σ'.set jx (some (V.ref z.2.1))).set jy (some (.str (wd z.2.2))))[jx]? = some (some (.ref z.2.1)) := by
      rw [List.getElem?_set_ne nxy.symm, List.getElem?_set_self (by omega)]
    have gy : ((σ'.set jx (some (V.ref z.2.1))).set jy (some (.str (wd z.2.2))))[jy]? = some (some (.str (wd z.2.2))) := List.getElem?_set_self (by rw [List.length_set]; omega)
    have keep : ((σ'.set jx (some (V.ref z.2.1))).set jy (some (.str (wd z.2.2)))).length = σ.length ∧ ∀ q, q ≠ jx → q ≠ jy → ((σ'.set jx (some (V.ref z.2.1))).set jy (some (.str (wd z.2.2))))[q]? = σ[q]? := ⟨by rw [List.length_set, List.length_set]; exact le, fun q h1 h2 => by rw [List.getElem?_set_ne h2.symm, List.getElem?_set_ne h1.symm]; exact hq q h1 h2⟩
    have h1 := hc0
    refine ⟨_, gx, .inl ⟨rfl, _, SqL.of h1⟩, z.2.1, _, _, rfl, rfl, h1, by rw [List.length_map]; exact hz _ (zL z zm), keep, md.trans (.upd (List.mem_map_of_mem (f := (·.2.1)) zm)), fun m z' hz' => ?_⟩
    by_cases e : m = i
    · subst e
      rw [hz0] at hz'
      cases hz'
      rw [upd_same, if_pos (Nat.lt_succ_self _), List.map_append]; rfl
    · have ne : z'.2.1 ≠ z.2.1 := fun q => by
        have g1 : (zs.map (·.2.1))[m]? = some z'.2.1 := by rw [List.getElem?_map, hz']; rfl
        have g2 : (zs.map (·.2.1))[i]? = some z'.2.1 := by rw [List.getElem?_map, hz0, q]; rfl
        obtain ⟨q1, q2⟩ := List.getElem?_eq_some_iff.mp g1
        obtain ⟨q3, q4⟩ := List.getElem?_eq_some_iff.mp g2
        exact e ((List.getElem_inj nb).mp (q2.trans q4.symm))
      rw [upd_ne ne, hj m z' hz']
      by_cases lt : m < i
      · rw [if_pos lt, if_pos (by omega)]
      · rw [if_neg lt, if_neg (by omega)]
  · rintro σ' Hc ⟨⟨le, hq⟩, md, hj⟩
    rw [List.length_map] at hj
    have all : ∀ z ∈ zs, Hc z.2.1 = some (.lst ((z.2.2 ++ [0]).map V.int)) := fun z hz => by
      obtain ⟨m, hm⟩ := List.getElem?_of_mem hz
      have := hj m z hm
      rw [if_pos (List.getElem?_eq_some_iff.mp hm).1] at this
      exact this
    have md' : Md (b :: zs.flatMap fun z => [z.1, z.2.1]) H Hc := md.sub fun x hx => .tail _ ((flat_perm zs).mem_iff.mpr (List.mem_append_right _ hx))
    have ot : Ow F.K G Hc (.ow (L.map fun o => .tp [tInts (o ++ [0]), tx (wd o)])) (.ref b) (b :: zs.flatMap fun z => [z.1, z.2.1]) := by
      rw [← eL, List.map_map]
      exact ⟨b, _, _, rfl, md b _ bz hb, owl_zs2 (fun z hz => md z.1 _ (tz z hz) (ht z hz)) all, rfl⟩
    have eσ : σ' = (σ.set jx (σ'[jx]?.getD none)).set jy (σ'[jy]?.getD none) := by
      refine List.ext_getElem? fun q => ?_
      by_cases e1 : q = jy
      · subst e1
        rw [List.getElem?_set_self (by rw [List.length_set]; exact ly), List.getElem?_eq_getElem (by omega)]; rfl
      · rw [List.getElem?_set_ne (fun z => e1 z.symm)]
        by_cases e2 : q = jx
        · subst e2
          rw [List.getElem?_set_self lx, List.getElem?_eq_getElem (by omega)]; rfl
        · rw [List.getElem?_set_ne (fun z => e2 z.symm), hq q e2 e1]
    rw [eσ]
    exact k _ G _ (((sw _ _ md' ot).setn (by rw [List.getElem?_set_ne jjx]; exact hx)).setn (by rw [List.getElem?_set_ne jjy]; exact hy))
abbrev s__law_shaped : Stmt := top 64
theorem sc__law_shaped : FnScope ["_law_told", "_law_row"] ["_law_told"] (defScope s__law_shaped) := ⟨rfl, rfl, rfl, by decide +kernel, rfl, by decide +kernel, by decide +kernel⟩
def rShaped (dd : List Dv) (t : Tr) : Prop := ∃ (L : List (List Int)) (wd : List Int → Str), L.length ≤ 100 ∧ dd = [.lst (L.map fun o => .tup [dis o, ds (wd o)])] ∧ t = tb true
theorem ok__law_shaped {f : Addr} {fd : FuncData} {k : Nat} (F : Fun K "_law_shaped" "_law_shaped" s__law_shaped f fd) (T : Txt mg) : FnOk P w K mg base CX0 (k + 1) f fd ["_law_told"] (spT K rShaped) := by
  refine fn_ok F.d sc__law_shaped (fun dd t h => by obtain ⟨_, _, _, rfl, _⟩ := h; rfl) fun dd t h => ?_
  obtain ⟨L, wd, hL, rfl, rfl⟩ := h
  refine ⟨_, .inl rfl, ?_⟩
  have big : 1000 < sizeLine := by decide
  refine rns_cons (rn_skip (EtS.to (q := false) (Et.s (et_not (et_val (ev_isi T.b_isinstance T.b_list bt_list (ev_nm 0 rfl) (by with_unfolding_all rfl))))) rfl) rfl) ?_
  refine rns_cons (rn_for (EvI.s (evi_list (ev_nm 0 rfl) rfl)) (evg_nm 1 (fun _ => sc__law_shaped.nd)) (fun j => [some (.fz (.lst (L.map fun o => .tup [dis o, ds (wd o)]))), none]) rfl (fun _ => rfl) (fun j d hd => ?_)) (rns_one (rn_ret (Ev.s ev_bl)))
  obtain ⟨o, ho, rfl⟩ := map_get hd
  have a0 : atI [dis o, ds (wd o)] 0 = some (dis o) := rfl
  have a1 : atI [dis o, ds (wd o)] 1 = some (ds (wd o)) := rfl
  refine ⟨_, [some (.fz (.lst (L.map fun o => .tup [dis o, ds (wd o)]))), some (.fz (.tup [dis o, ds (wd o)]))], rfl, ?_, [1], rfl⟩
  exact rns_one (rn_skip (EtS.to (q := false) (Et.s (Ew.et (ew_or (et_not (et_val (ev_isi T.b_isinstance T.b_tuple bt_tuple (ev_nm 1 rfl) (by with_unfolding_all rfl)))) fun _ => ew_or (et_ne (ev_len T.b_len (ev_nm 1 rfl) (.inr rfl)) ev_int) fun _ => ew_or (et_not (et_val (ev_isi T.b_isinstance T.b_list bt_list (ev_ixT (ev_nm 1 rfl) ev_int rfl a0) (by with_unfolding_all rfl)))) fun _ => ew_or1 (et_not (et_val (ev_isi T.b_isinstance T.b_str bt_str (ev_ixT (ev_nm 1 rfl) ev_int rfl a1) (by with_unfolding_all rfl))))))) rfl) rfl)
end
end K48
namespace K48
open PySem L2 Fra
section
variable {P : Program} {w : World} {K : PySem.W.Frag} {mg : Str → Option Value} {base : Heap}
theorem er_tld (c : List Int) (os : List (List Int)) (a : Int) (L : List (List Int)) : er (tTld c os a L) = dDue c os a L := by
  rw [er_ow_map]
  refine congrArg Dv.lst (List.map_congr_left fun o _ => ?_)
  show Dv.tup [er _, _] = Dv.tup [_, _]
  rw [er_tInts]; rfl
theorem ok_due (c : List Int) (os : List (List Int)) (a : Int) (L : List (List Int)) : okD (dDue c os a L) = true := okD_lst (fun o => by
  show (okD (dis o) && (true && true)) = true
  rw [okD_dis]; rfl) L
theorem dp_due (c : List Int) (os : List (List Int)) (a : Int) (L : List (List Int)) : dpD (dDue c os a L) ≤ 50 := Nat.le_trans (dpD_lst (n := 2) fun d hd => by
  obtain ⟨o, _, rfl⟩ := List.mem_map.mp hd
  show dpD (.lst [dis o, ds (wdF c os a o)]) ≤ 2
  exact dpD_lst (n := 1) fun d hd => by
    rcases List.mem_cons.mp hd with rfl | hd
    · exact dpD_dis o
    · rw [List.mem_singleton.mp hd]; exact Nat.zero_le _) (by decide)
theorem no_better {c : List Int} {os : List (List Int)} (ok : TabOk c os) {a : Int} (a0 : 0 ≤ a) (a1 : a < os.length) {o : List Int} (ok2 : TabOk c (os.set a.toNat o)) : wdF c os a o = "same" ∨ wdF c os a o = "worse" ∨ wdF c os a o = "other" := by
  unfold wdF wordF
  by_cases h0 : eqD (dRow WM (mR c (os.set a.toNat o) a)) (dRow WM (mR c os a)) = true
  · exact .inl (if_pos h0)
  rw [if_neg h0]
  by_cases h1 : goodF (mR c os a) (mR c (os.set a.toNat o) a) (fullF c.length (os.getD a.toNat [])) = true
  · exact .inr (.inl (if_pos h1))
  rw [if_neg h1]
  refine .inr (.inr (if_neg fun h2 => ?_))
  rcases meal_lie ok a0 a1 ok2 with e | ⟨k, x, hx, hb, lt⟩
  · refine h0 ?_
    have e : mR c (os.set a.toNat o) a = mR c os a := e
    rw [e]
    exact eqD_refl (okD_lst okD_dF _)
  · have e : mR c (os.set a.toNat o) a = topsF c.length (stepsF c (os.set a.toNat o)) a := rfl
    have e' : mR c os a = topsF c.length (stepsF c os) a := rfl
    rw [← e, ← e'] at hb lt
    have g := good_iff.mp h2 k (List.getElem?_eq_some_iff.mp hx).1
    rw [preS_succ hx, preS_succ hx] at g
    have : preS (mR c (os.set a.toNat o) a) (fullF c.length (os.getD a.toNat [])) k = preS (mR c os a) (fullF c.length (os.getD a.toNat [])) k := by
      unfold preS
      rw [List.map_congr_left hb]
    omega
theorem et_notinW {ι : Type} {F : Fam ι} {ρ : En} {a b : Expr} {pos : Pos} {tb' : Tr} {w : Str} (hw : w = "same" ∨ w = "worse" ∨ w = "other") (ha : Ev F a ρ (tx w)) (hb : Ev F b ρ tb') (eb : er tb' = .tup [ds "same", ds "worse", ds "other"]) (hm : behindInMarks .NotIn b = false) : Et F (.Compare a [.NotIn] [b] pos) ρ false :=
  et_cmp (r := rIn F.K true) (fun i => F.hK i ▸ op_notIn_seq) ha hb (fun G H x y Q s hx hy k => by
    rw [eb] at hy
    obtain ⟨l, vs, rfl, h1, h2⟩ := hy
    obtain ⟨v1, r1, rfl, e1, v2, r2, rfl, e2, v3, r3, rfl, e3, rfl⟩ := h2
    rw [hvi hx]
    have e1 := hvi e1
    have e2 := hvi e2
    have e3 := hvi e3
    subst e1 e2 e3
    rcases hw with rfl | rfl | rfl
    · exact ⟨l, _, rfl, .inr (s.tup h1), rfl, rfl, k⟩
    · exact ⟨l, _, rfl, .inr (s.tup h1), rfl, rfl, k⟩
    · exact ⟨l, _, rfl, .inr (s.tup h1), rfl, rfl, k⟩) hm
abbrev nLA : List Str := ["_law_script", "_law_cell", "_law_table_here", "_law_kept", "_law_asker", "_law_due_here", "_law_told", "_law_order_here", "_law_word_here"]
abbrev s_law : Stmt := top 65
theorem sc_law : FnScope nLA ["_law_script"] (defScope s_law) := ⟨rfl, rfl, rfl, by decide +kernel, rfl, by decide +kernel, by decide +kernel⟩
theorem ok_law {f f1 f2 f3 f4 f5 : Addr} {fd fd1 fd2 fd3 fd4 fd5 : FuncData} {k : Nat} {tk : Tok} (F : Fun K "law" "law" s_law f fd) (T : Txt mg) (K__law_cell_at : Kn P w K mg base CX0 (k + 1) "_law_cell_at" f1 fd1 ["_law_script", "_law_k"] (spT K rCell)) (K__law_table : Kn P w K mg base CX0 (k + 2) "_law_table" f2 fd2 ["_law_script", "_law_start", "_law_things", "_law_askers"] (spT K rTable)) (K__law_due : Kn P w K mg base CX0 (k + 7) "_law_due" f3 fd3 ["_law_table_here", "_law_asker"] (spT K rDue)) (K__law_shaped : Kn P w K mg base CX0 (k + 1) "_law_shaped" f5 fd5 ["_law_told"] (spT K rShaped)) (K_lies : Kn P w K mg base CX0 (k + 9) "lies" f4 fd4 ["table", "asker", "way"] (spT K rLies)) (B1 : Binds K fd4 ["table", "asker", "way"] [.str "meal" tk]) : FnOk P w K mg base CX0 (k + 10) f fd ["_law_script"] (spT K rLaw) := by
  refine fn_ok F.d sc_law (fun dd t h => by obtain ⟨_, _, rfl, _⟩ := h; rfl) fun dd t h => ?_
  obtain ⟨ns, hns, rfl, rfl⟩ := h
  refine ⟨_, .inl rfl, ?_⟩
  have big : 1000 < sizeLine := by decide
  refine rns_cons (rn_set 1 (Ev.s (ev_call K__law_cell_at (by show k + 1 ≤ k + 9; omega) (eva_cons (ev_nm 0 rfl) (eva_cons ev_int eva_nil)) ⟨ns, 13, by decide, rfl, rfl⟩)) (fun _ => sc_law.nd)) ?_
  generalize cellF ns 13 = y
  obtain ⟨th, most, t4, m1, m4, at1, at2⟩ : ∃ (th : Nat) (most : Int), th ≤ 4 ∧ 1 ≤ most ∧ most ≤ 4 ∧ atI [di 3, di 4] (if decide (y % 8 = 7) = true then 1 else 0) = some (di (th : Int)) ∧ atI [di 4, di 2] (if decide (y % 8 = 7) = true then 1 else 0) = some (di most) := by
    by_cases h : y % 8 = 7
    · exact ⟨4, 2, by decide, by decide, by decide, by rw [if_pos (decide_eq_true h)]; rfl, by rw [if_pos (decide_eq_true h)]; rfl⟩
    · exact ⟨3, 4, by decide, by decide, by decide, by rw [if_neg (by rw [decide_eq_false h]; exact Bool.false_ne_true)]; rfl, by rw [if_neg (by rw [decide_eq_false h]; exact Bool.false_ne_true)]; rfl⟩
  refine rns_cons (rn_set 2 (Ev.s (ev_call K__law_table (by show k + 2 ≤ k + 9; omega) (eva_cons (ev_nm 0 rfl) (eva_cons ev_int (eva_cons (ev_ix (xs := [di 3, di 4]) (ev_lst (eva_cons ev_int (eva_cons ev_int eva_nil)) (by show 2 ≤ sizeLine; decide)) (ev_intb T.b_int (ev_eq (ev_mod (ev_nm 1 rfl) ev_int (by decide)) ev_int)) rfl at1) (eva_cons (ev_ix (xs := [di 4, di 2]) (ev_lst (eva_cons ev_int (eva_cons ev_int eva_nil)) (by show 2 ≤ sizeLine; decide)) (ev_intb T.b_int (ev_eq (ev_mod (ev_nm 1 rfl) ev_int (by decide)) ev_int)) rfl at2) eva_nil)))) ⟨th, ns, 0, most, by omega, by decide, m1, by omega, rfl, rfl⟩)) (fun _ => sc_law.nd)) ?_
  have ok : TabOk (countsT th ns 0) (ordersT th ns 0 most) := tab_ok (by omega) m1 (by omega)
  have c4 : (countsT th ns 0).length ≤ 4 := by rw [counts_len (by omega)]; exact Nat.le_trans (manyT_th th ns 0) t4
  generalize countsT th ns 0 = cs at ok c4
  generalize ordersT th ns 0 most = os at ok
  have o1 := ok.o1
  have o6 := ok.o6
  have olen : (((os.map dis).length : Nat) : Int) = os.length := by rw [List.length_map]
  have ekp : er (.tp [.ow ((cs.map di).map Tr.fz), .ow (os.map tInts)]) = tabD cs os := by rw [ints_tr]; exact er_tab cs os
  refine rns_cons (rn_set 3 (Ev.s (Ev.as (d := tabD cs os) (ev_tup (eva_cons (ev_list T.b_list (ev_ixT (ev_nm 2 rfl) ev_int rfl (x0_tab cs os)) (.inl rfl)) (eva_cons (ev_lcm (own := ["_law_one"]) (fr := []) os dis tInts (fun i => lcs ⟨rfl, rfl, by decide +kernel, by decide +kernel, by decide +kernel, by decide +kernel⟩) (evi_list (ev_ixT (ev_nm 2 rfl) ev_int rfl (x1_tab cs os)) rfl) (evg_nm 0 (fun _ => by show List.Nodup (["_law_one"] : List Str); decide)) (by decide) (by omega) (fun o ho => ⟨_, rfl, by exact Ev.to (ev_list T.b_list (ev_nm 0 rfl) (.inl rfl)) (by rw [ints_tr])⟩) (fun dd => by cases dd <;> rfl)) eva_nil)) (by show 2 ≤ sizeLine; decide)) ekp)) (fun _ => sc_law.nd)) ?_
  obtain ⟨a, ea⟩ : ∃ a, a = y / 8 % (os.length : Int) := ⟨_, rfl⟩
  have a0 : 0 ≤ a := by rw [ea]; exact Int.emod_nonneg _ (by omega)
  have a1 : a < os.length := by rw [ea]; exact Int.emod_lt_of_pos _ (by omega)
  refine rns_cons (rn_set 4 (EvS.to (t' := ti a) (Ev.s (ev_mod (ev_div (ev_nm 1 rfl) ev_int ⟨by decide, small_lt (by decide) (by decide)⟩) (ev_len T.b_len (ev_ixT (ev_nm 2 rfl) ev_int rfl (x1_tab cs os)) (.inl rfl)) (by rw [olen]; omega))) (by rw [olen, ea])) (fun _ => sc_law.nd)) ?_
  refine rns_cons (rn_set 5 (Ev.s (ev_call K__law_due (by show k + 7 ≤ k + 9; omega) (eva_cons (ev_nm 3 rfl) (eva_cons (ev_nm 4 rfl) eva_nil)) ⟨cs, os, a, ok, c4, a0, a1, rfl, rfl⟩)) (fun _ => sc_law.nd)) ?_
  have lvl := lv_small cs.length c4 cs.length (Nat.le_refl _)
  have lvo := lv_ok cs.length c4
  have ll : ∀ o ∈ lvF cs.length cs.length, o.length < sizeLine := fun o ho => by
    have := nodup_len (lvo o ho).1 (lvo o ho).2
    omega
  have rl : rLies [tabD cs os, di a, ds "meal"] (tTld cs os a (lvF cs.length cs.length)) := ⟨cs, os, a, ok, c4, a0, a1, rfl, rfl⟩
  have nb : ∀ o ∈ lvF cs.length cs.length, wdF cs os a o = "same" ∨ wdF cs os a o = "worse" ∨ wdF cs os a o = "other" := fun o ho => no_better ok a0 a1 (set_ok ok (lvo o ho).1 (lvo o ho).2)
  generalize lvF cs.length cs.length = L at lvl ll rl nb
  refine rns_cons (rn_set 6 (Ev.s (ev_callS K_lies B1 (Nat.le_refl _) (eva_cons (ev_nm 2 rfl) (eva_cons (ev_nm 4 rfl) eva_nil)) rl)) (fun _ => sc_law.nd)) ?_
  have et : eqD (tabD cs os) (tabD cs os) = true := eqD_refl (okD_tab _ _)
  have dpt : dpD (tabD cs os) ≤ 50 := Nat.le_trans (dpD_tab _ _) (by decide)
  have edd : eqD (er (tTld cs os a L)) (dDue cs os a L) = true := by rw [er_tld]; exact eqD_refl (ok_due ..)
  have dpd : dpD (er (tTld cs os a L)) ≤ 50 := by rw [er_tld]; exact dp_due ..
  refine rns_cons (rn_skip (EtS.to (q := false) (Et.pk (Ew.et (ew_or (et_not (et_val (ev_call K__law_shaped (by show k + 1 ≤ k + 9; omega) (eva_cons (ev_nm 6 rfl) eva_nil) ⟨L, wdF cs os a, by omega, by show [er (tTld cs os a L)] = _; rw [er_tld], rfl⟩))) fun _ => (ew_or (et_neS (ev_nm 6 rfl) (ev_nm 5 rfl) (.inl ⟨_, _, rfl, rfl⟩) dpd) fun _ => (ew_or1 (et_neS (ev_nm 2 rfl) (ev_nm 3 rfl) (.inr ⟨_, _, rfl, rfl⟩) dpt)))))) (by
    show (!true || (!eqD (er (tTld cs os a L)) (dDue cs os a L) || !eqD (tabD cs os) (tabD cs os))) = false
    rw [edd, et]; rfl)) rfl) ?_
  refine rns_cons (rn_skip (EtS.to (q := false) (Et.pk (et_neS (Ev.as (d := .lst []) (ev_lcf (own := ["_law_row"]) (fr := []) L (fun o => .tup [dis o, ds (wdF cs os a o)]) (fun o => false) (fun o => .fz (.tup [dis o, ds (wdF cs os a o)])) (fun i => lcs ⟨rfl, rfl, by decide +kernel, by decide +kernel, by decide +kernel, by decide +kernel⟩) (evi_list (ev_nm 6 rfl) (er_tld cs os a L)) (evg_nm 0 (fun _ => by show List.Nodup (["_law_row"] : List Str); decide)) (by decide) (by omega) (fun o ho => ⟨_, rfl, by
      have aw : atI [dis o, ds (wdF cs os a o)] 1 = some (ds (wdF cs os a o)) := rfl
      exact el_one (et_notinW (nb o ho) (ev_ixT (ev_nm 0 rfl) ev_int rfl aw) (ev_tup (eva_cons ev_str (eva_cons ev_str (eva_cons ev_str eva_nil))) (by show 3 ≤ sizeLine; decide)) rfl (by with_unfolding_all rfl)), fun h => nomatch h⟩) (fun dd => by cases dd <;> rfl)) (by rw [List.filter_eq_nil_iff.mpr fun o _ h => by cases h]; rfl)) (ev_lst eva_nil (Nat.zero_le _)) (.inl ⟨_, _, rfl, rfl⟩) (by decide))) rfl) rfl) ?_
  refine rns_cons (rn_tldapp 6 7 8 (wd := wdF cs os a) rfl rfl rfl (by decide) ll (fun i => ps_for (pOwn rfl) rfl (pi_list (pv 6)) (pg_tup rfl (pgs_cons (pg_name (i := 7) sc_law.nd rfl (by first | exact Or.inl rfl | exact Or.inr rfl)) (pgs_cons (pg_name (i := 8) sc_law.nd rfl (by first | exact Or.inl rfl | exact Or.inr rfl)) pgs_nil))) (pss_one (ps_expr (pe_bm PySem.F.plainAttrs_list PySem.F.slot_list_append PySem.F.type_list_append mt_append (pv 7) (pa_cons pe_int pa_nil)))))) ?_
  refine rns_cons (rn_clear 6 (us := L.map fun o => .tp [tInts (o ++ [0]), tx (wdF cs os a o)]) rfl) ?_
  exact rns_one (rn_ret (Ev.s (Ev.to (ev_and (p := true) (q := true) (Ev.to (ev_eqS (ev_call K_lies (Nat.le_refl _) (eva_cons (ev_nm 2 rfl) (eva_cons (ev_nm 4 rfl) (eva_cons ev_str eva_nil))) rl) (ev_nm 5 rfl) (.inl ⟨_, _, rfl, rfl⟩) dpd) (show tb (eqD (er (tTld cs os a L)) (dDue cs os a L)) = tb true by rw [edd])) fun _ => (ev_one (Ev.to (ev_eqS (ev_nm 2 rfl) (ev_nm 3 rfl) (.inr ⟨_, _, rfl, rfl⟩) dpt) (show tb (eqD (tabD cs os) (tabD cs os)) = tb true by rw [et])))) rfl)))
end
end K48
namespace K48
open PySem L2
theorem us1 {α : Type} {us : List α} (h : us.length = 1) : ∃ a0, us = [a0] := by
  rcases us with _ | ⟨a0, us⟩; · cases h
  rcases us with _ | ⟨b, us⟩
  · exact ⟨a0, rfl⟩
  · simp at h
theorem us2 {α : Type} {us : List α} (h : us.length = 2) : ∃ a0 a1, us = [a0, a1] := by
  rcases us with _ | ⟨a0, us⟩; · cases h
  rcases us with _ | ⟨a1, us⟩; · cases h
  rcases us with _ | ⟨b, us⟩
  · exact ⟨a0, a1, rfl⟩
  · simp at h
theorem us3 {α : Type} {us : List α} (h : us.length = 3) : ∃ a0 a1 a2, us = [a0, a1, a2] := by
  rcases us with _ | ⟨a0, us⟩; · cases h
  rcases us with _ | ⟨a1, us⟩; · cases h
  rcases us with _ | ⟨a2, us⟩; · cases h
  rcases us with _ | ⟨b, us⟩
  · exact ⟨a0, a1, a2, rfl⟩
  · simp at h
theorem us4 {α : Type} {us : List α} (h : us.length = 4) : ∃ a0 a1 a2 a3, us = [a0, a1, a2, a3] := by
  rcases us with _ | ⟨a0, us⟩; · cases h
  rcases us with _ | ⟨a1, us⟩; · cases h
  rcases us with _ | ⟨a2, us⟩; · cases h
  rcases us with _ | ⟨a3, us⟩; · cases h
  rcases us with _ | ⟨b, us⟩
  · exact ⟨a0, a1, a2, a3, rfl⟩
  · simp at h
theorem all_mk {l : PySem.W.OpenLaw} {w : World} {K : PySem.W.Frag} {h : Heap} {mg : Str → Option Value} {fa : Addr} (X : K.In h) (G : h.Ns mainGlobals mg) (hfa : mg "law" = some (.ref fa))
    {f1 : Addr} {od1 an1 : Option Addr} {sl1 : Array (Option Value)} {oc1 kV1 dc1 pm1 cd1 ct1 : Value}
    {f2 : Addr} {od2 an2 : Option Addr} {sl2 : Array (Option Value)} {oc2 kV2 dc2 pm2 cd2 ct2 : Value}
    {f3 : Addr} {od3 an3 : Option Addr} {sl3 : Array (Option Value)} {oc3 kV3 dc3 pm3 cd3 ct3 : Value}
    {dt3 : Addr} {do3 : Value} {dd3 : Option Addr} {dn3 : Nat} {ds3 : Array (Option Value)} {tk3 : Tok}
    {f4 : Addr} {od4 an4 : Option Addr} {sl4 : Array (Option Value)} {oc4 kV4 dc4 pm4 cd4 ct4 : Value}
    {f5 : Addr} {od5 an5 : Option Addr} {sl5 : Array (Option Value)} {oc5 kV5 dc5 pm5 cd5 ct5 : Value}
    {f6 : Addr} {od6 an6 : Option Addr} {sl6 : Array (Option Value)} {oc6 kV6 dc6 pm6 cd6 ct6 : Value}
    {f7 : Addr} {od7 an7 : Option Addr} {sl7 : Array (Option Value)} {oc7 kV7 dc7 pm7 cd7 ct7 : Value}
    {f8 : Addr} {od8 an8 : Option Addr} {sl8 : Array (Option Value)} {oc8 kV8 dc8 pm8 cd8 ct8 : Value}
    {f9 : Addr} {od9 an9 : Option Addr} {sl9 : Array (Option Value)} {oc9 kV9 dc9 pm9 cd9 ct9 : Value}
    {f10 : Addr} {od10 an10 : Option Addr} {sl10 : Array (Option Value)} {oc10 kV10 dc10 pm10 cd10 ct10 : Value}
    {f11 : Addr} {od11 an11 : Option Addr} {sl11 : Array (Option Value)} {oc11 kV11 dc11 pm11 cd11 ct11 : Value}
    {f12 : Addr} {od12 an12 : Option Addr} {sl12 : Array (Option Value)} {oc12 kV12 dc12 pm12 cd12 ct12 : Value}
    {f13 : Addr} {od13 an13 : Option Addr} {sl13 : Array (Option Value)} {oc13 kV13 dc13 pm13 cd13 ct13 : Value}
    {f14 : Addr} {od14 an14 : Option Addr} {sl14 : Array (Option Value)} {oc14 kV14 dc14 pm14 cd14 ct14 : Value}
    {f15 : Addr} {od15 an15 : Option Addr} {sl15 : Array (Option Value)} {oc15 kV15 dc15 pm15 cd15 ct15 : Value}
    {f16 : Addr} {od16 an16 : Option Addr} {sl16 : Array (Option Value)} {oc16 kV16 dc16 pm16 cd16 ct16 : Value}
    {f17 : Addr} {od17 an17 : Option Addr} {sl17 : Array (Option Value)} {oc17 kV17 dc17 pm17 cd17 ct17 : Value}
    {f18 : Addr} {od18 an18 : Option Addr} {sl18 : Array (Option Value)} {oc18 kV18 dc18 pm18 cd18 ct18 : Value}
    {f19 : Addr} {od19 an19 : Option Addr} {sl19 : Array (Option Value)} {oc19 kV19 dc19 pm19 cd19 ct19 : Value}
    {f20 : Addr} {od20 an20 : Option Addr} {sl20 : Array (Option Value)} {oc20 kV20 dc20 pm20 cd20 ct20 : Value}
    {f21 : Addr} {od21 an21 : Option Addr} {sl21 : Array (Option Value)} {oc21 kV21 dc21 pm21 cd21 ct21 : Value}
    {f22 : Addr} {od22 an22 : Option Addr} {sl22 : Array (Option Value)} {oc22 kV22 dc22 pm22 cd22 ct22 : Value}
    {f23 : Addr} {od23 an23 : Option Addr} {sl23 : Array (Option Value)} {oc23 kV23 dc23 pm23 cd23 ct23 : Value}
    {f24 : Addr} {od24 an24 : Option Addr} {sl24 : Array (Option Value)} {oc24 kV24 dc24 pm24 cd24 ct24 : Value}
    {f25 : Addr} {od25 an25 : Option Addr} {sl25 : Array (Option Value)} {oc25 kV25 dc25 pm25 cd25 ct25 : Value}
    {f26 : Addr} {od26 an26 : Option Addr} {sl26 : Array (Option Value)} {oc26 kV26 dc26 pm26 cd26 ct26 : Value}
    {f27 : Addr} {od27 an27 : Option Addr} {sl27 : Array (Option Value)} {oc27 kV27 dc27 pm27 cd27 ct27 : Value}
    {f28 : Addr} {od28 an28 : Option Addr} {sl28 : Array (Option Value)} {oc28 kV28 dc28 pm28 cd28 ct28 : Value}
    {f29 : Addr} {od29 an29 : Option Addr} {sl29 : Array (Option Value)} {oc29 kV29 dc29 pm29 cd29 ct29 : Value}
    {dt29 : Addr} {do29 : Value} {dd29 : Option Addr} {dn29 : Nat} {ds29 : Array (Option Value)} {tk29 : Tok}
    {f30 : Addr} {od30 an30 : Option Addr} {sl30 : Array (Option Value)} {oc30 kV30 dc30 pm30 cd30 ct30 : Value}
    {f31 : Addr} {od31 an31 : Option Addr} {sl31 : Array (Option Value)} {oc31 kV31 dc31 pm31 cd31 ct31 : Value}
    {f32 : Addr} {od32 an32 : Option Addr} {sl32 : Array (Option Value)} {oc32 kV32 dc32 pm32 cd32 ct32 : Value}
    {f33 : Addr} {od33 an33 : Option Addr} {sl33 : Array (Option Value)} {oc33 kV33 dc33 pm33 cd33 ct33 : Value}
    {f34 : Addr} {od34 an34 : Option Addr} {sl34 : Array (Option Value)} {oc34 kV34 dc34 pm34 cd34 ct34 : Value}
    {f35 : Addr} {od35 an35 : Option Addr} {sl35 : Array (Option Value)} {oc35 kV35 dc35 pm35 cd35 ct35 : Value}
    {f36 : Addr} {od36 an36 : Option Addr} {sl36 : Array (Option Value)} {oc36 kV36 dc36 pm36 cd36 ct36 : Value}
    {f37 : Addr} {od37 an37 : Option Addr} {sl37 : Array (Option Value)} {oc37 kV37 dc37 pm37 cd37 ct37 : Value}
    {f38 : Addr} {od38 an38 : Option Addr} {sl38 : Array (Option Value)} {oc38 kV38 dc38 pm38 cd38 ct38 : Value}
    {f39 : Addr} {od39 an39 : Option Addr} {sl39 : Array (Option Value)} {oc39 kV39 dc39 pm39 cd39 ct39 : Value}
    {f40 : Addr} {od40 an40 : Option Addr} {sl40 : Array (Option Value)} {oc40 kV40 dc40 pm40 cd40 ct40 : Value}
    {gt1 : Tok} {gt2 : Tok} {gt3 : Tok} {gt4 : Tok}
    (a1 : PySem.W.nsIn K mainGlobals "is_whole" = some (some (.ref f1)))
    (l1 : K.lookup f1 = some ⟨oc1, od1, .func (PySem.W.fnOf "is_whole" "is_whole" (defArgs s_is_whole) (defBody s_is_whole) (defScope s_is_whole) .none kV1 dc1 pm1 an1 cd1 ct1), sl1⟩)
    (c1 : PySem.W.codeIn K cd1 "is_whole" = true)
    (k1 : PySem.W.keepIn K (.ref f1) = true)
    (a2 : PySem.W.nsIn K mainGlobals "common_part" = some (some (.ref f2)))
    (l2 : K.lookup f2 = some ⟨oc2, od2, .func (PySem.W.fnOf "common_part" "common_part" (defArgs s_common_part) (defBody s_common_part) (defScope s_common_part) .none kV2 dc2 pm2 an2 cd2 ct2), sl2⟩)
    (c2 : PySem.W.codeIn K cd2 "common_part" = true)
    (k2 : PySem.W.keepIn K (.ref f2) = true)
    (a3 : PySem.W.nsIn K mainGlobals "fraction" = some (some (.ref f3)))
    (l3 : K.lookup f3 = some ⟨oc3, od3, .func (PySem.W.fnOf "fraction" "fraction" (defArgs s_fraction) (defBody s_fraction) (defScope s_fraction) (.ref dt3) kV3 dc3 pm3 an3 cd3 ct3), sl3⟩)
    (d3 : K.lookup dt3 = some ⟨do3, dd3, .seq #[.int 1 tk3] dn3, ds3⟩)
    (c3 : PySem.W.codeIn K cd3 "fraction" = true)
    (k3 : PySem.W.keepIn K (.ref f3) = true)
    (a4 : PySem.W.nsIn K mainGlobals "plus" = some (some (.ref f4)))
    (l4 : K.lookup f4 = some ⟨oc4, od4, .func (PySem.W.fnOf "plus" "plus" (defArgs s_plus) (defBody s_plus) (defScope s_plus) .none kV4 dc4 pm4 an4 cd4 ct4), sl4⟩)
    (c4 : PySem.W.codeIn K cd4 "plus" = true)
    (k4 : PySem.W.keepIn K (.ref f4) = true)
    (a5 : PySem.W.nsIn K mainGlobals "minus" = some (some (.ref f5)))
    (l5 : K.lookup f5 = some ⟨oc5, od5, .func (PySem.W.fnOf "minus" "minus" (defArgs s_minus) (defBody s_minus) (defScope s_minus) .none kV5 dc5 pm5 an5 cd5 ct5), sl5⟩)
    (c5 : PySem.W.codeIn K cd5 "minus" = true)
    (k5 : PySem.W.keepIn K (.ref f5) = true)
    (a6 : PySem.W.nsIn K mainGlobals "times" = some (some (.ref f6)))
    (l6 : K.lookup f6 = some ⟨oc6, od6, .func (PySem.W.fnOf "times" "times" (defArgs s_times) (defBody s_times) (defScope s_times) .none kV6 dc6 pm6 an6 cd6 ct6), sl6⟩)
    (c6 : PySem.W.codeIn K cd6 "times" = true)
    (k6 : PySem.W.keepIn K (.ref f6) = true)
    (a7 : PySem.W.nsIn K mainGlobals "over" = some (some (.ref f7)))
    (l7 : K.lookup f7 = some ⟨oc7, od7, .func (PySem.W.fnOf "over" "over" (defArgs s_over) (defBody s_over) (defScope s_over) .none kV7 dc7 pm7 an7 cd7 ct7), sl7⟩)
    (c7 : PySem.W.codeIn K cd7 "over" = true)
    (k7 : PySem.W.keepIn K (.ref f7) = true)
    (a8 : PySem.W.nsIn K mainGlobals "under" = some (some (.ref f8)))
    (l8 : K.lookup f8 = some ⟨oc8, od8, .func (PySem.W.fnOf "under" "under" (defArgs s_under) (defBody s_under) (defScope s_under) .none kV8 dc8 pm8 an8 cd8 ct8), sl8⟩)
    (c8 : PySem.W.codeIn K cd8 "under" = true)
    (k8 : PySem.W.keepIn K (.ref f8) = true)
    (a9 : PySem.W.nsIn K mainGlobals "sum_of" = some (some (.ref f9)))
    (l9 : K.lookup f9 = some ⟨oc9, od9, .func (PySem.W.fnOf "sum_of" "sum_of" (defArgs s_sum_of) (defBody s_sum_of) (defScope s_sum_of) .none kV9 dc9 pm9 an9 cd9 ct9), sl9⟩)
    (c9 : PySem.W.codeIn K cd9 "sum_of" = true)
    (k9 : PySem.W.keepIn K (.ref f9) = true)
    (a10 : PySem.W.nsIn K mainGlobals "least_of" = some (some (.ref f10)))
    (l10 : K.lookup f10 = some ⟨oc10, od10, .func (PySem.W.fnOf "least_of" "least_of" (defArgs s_least_of) (defBody s_least_of) (defScope s_least_of) .none kV10 dc10 pm10 an10 cd10 ct10), sl10⟩)
    (c10 : PySem.W.codeIn K cd10 "least_of" = true)
    (k10 : PySem.W.keepIn K (.ref f10) = true)
    (a11 : PySem.W.nsIn K mainGlobals "check_orders" = some (some (.ref f11)))
    (l11 : K.lookup f11 = some ⟨oc11, od11, .func (PySem.W.fnOf "check_orders" "check_orders" (defArgs s_check_orders) (defBody s_check_orders) (defScope s_check_orders) .none kV11 dc11 pm11 an11 cd11 ct11), sl11⟩)
    (c11 : PySem.W.codeIn K cd11 "check_orders" = true)
    (k11 : PySem.W.keepIn K (.ref f11) = true)
    (a12 : PySem.W.nsIn K mainGlobals "table_of" = some (some (.ref f12)))
    (l12 : K.lookup f12 = some ⟨oc12, od12, .func (PySem.W.fnOf "table_of" "table_of" (defArgs s_table_of) (defBody s_table_of) (defScope s_table_of) .none kV12 dc12 pm12 an12 cd12 ct12), sl12⟩)
    (c12 : PySem.W.codeIn K cd12 "table_of" = true)
    (k12 : PySem.W.keepIn K (.ref f12) = true)
    (a13 : PySem.W.nsIn K mainGlobals "full_order" = some (some (.ref f13)))
    (l13 : K.lookup f13 = some ⟨oc13, od13, .func (PySem.W.fnOf "full_order" "full_order" (defArgs s_full_order) (defBody s_full_order) (defScope s_full_order) .none kV13 dc13 pm13 an13 cd13 ct13), sl13⟩)
    (c13 : PySem.W.codeIn K cd13 "full_order" = true)
    (k13 : PySem.W.keepIn K (.ref f13) = true)
    (a14 : PySem.W.nsIn K mainGlobals "first_left" = some (some (.ref f14)))
    (l14 : K.lookup f14 = some ⟨oc14, od14, .func (PySem.W.fnOf "first_left" "first_left" (defArgs s_first_left) (defBody s_first_left) (defScope s_first_left) .none kV14 dc14 pm14 an14 cd14 ct14), sl14⟩)
    (c14 : PySem.W.codeIn K cd14 "first_left" = true)
    (k14 : PySem.W.keepIn K (.ref f14) = true)
    (a15 : PySem.W.nsIn K mainGlobals "next_length" = some (some (.ref f15)))
    (l15 : K.lookup f15 = some ⟨oc15, od15, .func (PySem.W.fnOf "next_length" "next_length" (defArgs s_next_length) (defBody s_next_length) (defScope s_next_length) .none kV15 dc15 pm15 an15 cd15 ct15), sl15⟩)
    (c15 : PySem.W.codeIn K cd15 "next_length" = true)
    (k15 : PySem.W.keepIn K (.ref f15) = true)
    (a16 : PySem.W.nsIn K mainGlobals "left_behind" = some (some (.ref f16)))
    (l16 : K.lookup f16 = some ⟨oc16, od16, .func (PySem.W.fnOf "left_behind" "left_behind" (defArgs s_left_behind) (defBody s_left_behind) (defScope s_left_behind) .none kV16 dc16 pm16 an16 cd16 ct16), sl16⟩)
    (c16 : PySem.W.codeIn K cd16 "left_behind" = true)
    (k16 : PySem.W.keepIn K (.ref f16) = true)
    (a17 : PySem.W.nsIn K mainGlobals "ended_things" = some (some (.ref f17)))
    (l17 : K.lookup f17 = some ⟨oc17, od17, .func (PySem.W.fnOf "ended_things" "ended_things" (defArgs s_ended_things) (defBody s_ended_things) (defScope s_ended_things) .none kV17 dc17 pm17 an17 cd17 ct17), sl17⟩)
    (c17 : PySem.W.codeIn K cd17 "ended_things" = true)
    (k17 : PySem.W.keepIn K (.ref f17) = true)
    (a18 : PySem.W.nsIn K mainGlobals "meal_steps" = some (some (.ref f18)))
    (l18 : K.lookup f18 = some ⟨oc18, od18, .func (PySem.W.fnOf "meal_steps" "meal_steps" (defArgs s_meal_steps) (defBody s_meal_steps) (defScope s_meal_steps) .none kV18 dc18 pm18 an18 cd18 ct18), sl18⟩)
    (c18 : PySem.W.codeIn K cd18 "meal_steps" = true)
    (k18 : PySem.W.keepIn K (.ref f18) = true)
    (a19 : PySem.W.nsIn K mainGlobals "eaten_by" = some (some (.ref f19)))
    (l19 : K.lookup f19 = some ⟨oc19, od19, .func (PySem.W.fnOf "eaten_by" "eaten_by" (defArgs s_eaten_by) (defBody s_eaten_by) (defScope s_eaten_by) .none kV19 dc19 pm19 an19 cd19 ct19), sl19⟩)
    (c19 : PySem.W.codeIn K cd19 "eaten_by" = true)
    (k19 : PySem.W.keepIn K (.ref f19) = true)
    (a20 : PySem.W.nsIn K mainGlobals "meal" = some (some (.ref f20)))
    (l20 : K.lookup f20 = some ⟨oc20, od20, .func (PySem.W.fnOf "meal" "meal" (defArgs s_meal) (defBody s_meal) (defScope s_meal) .none kV20 dc20 pm20 an20 cd20 ct20), sl20⟩)
    (c20 : PySem.W.codeIn K cd20 "meal" = true)
    (k20 : PySem.W.keepIn K (.ref f20) = true)
    (a21 : PySem.W.nsIn K mainGlobals "sums" = some (some (.ref f21)))
    (l21 : K.lookup f21 = some ⟨oc21, od21, .func (PySem.W.fnOf "sums" "sums" (defArgs s_sums) (defBody s_sums) (defScope s_sums) .none kV21 dc21 pm21 an21 cd21 ct21), sl21⟩)
    (c21 : PySem.W.codeIn K cd21 "sums" = true)
    (k21 : PySem.W.keepIn K (.ref f21) = true)
    (a22 : PySem.W.nsIn K mainGlobals "as_good" = some (some (.ref f22)))
    (l22 : K.lookup f22 = some ⟨oc22, od22, .func (PySem.W.fnOf "as_good" "as_good" (defArgs s_as_good) (defBody s_as_good) (defScope s_as_good) .none kV22 dc22 pm22 an22 cd22 ct22), sl22⟩)
    (c22 : PySem.W.codeIn K cd22 "as_good" = true)
    (k22 : PySem.W.keepIn K (.ref f22) = true)
    (a23 : PySem.W.nsIn K mainGlobals "longer" = some (some (.ref f23)))
    (l23 : K.lookup f23 = some ⟨oc23, od23, .func (PySem.W.fnOf "longer" "longer" (defArgs s_longer) (defBody s_longer) (defScope s_longer) .none kV23 dc23 pm23 an23 cd23 ct23), sl23⟩)
    (c23 : PySem.W.codeIn K cd23 "longer" = true)
    (k23 : PySem.W.keepIn K (.ref f23) = true)
    (a24 : PySem.W.nsIn K mainGlobals "check_asker" = some (some (.ref f24)))
    (l24 : K.lookup f24 = some ⟨oc24, od24, .func (PySem.W.fnOf "check_asker" "check_asker" (defArgs s_check_asker) (defBody s_check_asker) (defScope s_check_asker) .none kV24 dc24 pm24 an24 cd24 ct24), sl24⟩)
    (c24 : PySem.W.codeIn K cd24 "check_asker" = true)
    (k24 : PySem.W.keepIn K (.ref f24) = true)
    (a25 : PySem.W.nsIn K mainGlobals "told_otherwise" = some (some (.ref f25)))
    (l25 : K.lookup f25 = some ⟨oc25, od25, .func (PySem.W.fnOf "told_otherwise" "told_otherwise" (defArgs s_told_otherwise) (defBody s_told_otherwise) (defScope s_told_otherwise) .none kV25 dc25 pm25 an25 cd25 ct25), sl25⟩)
    (c25 : PySem.W.codeIn K cd25 "told_otherwise" = true)
    (k25 : PySem.W.keepIn K (.ref f25) = true)
    (a26 : PySem.W.nsIn K mainGlobals "all_orders" = some (some (.ref f26)))
    (l26 : K.lookup f26 = some ⟨oc26, od26, .func (PySem.W.fnOf "all_orders" "all_orders" (defArgs s_all_orders) (defBody s_all_orders) (defScope s_all_orders) .none kV26 dc26 pm26 an26 cd26 ct26), sl26⟩)
    (c26 : PySem.W.codeIn K cd26 "all_orders" = true)
    (k26 : PySem.W.keepIn K (.ref f26) = true)
    (a27 : PySem.W.nsIn K mainGlobals "row_at" = some (some (.ref f27)))
    (l27 : K.lookup f27 = some ⟨oc27, od27, .func (PySem.W.fnOf "row_at" "row_at" (defArgs s_row_at) (defBody s_row_at) (defScope s_row_at) .none kV27 dc27 pm27 an27 cd27 ct27), sl27⟩)
    (c27 : PySem.W.codeIn K cd27 "row_at" = true)
    (k27 : PySem.W.keepIn K (.ref f27) = true)
    (a28 : PySem.W.nsIn K mainGlobals "word_for" = some (some (.ref f28)))
    (l28 : K.lookup f28 = some ⟨oc28, od28, .func (PySem.W.fnOf "word_for" "word_for" (defArgs s_word_for) (defBody s_word_for) (defScope s_word_for) .none kV28 dc28 pm28 an28 cd28 ct28), sl28⟩)
    (c28 : PySem.W.codeIn K cd28 "word_for" = true)
    (k28 : PySem.W.keepIn K (.ref f28) = true)
    (a29 : PySem.W.nsIn K mainGlobals "lies" = some (some (.ref f29)))
    (l29 : K.lookup f29 = some ⟨oc29, od29, .func (PySem.W.fnOf "lies" "lies" (defArgs s_lies) (defBody s_lies) (defScope s_lies) (.ref dt29) kV29 dc29 pm29 an29 cd29 ct29), sl29⟩)
    (d29 : K.lookup dt29 = some ⟨do29, dd29, .seq #[.str "meal" tk29] dn29, ds29⟩)
    (c29 : PySem.W.codeIn K cd29 "lies" = true)
    (k29 : PySem.W.keepIn K (.ref f29) = true)
    (a30 : PySem.W.nsIn K mainGlobals "_law_cell_at" = some (some (.ref f30)))
    (l30 : K.lookup f30 = some ⟨oc30, od30, .func (PySem.W.fnOf "_law_cell_at" "_law_cell_at" (defArgs s__law_cell_at) (defBody s__law_cell_at) (defScope s__law_cell_at) .none kV30 dc30 pm30 an30 cd30 ct30), sl30⟩)
    (c30 : PySem.W.codeIn K cd30 "_law_cell_at" = true)
    (k30 : PySem.W.keepIn K (.ref f30) = true)
    (a31 : PySem.W.nsIn K mainGlobals "_law_order" = some (some (.ref f31)))
    (l31 : K.lookup f31 = some ⟨oc31, od31, .func (PySem.W.fnOf "_law_order" "_law_order" (defArgs s__law_order) (defBody s__law_order) (defScope s__law_order) .none kV31 dc31 pm31 an31 cd31 ct31), sl31⟩)
    (c31 : PySem.W.codeIn K cd31 "_law_order" = true)
    (k31 : PySem.W.keepIn K (.ref f31) = true)
    (a32 : PySem.W.nsIn K mainGlobals "_law_table" = some (some (.ref f32)))
    (l32 : K.lookup f32 = some ⟨oc32, od32, .func (PySem.W.fnOf "_law_table" "_law_table" (defArgs s__law_table) (defBody s__law_table) (defScope s__law_table) .none kV32 dc32 pm32 an32 cd32 ct32), sl32⟩)
    (c32 : PySem.W.codeIn K cd32 "_law_table" = true)
    (k32 : PySem.W.keepIn K (.ref f32) = true)
    (a33 : PySem.W.nsIn K mainGlobals "_law_full" = some (some (.ref f33)))
    (l33 : K.lookup f33 = some ⟨oc33, od33, .func (PySem.W.fnOf "_law_full" "_law_full" (defArgs s__law_full) (defBody s__law_full) (defScope s__law_full) .none kV33 dc33 pm33 an33 cd33 ct33), sl33⟩)
    (c33 : PySem.W.codeIn K cd33 "_law_full" = true)
    (k33 : PySem.W.keepIn K (.ref f33) = true)
    (a34 : PySem.W.nsIn K mainGlobals "_law_sums" = some (some (.ref f34)))
    (l34 : K.lookup f34 = some ⟨oc34, od34, .func (PySem.W.fnOf "_law_sums" "_law_sums" (defArgs s__law_sums) (defBody s__law_sums) (defScope s__law_sums) .none kV34 dc34 pm34 an34 cd34 ct34), sl34⟩)
    (c34 : PySem.W.codeIn K cd34 "_law_sums" = true)
    (k34 : PySem.W.keepIn K (.ref f34) = true)
    (a35 : PySem.W.nsIn K mainGlobals "_law_no_less" = some (some (.ref f35)))
    (l35 : K.lookup f35 = some ⟨oc35, od35, .func (PySem.W.fnOf "_law_no_less" "_law_no_less" (defArgs s__law_no_less) (defBody s__law_no_less) (defScope s__law_no_less) .none kV35 dc35 pm35 an35 cd35 ct35), sl35⟩)
    (c35 : PySem.W.codeIn K cd35 "_law_no_less" = true)
    (k35 : PySem.W.keepIn K (.ref f35) = true)
    (a36 : PySem.W.nsIn K mainGlobals "_law_word" = some (some (.ref f36)))
    (l36 : K.lookup f36 = some ⟨oc36, od36, .func (PySem.W.fnOf "_law_word" "_law_word" (defArgs s__law_word) (defBody s__law_word) (defScope s__law_word) .none kV36 dc36 pm36 an36 cd36 ct36), sl36⟩)
    (c36 : PySem.W.codeIn K cd36 "_law_word" = true)
    (k36 : PySem.W.keepIn K (.ref f36) = true)
    (a37 : PySem.W.nsIn K mainGlobals "_law_lists" = some (some (.ref f37)))
    (l37 : K.lookup f37 = some ⟨oc37, od37, .func (PySem.W.fnOf "_law_lists" "_law_lists" (defArgs s__law_lists) (defBody s__law_lists) (defScope s__law_lists) .none kV37 dc37 pm37 an37 cd37 ct37), sl37⟩)
    (c37 : PySem.W.codeIn K cd37 "_law_lists" = true)
    (k37 : PySem.W.keepIn K (.ref f37) = true)
    (a38 : PySem.W.nsIn K mainGlobals "_law_due" = some (some (.ref f38)))
    (l38 : K.lookup f38 = some ⟨oc38, od38, .func (PySem.W.fnOf "_law_due" "_law_due" (defArgs s__law_due) (defBody s__law_due) (defScope s__law_due) .none kV38 dc38 pm38 an38 cd38 ct38), sl38⟩)
    (c38 : PySem.W.codeIn K cd38 "_law_due" = true)
    (k38 : PySem.W.keepIn K (.ref f38) = true)
    (a39 : PySem.W.nsIn K mainGlobals "_law_shaped" = some (some (.ref f39)))
    (l39 : K.lookup f39 = some ⟨oc39, od39, .func (PySem.W.fnOf "_law_shaped" "_law_shaped" (defArgs s__law_shaped) (defBody s__law_shaped) (defScope s__law_shaped) .none kV39 dc39 pm39 an39 cd39 ct39), sl39⟩)
    (c39 : PySem.W.codeIn K cd39 "_law_shaped" = true)
    (k39 : PySem.W.keepIn K (.ref f39) = true)
    (a40 : PySem.W.nsIn K mainGlobals "law" = some (some (.ref f40)))
    (l40 : K.lookup f40 = some ⟨oc40, od40, .func (PySem.W.fnOf "law" "law" (defArgs s_law) (defBody s_law) (defScope s_law) .none kV40 dc40 pm40 an40 cd40 ct40), sl40⟩)
    (c40 : PySem.W.codeIn K cd40 "law" = true)
    (k40 : PySem.W.keepIn K (.ref f40) = true)
    (z_isinstance : PySem.W.nsIn K mainGlobals "isinstance" = some none)
    (z_int : PySem.W.nsIn K mainGlobals "int" = some none)
    (z_bool : PySem.W.nsIn K mainGlobals "bool" = some none)
    (z_list : PySem.W.nsIn K mainGlobals "list" = some none)
    (z_tuple : PySem.W.nsIn K mainGlobals "tuple" = some none)
    (z_str : PySem.W.nsIn K mainGlobals "str" = some none)
    (z_len : PySem.W.nsIn K mainGlobals "len" = some none)
    (z_range : PySem.W.nsIn K mainGlobals "range" = some none)
    (z_zip : PySem.W.nsIn K mainGlobals "zip" = some none)
    (z_enumerate : PySem.W.nsIn K mainGlobals "enumerate" = some none)
    (z_sorted : PySem.W.nsIn K mainGlobals "sorted" = some none)
    (z_abs : PySem.W.nsIn K mainGlobals "abs" = some none)
    (z_sum : PySem.W.nsIn K mainGlobals "sum" = some none)
    (z_max : PySem.W.nsIn K mainGlobals "max" = some none)
    (z_min : PySem.W.nsIn K mainGlobals "min" = some none)
    (z_all : PySem.W.nsIn K mainGlobals "all" = some none)
    (z_any : PySem.W.nsIn K mainGlobals "any" = some none)
    (z_set : PySem.W.nsIn K mainGlobals "set" = some none)
    (g_MOST : PySem.W.nsIn K mainGlobals "MOST" = some (some (.int 6 gt1)))
    (g_MOST_COUNT : PySem.W.nsIn K mainGlobals "MOST_COUNT" = some (some (.int 9 gt2)))
    (g_MOST_TURNS : PySem.W.nsIn K mainGlobals "MOST_TURNS" = some (some (.int 5 gt3)))
    (g_MOST_THINGS : PySem.W.nsIn K mainGlobals "MOST_THINGS" = some (some (.int 4 gt4)))
    : ∃ fd : FuncData, (∀ (s : Shared) (v : Value), BindsTo s fd ⟨[v], []⟩ [("_law_script", v)]) ∧ ∀ base : Heap, K.In base → base.Ns mainGlobals mg → FnOk l.prog w K mg base CX0 10 fa fd ["_law_script"] (spLaw K) := by
  have e := hfa.symm.trans (PySem.W.mg_of X G a40)
  cases e
  have T : Txt mg := ⟨PySem.W.mg_none_of X G z_isinstance, PySem.W.mg_none_of X G z_int, PySem.W.mg_none_of X G z_bool, PySem.W.mg_none_of X G z_list, PySem.W.mg_none_of X G z_tuple, PySem.W.mg_none_of X G z_str, PySem.W.mg_none_of X G z_len, PySem.W.mg_none_of X G z_range, PySem.W.mg_none_of X G z_zip, PySem.W.mg_none_of X G z_enumerate, PySem.W.mg_none_of X G z_sorted, PySem.W.mg_none_of X G z_abs, PySem.W.mg_none_of X G z_sum, PySem.W.mg_none_of X G z_max, PySem.W.mg_none_of X G z_min, PySem.W.mg_none_of X G z_all, PySem.W.mg_none_of X G z_any, PySem.W.mg_none_of X G z_set, ⟨_, PySem.W.mg_of X G g_MOST⟩, ⟨_, PySem.W.mg_of X G g_MOST_COUNT⟩, ⟨_, PySem.W.mg_of X G g_MOST_TURNS⟩, ⟨_, PySem.W.mg_of X G g_MOST_THINGS⟩⟩
  have F1 := fun_mk (st := s_is_whole) l1 c1 k1
  have b1 := F1.binds (ps := ["number"]) fun _ _ _ _ _ _ us hl => by
    obtain ⟨_, rfl⟩ := us1 hl
    rfl
  have F2 := fun_mk (st := s_common_part) l2 c2 k2
  have b2 := F2.binds (ps := ["one", "other"]) fun _ _ _ _ _ _ us hl => by
    obtain ⟨_, _, rfl⟩ := us2 hl
    rfl
  have F3 := funD_mk (st := s_fraction) l3 c3 k3
  have b3 : Binds K _ ["top", "bottom"] [] := fun s us hK hl => match us, hl with | [u, v], _ => PySem.W.binds_K (fd := PySem.W.fnOf "fraction" "fraction" (defArgs s_fraction) (defBody s_fraction) (defScope s_fraction) (.ref dt3) kV3 dc3 pm3 an3 cd3 ct3) hK rfl d3 rfl rfl rfl
  have b3' : Binds K _ ["top", "bottom"] [.int 1 tk3] := fun s us hK hl => by
    cases us with
    | nil => exact absurd hl (by simp)
    | cons u0 r0 =>
      cases r0 with
      | nil => exact PySem.W.binds_K (fd := PySem.W.fnOf "fraction" "fraction" (defArgs s_fraction) (defBody s_fraction) (defScope s_fraction) (.ref dt3) kV3 dc3 pm3 an3 cd3 ct3) hK rfl d3 rfl rfl rfl
      | cons _ _ => exact absurd hl (by simp only [List.length_append, List.length_cons, List.length_nil]; omega)
  have F4 := fun_mk (st := s_plus) l4 c4 k4
  have b4 := F4.binds (ps := ["one", "other"]) fun _ _ _ _ _ _ us hl => by
    obtain ⟨_, _, rfl⟩ := us2 hl
    rfl
  have F5 := fun_mk (st := s_minus) l5 c5 k5
  have b5 := F5.binds (ps := ["one", "other"]) fun _ _ _ _ _ _ us hl => by
    obtain ⟨_, _, rfl⟩ := us2 hl
    rfl
  have F6 := fun_mk (st := s_times) l6 c6 k6
  have b6 := F6.binds (ps := ["one", "other"]) fun _ _ _ _ _ _ us hl => by
    obtain ⟨_, _, rfl⟩ := us2 hl
    rfl
  have F7 := fun_mk (st := s_over) l7 c7 k7
  have b7 := F7.binds (ps := ["one", "other"]) fun _ _ _ _ _ _ us hl => by
    obtain ⟨_, _, rfl⟩ := us2 hl
    rfl
  have F8 := fun_mk (st := s_under) l8 c8 k8
  have b8 := F8.binds (ps := ["one", "other"]) fun _ _ _ _ _ _ us hl => by
    obtain ⟨_, _, rfl⟩ := us2 hl
    rfl
  have F9 := fun_mk (st := s_sum_of) l9 c9 k9
  have b9 := F9.binds (ps := ["some"]) fun _ _ _ _ _ _ us hl => by
    obtain ⟨_, rfl⟩ := us1 hl
    rfl
  have F10 := fun_mk (st := s_least_of) l10 c10 k10
  have b10 := F10.binds (ps := ["some"]) fun _ _ _ _ _ _ us hl => by
    obtain ⟨_, rfl⟩ := us1 hl
    rfl
  have F11 := fun_mk (st := s_check_orders) l11 c11 k11
  have b11 := F11.binds (ps := ["orders", "many"]) fun _ _ _ _ _ _ us hl => by
    obtain ⟨_, _, rfl⟩ := us2 hl
    rfl
  have F12 := fun_mk (st := s_table_of) l12 c12 k12
  have b12 := F12.binds (ps := ["counts", "orders"]) fun _ _ _ _ _ _ us hl => by
    obtain ⟨_, _, rfl⟩ := us2 hl
    rfl
  have F13 := fun_mk (st := s_full_order) l13 c13 k13
  have b13 := F13.binds (ps := ["table", "asker"]) fun _ _ _ _ _ _ us hl => by
    obtain ⟨_, _, rfl⟩ := us2 hl
    rfl
  have F14 := fun_mk (st := s_first_left) l14 c14 k14
  have b14 := F14.binds (ps := ["order", "gone"]) fun _ _ _ _ _ _ us hl => by
    obtain ⟨_, _, rfl⟩ := us2 hl
    rfl
  have F15 := fun_mk (st := s_next_length) l15 c15 k15
  have b15 := F15.binds (ps := ["left", "eaten", "time_left"]) fun _ _ _ _ _ _ us hl => by
    obtain ⟨_, _, _, rfl⟩ := us3 hl
    rfl
  have F16 := fun_mk (st := s_left_behind) l16 c16 k16
  have b16 := F16.binds (ps := ["left", "eaten", "length"]) fun _ _ _ _ _ _ us hl => by
    obtain ⟨_, _, _, rfl⟩ := us3 hl
    rfl
  have F17 := fun_mk (st := s_ended_things) l17 c17 k17
  have b17 := F17.binds (ps := ["left"]) fun _ _ _ _ _ _ us hl => by
    obtain ⟨_, rfl⟩ := us1 hl
    rfl
  have F18 := fun_mk (st := s_meal_steps) l18 c18 k18
  have b18 := F18.binds (ps := ["table"]) fun _ _ _ _ _ _ us hl => by
    obtain ⟨_, rfl⟩ := us1 hl
    rfl
  have F19 := fun_mk (st := s_eaten_by) l19 c19 k19
  have b19 := F19.binds (ps := ["steps", "asker", "one"]) fun _ _ _ _ _ _ us hl => by
    obtain ⟨_, _, _, rfl⟩ := us3 hl
    rfl
  have F20 := fun_mk (st := s_meal) l20 c20 k20
  have b20 := F20.binds (ps := ["table"]) fun _ _ _ _ _ _ us hl => by
    obtain ⟨_, rfl⟩ := us1 hl
    rfl
  have F21 := fun_mk (st := s_sums) l21 c21 k21
  have b21 := F21.binds (ps := ["table", "asker", "row"]) fun _ _ _ _ _ _ us hl => by
    obtain ⟨_, _, _, rfl⟩ := us3 hl
    rfl
  have F22 := fun_mk (st := s_as_good) l22 c22 k22
  have b22 := F22.binds (ps := ["table", "asker", "one", "other"]) fun _ _ _ _ _ _ us hl => by
    obtain ⟨_, _, _, _, rfl⟩ := us4 hl
    rfl
  have F23 := fun_mk (st := s_longer) l23 c23 k23
  have b23 := F23.binds (ps := ["lists", "many"]) fun _ _ _ _ _ _ us hl => by
    obtain ⟨_, _, rfl⟩ := us2 hl
    rfl
  have F24 := fun_mk (st := s_check_asker) l24 c24 k24
  have b24 := F24.binds (ps := ["table", "asker"]) fun _ _ _ _ _ _ us hl => by
    obtain ⟨_, _, rfl⟩ := us2 hl
    rfl
  have F25 := fun_mk (st := s_told_otherwise) l25 c25 k25
  have b25 := F25.binds (ps := ["table", "asker", "order"]) fun _ _ _ _ _ _ us hl => by
    obtain ⟨_, _, _, rfl⟩ := us3 hl
    rfl
  have F26 := fun_mk (st := s_all_orders) l26 c26 k26
  have b26 := F26.binds (ps := ["many"]) fun _ _ _ _ _ _ us hl => by
    obtain ⟨_, rfl⟩ := us1 hl
    rfl
  have F27 := fun_mk (st := s_row_at) l27 c27 k27
  have b27 := F27.binds (ps := ["table", "asker", "way"]) fun _ _ _ _ _ _ us hl => by
    obtain ⟨_, _, _, rfl⟩ := us3 hl
    rfl
  have F28 := fun_mk (st := s_word_for) l28 c28 k28
  have b28 := F28.binds (ps := ["table", "asker", "first", "new"]) fun _ _ _ _ _ _ us hl => by
    obtain ⟨_, _, _, _, rfl⟩ := us4 hl
    rfl
  have F29 := funD_mk (st := s_lies) l29 c29 k29
  have b29 : Binds K _ ["table", "asker", "way"] [] := fun s us hK hl => match us, hl with | [u, v, x], _ => PySem.W.binds_K (fd := PySem.W.fnOf "lies" "lies" (defArgs s_lies) (defBody s_lies) (defScope s_lies) (.ref dt29) kV29 dc29 pm29 an29 cd29 ct29) hK rfl d29 rfl rfl rfl
  have b29' : Binds K _ ["table", "asker", "way"] [.str "meal" tk29] := fun s us hK hl => by
    cases us with
    | nil => exact absurd hl (by simp)
    | cons u0 r0 =>
      cases r0 with
      | nil => exact absurd hl (by simp)
      | cons u1 r1 =>
        cases r1 with
        | nil => exact PySem.W.binds_K (fd := PySem.W.fnOf "lies" "lies" (defArgs s_lies) (defBody s_lies) (defScope s_lies) (.ref dt29) kV29 dc29 pm29 an29 cd29 ct29) hK rfl d29 rfl rfl rfl
        | cons _ _ => exact absurd hl (by simp only [List.length_append, List.length_cons, List.length_nil]; omega)
  have F30 := fun_mk (st := s__law_cell_at) l30 c30 k30
  have b30 := F30.binds (ps := ["_law_script", "_law_k"]) fun _ _ _ _ _ _ us hl => by
    obtain ⟨_, _, rfl⟩ := us2 hl
    rfl
  have F31 := fun_mk (st := s__law_order) l31 c31 k31
  have b31 := F31.binds (ps := ["_law_cell", "_law_many"]) fun _ _ _ _ _ _ us hl => by
    obtain ⟨_, _, rfl⟩ := us2 hl
    rfl
  have F32 := fun_mk (st := s__law_table) l32 c32 k32
  have b32 := F32.binds (ps := ["_law_script", "_law_start", "_law_things", "_law_askers"]) fun _ _ _ _ _ _ us hl => by
    obtain ⟨_, _, _, _, rfl⟩ := us4 hl
    rfl
  have F33 := fun_mk (st := s__law_full) l33 c33 k33
  have b33 := F33.binds (ps := ["_law_table_here", "_law_asker"]) fun _ _ _ _ _ _ us hl => by
    obtain ⟨_, _, rfl⟩ := us2 hl
    rfl
  have F34 := fun_mk (st := s__law_sums) l34 c34 k34
  have b34 := F34.binds (ps := ["_law_table_here", "_law_asker", "_law_row"]) fun _ _ _ _ _ _ us hl => by
    obtain ⟨_, _, _, rfl⟩ := us3 hl
    rfl
  have F35 := fun_mk (st := s__law_no_less) l35 c35 k35
  have b35 := F35.binds (ps := ["_law_some", "_law_others"]) fun _ _ _ _ _ _ us hl => by
    obtain ⟨_, _, rfl⟩ := us2 hl
    rfl
  have F36 := fun_mk (st := s__law_word) l36 c36 k36
  have b36 := F36.binds (ps := ["_law_table_here", "_law_asker", "_law_first", "_law_other"]) fun _ _ _ _ _ _ us hl => by
    obtain ⟨_, _, _, _, rfl⟩ := us4 hl
    rfl
  have F37 := fun_mk (st := s__law_lists) l37 c37 k37
  have b37 := F37.binds (ps := ["_law_many"]) fun _ _ _ _ _ _ us hl => by
    obtain ⟨_, rfl⟩ := us1 hl
    rfl
  have F38 := fun_mk (st := s__law_due) l38 c38 k38
  have b38 := F38.binds (ps := ["_law_table_here", "_law_asker"]) fun _ _ _ _ _ _ us hl => by
    obtain ⟨_, _, rfl⟩ := us2 hl
    rfl
  have F39 := fun_mk (st := s__law_shaped) l39 c39 k39
  have b39 := F39.binds (ps := ["_law_told"]) fun _ _ _ _ _ _ us hl => by
    obtain ⟨_, rfl⟩ := us1 hl
    rfl
  have F40 := fun_mk (st := s_law) l40 c40 k40
  refine ⟨PySem.W.fnOf "law" "law" (defArgs s_law) (defBody s_law) (defScope s_law) .none kV40 dc40 pm40 an40 cd40 ct40, fun s v => .of_eq rfl, fun base _ _ => ?_⟩
  have K1 := Kn.mk (base := base) (P := l.prog) (w := w) (ok_is_whole (k := 0) F1 T ) (PySem.W.mg_of X G a1) k1 b1
  have K2 := Kn.mk (base := base) (P := l.prog) (w := w) (ok_common_part (k := 0) F2 T ) (PySem.W.mg_of X G a2) k2 b2
  have K3 := Kn.mk (base := base) (P := l.prog) (w := w) (ok_fraction (k := 0) F3 T K1 K2) (PySem.W.mg_of X G a3) k3 b3
  have K4 := Kn.mk (base := base) (P := l.prog) (w := w) (ok_plus (k := 0) F4 T K3) (PySem.W.mg_of X G a4) k4 b4
  have K5 := Kn.mk (base := base) (P := l.prog) (w := w) (ok_minus (k := 0) F5 T K3) (PySem.W.mg_of X G a5) k5 b5
  have K6 := Kn.mk (base := base) (P := l.prog) (w := w) (ok_times (k := 0) F6 T K3) (PySem.W.mg_of X G a6) k6 b6
  have K7 := Kn.mk (base := base) (P := l.prog) (w := w) (ok_over (k := 0) F7 T K3) (PySem.W.mg_of X G a7) k7 b7
  have K8 := Kn.mk (base := base) (P := l.prog) (w := w) (ok_under (k := 0) F8 T ) (PySem.W.mg_of X G a8) k8 b8
  have K9 := Kn.mk (base := base) (P := l.prog) (w := w) (ok_sum_of (k := 0) F9 T K3 b3' K4) (PySem.W.mg_of X G a9) k9 b9
  have K10 := Kn.mk (base := base) (P := l.prog) (w := w) (ok_least_of (k := 0) F10 T K8) (PySem.W.mg_of X G a10) k10 b10
  have K11 := Kn.mk (base := base) (P := l.prog) (w := w) (ok_check_orders (k := 0) F11 T ) (PySem.W.mg_of X G a11) k11 b11
  have K12 := Kn.mk (base := base) (P := l.prog) (w := w) (ok_table_of (k := 0) F12 T K11) (PySem.W.mg_of X G a12) k12 b12
  have K13 := Kn.mk (base := base) (P := l.prog) (w := w) (ok_full_order (k := 0) F13 T ) (PySem.W.mg_of X G a13) k13 b13
  have K14 := Kn.mk (base := base) (P := l.prog) (w := w) (ok_first_left (k := 0) F14 T ) (PySem.W.mg_of X G a14) k14 b14
  have K15 := Kn.mk (base := base) (P := l.prog) (w := w) (ok_next_length (k := 0) F15 T K3 b3' K7 K10) (PySem.W.mg_of X G a15) k15 b15
  have K16 := Kn.mk (base := base) (P := l.prog) (w := w) (ok_left_behind (k := 0) F16 T K3 b3' K5 K6) (PySem.W.mg_of X G a16) k16 b16
  have K17 := Kn.mk (base := base) (P := l.prog) (w := w) (ok_ended_things (k := 0) F17 T K3 b3') (PySem.W.mg_of X G a17) k17 b17
  have K18 := Kn.mk (base := base) (P := l.prog) (w := w) (ok_meal_steps (k := 0) F18 T K3 b3' K5 K13 K14 K15 K16 K17) (PySem.W.mg_of X G a18) k18 b18
  have K19 := Kn.mk (base := base) (P := l.prog) (w := w) (ok_eaten_by (k := 0) F19 T K9) (PySem.W.mg_of X G a19) k19 b19
  have K20 := Kn.mk (base := base) (P := l.prog) (w := w) (ok_meal (k := 0) F20 T K18 K19) (PySem.W.mg_of X G a20) k20 b20
  have K21 := Kn.mk (base := base) (P := l.prog) (w := w) (ok_sums (k := 0) F21 T K3 b3' K13 K4) (PySem.W.mg_of X G a21) k21 b21
  have K22 := Kn.mk (base := base) (P := l.prog) (w := w) (ok_as_good (k := 0) F22 T K21 K8) (PySem.W.mg_of X G a22) k22 b22
  have K23 := Kn.mk (base := base) (P := l.prog) (w := w) (ok_longer (k := 0) F23 T ) (PySem.W.mg_of X G a23) k23 b23
  have K24 := Kn.mk (base := base) (P := l.prog) (w := w) (ok_check_asker (k := 0) F24 T ) (PySem.W.mg_of X G a24) k24 b24
  have K25 := Kn.mk (base := base) (P := l.prog) (w := w) (ok_told_otherwise (k := 0) F25 T K24 K12) (PySem.W.mg_of X G a25) k25 b25
  have K26 := Kn.mk (base := base) (P := l.prog) (w := w) (ok_all_orders (k := 0) F26 T K23) (PySem.W.mg_of X G a26) k26 b26
  have K27 := Kn.mk (base := base) (P := l.prog) (w := w) (ok_row_at (k := 0) F27 T K20) (PySem.W.mg_of X G a27) k27 b27
  have K28 := Kn.mk (base := base) (P := l.prog) (w := w) (ok_word_for (k := 0) F28 T K22) (PySem.W.mg_of X G a28) k28 b28
  have K29 := Kn.mk (base := base) (P := l.prog) (w := w) (ok_lies (k := 0) F29 T K26 K24 K27 K25 K28) (PySem.W.mg_of X G a29) k29 b29
  have K30 := Kn.mk (base := base) (P := l.prog) (w := w) (ok__law_cell_at (k := 0) F30 T ) (PySem.W.mg_of X G a30) k30 b30
  have K31 := Kn.mk (base := base) (P := l.prog) (w := w) (ok__law_order (k := 0) F31 T ) (PySem.W.mg_of X G a31) k31 b31
  have K32 := Kn.mk (base := base) (P := l.prog) (w := w) (ok__law_table (k := 0) F32 T K30 K31) (PySem.W.mg_of X G a32) k32 b32
  have K33 := Kn.mk (base := base) (P := l.prog) (w := w) (ok__law_full (k := 0) F33 T ) (PySem.W.mg_of X G a33) k33 b33
  have K34 := Kn.mk (base := base) (P := l.prog) (w := w) (ok__law_sums (k := 0) F34 T K33) (PySem.W.mg_of X G a34) k34 b34
  have K35 := Kn.mk (base := base) (P := l.prog) (w := w) (ok__law_no_less (k := 0) F35 T ) (PySem.W.mg_of X G a35) k35 b35
  have K36 := Kn.mk (base := base) (P := l.prog) (w := w) (ok__law_word (k := 0) F36 T K34 K35) (PySem.W.mg_of X G a36) k36 b36
  have K37 := Kn.mk (base := base) (P := l.prog) (w := w) (ok__law_lists (k := 0) F37 T ) (PySem.W.mg_of X G a37) k37 b37
  have K38 := Kn.mk (base := base) (P := l.prog) (w := w) (ok__law_due (k := 0) F38 T K20 K37 K36) (PySem.W.mg_of X G a38) k38 b38
  have K39 := Kn.mk (base := base) (P := l.prog) (w := w) (ok__law_shaped (k := 0) F39 T ) (PySem.W.mg_of X G a39) k39 b39
  exact law_ok (ok_law (k := 0) F40 T K30 K32 K38 K39 K29 b29')
theorem walk {l : PySem.W.OpenLaw} {q : Program} {loose : List Str} {XP : (Str → Option Value) → Heap → Prop} {YP : World → Heap → Prop} {d : DefRec} {K : Params → PySem.W.Frag} (hn : l.most = some 63) (hdf : d.params.defaults = [])
    (hY : ∀ (w : World) (h : Heap), YP w h → (K w.params).In h)
    (F : ∀ (w : World) (mg : Str → Option Value) (fa : Addr) (h : Heap), (K w.params).In h → h.Ns mainGlobals mg → mg d.name = some (.ref fa) →
      ∃ fd : FuncData, (∀ (s : Shared) (u : Value), BindsTo s fd ⟨[u], []⟩ [("_law_script", u)]) ∧ ∀ base : Heap, (K w.params).In base → base.Ns mainGlobals mg → FnOk l.prog w (K w.params) mg base CX0 10 fa fd ["_law_script"] (spLaw (K w.params))) :
    PySem.W.WalkO q loose XP YP l.row.toRowW d [] (fun f vs => PySem.call f vs) :=
  L2.walk_of (n := 63) (k := 10) (x := "_law_script") (CX := fun _ => CX0) (sp := fun w => spLaw (K w.params)) hn (by decide) hdf ⟨rfl, by decide, by decide⟩ hY F (fun _ _ a ns hl _ hS => ⟨a, ns, rfl, hS, hl, fun _ => rfl⟩) fun _ _ _ _ _ z => z
end K48
open PySem PySem.W PyProof.Rows
set_option maxRecDepth 100000 in
set_option maxHeartbeats 0 in
theorem PySem.Challenge.cw_lotmeal_k48_lies_at_the_meal_holds : PySem.Challenge.rw_lotmeal_k48_lies_at_the_meal.Holds := by
  w_on; o_law
  refine holds_open (q := H48.hV) (loose := ["fraction", "lies"]) (Xt := H48.hX) (XP := XL H48.hV []) (Yf := (kHook H48.hK H48.hA H48.hA_eq).obs) (Ya := (kHook H48.hK H48.hA H48.hA_eq).val) (YP := (kHook H48.hK H48.hA H48.hA_eq).says) H48.hL (Hook.of _) (Hook.keeps _) (fun s e => xl_of s (Bool.and_eq_true_iff.mp e).1) XL.keeps (by rfl) (by rfl) (by rfl) (fun s e => recFacts_of (Bool.and_eq_true_iff.mp e).2) (by rfl) (by first | assumption | decide +kernel) (by decide +kernel) ⟨rfl, rfl, rfl, rfl, rfl, by decide +kernel⟩ ?hw ?hc
  case hw => w_witness2
  k_fill
  refine K48.walk (l := PySem.Challenge.rw_lotmeal_k48_lies_at_the_meal) rfl rfl (fun w h Y => PySem.W.kIn_of Y) ?F
  case F =>
    intro w mg fa h KX G hmg
    refine' K48.all_mk KX G hmg ?a1 ?l1 ?c1 ?k1 ?a2 ?l2 ?c2 ?k2 ?a3 ?l3 ?d3 ?c3 ?k3 ?a4 ?l4 ?c4 ?k4 ?a5 ?l5 ?c5 ?k5 ?a6 ?l6 ?c6 ?k6 ?a7 ?l7 ?c7 ?k7 ?a8 ?l8 ?c8 ?k8 ?a9 ?l9 ?c9 ?k9 ?a10 ?l10 ?c10 ?k10 ?a11 ?l11 ?c11 ?k11 ?a12 ?l12 ?c12 ?k12 ?a13 ?l13 ?c13 ?k13 ?a14 ?l14 ?c14 ?k14 ?a15 ?l15 ?c15 ?k15 ?a16 ?l16 ?c16 ?k16 ?a17 ?l17 ?c17 ?k17 ?a18 ?l18 ?c18 ?k18 ?a19 ?l19 ?c19 ?k19 ?a20 ?l20 ?c20 ?k20 ?a21 ?l21 ?c21 ?k21 ?a22 ?l22 ?c22 ?k22 ?a23 ?l23 ?c23 ?k23 ?a24 ?l24 ?c24 ?k24 ?a25 ?l25 ?c25 ?k25 ?a26 ?l26 ?c26 ?k26 ?a27 ?l27 ?c27 ?k27 ?a28 ?l28 ?c28 ?k28 ?a29 ?l29 ?d29 ?c29 ?k29 ?a30 ?l30 ?c30 ?k30 ?a31 ?l31 ?c31 ?k31 ?a32 ?l32 ?c32 ?k32 ?a33 ?l33 ?c33 ?k33 ?a34 ?l34 ?c34 ?k34 ?a35 ?l35 ?c35 ?k35 ?a36 ?l36 ?c36 ?k36 ?a37 ?l37 ?c37 ?k37 ?a38 ?l38 ?c38 ?k38 ?a39 ?l39 ?c39 ?k39 ?a40 ?l40 ?c40 ?k40 ?z_isinstance ?z_int ?z_bool ?z_list ?z_tuple ?z_str ?z_len ?z_range ?z_zip ?z_enumerate ?z_sorted ?z_abs ?z_sum ?z_max ?z_min ?z_all ?z_any ?z_set ?g_MOST ?g_MOST_COUNT ?g_MOST_TURNS ?g_MOST_THINGS
    (case a1 => k_is)
    (case l1 => k_is)
    (case c1 => k_is)
    (case k1 => k_is)
    (case a2 => k_is)
    (case l2 => k_is)
    (case c2 => k_is)
    (case k2 => k_is)
    (case a3 => k_is)
    (case l3 => k_is)
    (case d3 => k_is)
    (case c3 => k_is)
    (case k3 => k_is)
    (case a4 => k_is)
    (case l4 => k_is)
    (case c4 => k_is)
    (case k4 => k_is)
    (case a5 => k_is)
    (case l5 => k_is)
    (case c5 => k_is)
    (case k5 => k_is)
    (case a6 => k_is)
    (case l6 => k_is)
    (case c6 => k_is)
    (case k6 => k_is)
    (case a7 => k_is)
    (case l7 => k_is)
    (case c7 => k_is)
    (case k7 => k_is)
    (case a8 => k_is)
    (case l8 => k_is)
    (case c8 => k_is)
    (case k8 => k_is)
    (case a9 => k_is)
    (case l9 => k_is)
    (case c9 => k_is)
    (case k9 => k_is)
    (case a10 => k_is)
    (case l10 => k_is)
    (case c10 => k_is)
    (case k10 => k_is)
    (case a11 => k_is)
    (case l11 => k_is)
    (case c11 => k_is)
    (case k11 => k_is)
    (case a12 => k_is)
    (case l12 => k_is)
    (case c12 => k_is)
    (case k12 => k_is)
    (case a13 => k_is)
    (case l13 => k_is)
    (case c13 => k_is)
    (case k13 => k_is)
    (case a14 => k_is)
    (case l14 => k_is)
    (case c14 => k_is)
    (case k14 => k_is)
    (case a15 => k_is)
    (case l15 => k_is)
    (case c15 => k_is)
    (case k15 => k_is)
    (case a16 => k_is)
    (case l16 => k_is)
    (case c16 => k_is)
    (case k16 => k_is)
    (case a17 => k_is)
    (case l17 => k_is)
    (case c17 => k_is)
    (case k17 => k_is)
    (case a18 => k_is)
    (case l18 => k_is)
    (case c18 => k_is)
    (case k18 => k_is)
    (case a19 => k_is)
    (case l19 => k_is)
    (case c19 => k_is)
    (case k19 => k_is)
    (case a20 => k_is)
    (case l20 => k_is)
    (case c20 => k_is)
    (case k20 => k_is)
    (case a21 => k_is)
    (case l21 => k_is)
    (case c21 => k_is)
    (case k21 => k_is)
    (case a22 => k_is)
    (case l22 => k_is)
    (case c22 => k_is)
    (case k22 => k_is)
    (case a23 => k_is)
    (case l23 => k_is)
    (case c23 => k_is)
    (case k23 => k_is)
    (case a24 => k_is)
    (case l24 => k_is)
    (case c24 => k_is)
    (case k24 => k_is)
    (case a25 => k_is)
    (case l25 => k_is)
    (case c25 => k_is)
    (case k25 => k_is)
    (case a26 => k_is)
    (case l26 => k_is)
    (case c26 => k_is)
    (case k26 => k_is)
    (case a27 => k_is)
    (case l27 => k_is)
    (case c27 => k_is)
    (case k27 => k_is)
    (case a28 => k_is)
    (case l28 => k_is)
    (case c28 => k_is)
    (case k28 => k_is)
    (case a29 => k_is)
    (case l29 => k_is)
    (case d29 => k_is)
    (case c29 => k_is)
    (case k29 => k_is)
    (case a30 => k_is)
    (case l30 => k_is)
    (case c30 => k_is)
    (case k30 => k_is)
    (case a31 => k_is)
    (case l31 => k_is)
    (case c31 => k_is)
    (case k31 => k_is)
    (case a32 => k_is)
    (case l32 => k_is)
    (case c32 => k_is)
    (case k32 => k_is)
    (case a33 => k_is)
    (case l33 => k_is)
    (case c33 => k_is)
    (case k33 => k_is)
    (case a34 => k_is)
    (case l34 => k_is)
    (case c34 => k_is)
    (case k34 => k_is)
    (case a35 => k_is)
    (case l35 => k_is)
    (case c35 => k_is)
    (case k35 => k_is)
    (case a36 => k_is)
    (case l36 => k_is)
    (case c36 => k_is)
    (case k36 => k_is)
    (case a37 => k_is)
    (case l37 => k_is)
    (case c37 => k_is)
    (case k37 => k_is)
    (case a38 => k_is)
    (case l38 => k_is)
    (case c38 => k_is)
    (case k38 => k_is)
    (case a39 => k_is)
    (case l39 => k_is)
    (case c39 => k_is)
    (case k39 => k_is)
    (case a40 => k_is)
    (case l40 => k_is)
    (case c40 => k_is)
    (case k40 => k_is)
    (case z_isinstance => k_is)
    (case z_int => k_is)
    (case z_bool => k_is)
    (case z_list => k_is)
    (case z_tuple => k_is)
    (case z_str => k_is)
    (case z_len => k_is)
    (case z_range => k_is)
    (case z_zip => k_is)
    (case z_enumerate => k_is)
    (case z_sorted => k_is)
    (case z_abs => k_is)
    (case z_sum => k_is)
    (case z_max => k_is)
    (case z_min => k_is)
    (case z_all => k_is)
    (case z_any => k_is)
    (case z_set => k_is)
    (case g_MOST => k_is)
    (case g_MOST_COUNT => k_is)
    (case g_MOST_TURNS => k_is)
    (case g_MOST_THINGS => k_is)
#print axioms PySem.Challenge.cw_lotmeal_k48_lies_at_the_meal_holds
