import PyProof.Rows.All
import Wide.All
import OpenK.AllK
import Wide.FinOn
import Lean
import PyProof.EqAt
import PyProof.EqKinds
import PyProof.TupleCall
import PyProof.NeKinds
import PyProof.ZipIter
import PyProof.WalksEnum
import PyProof.CompUse
import PyProof.ListRange
import PyProof.Rows.SetFrom
import PyProof.Rows.SortWalk
import PyProof.Rows.SeqMore2
import PyProof.SetRoads
import KE.KRevIter
import PyProof.WalksMore
import PyProof.AutoRange
import PyProof.ListNew
import PyProof.Wp
import PyProof.Logic
import PyProof.StationsW
import PyProof.ExcClass2
import OpenK.KGet
import PyProof.Rows.SortRunsK
import PyProof.Rows.SortShellK
import KE.KDictSum
import PyProof.DictTruth
import PyProof.RangeIter
import PyProof.RaisesMany
import PySem.Challenge.RW_lotmeal_k22_which_are_over
set_option Elab.async false
set_option linter.all false
set_option maxRecDepth 100000
set_option maxHeartbeats 4000000
namespace L2
open PySem PySem.W
section
variable {tb : String → Option Builtin} {p : Program} {w : World} {n₀ : Nat} {ann : Option Value}
def topT (tb : String → Option Builtin) (p : Program) (w : World) (n₀ : Nat) (ann : Option Value) : Nat → SharedT → Thread → Option SharedT
  | 0, _, _ => none
  | n + 1, s, t => match through t with
    | true => some s
    | false => match stepOk n₀ ann t with
      | false => none
      | true => match stepT (denote tb) p w s t with
        | some (s', t') => topT tb p w n₀ ann n s' t'
        | none => none
theorem topT_of : ∀ {n : Nat} {s s' : SharedT} {t : Thread}, topT tb p w n₀ ann n s t = some s' → topRun tb p w n₀ ann n s.abs t = some s'.abs
  | 0, _, _, _, h => by cases h
  | n + 1, s, s', t, h => by
    unfold topT at h
    unfold topRun
    cases ht : through t with
    | true => rw [ht] at h; cases h; rfl
    | false =>
      rw [ht] at h
      cases hk : stepOk n₀ ann t with
      | false => rw [hk] at h; cases h
      | true =>
        rw [hk] at h
        cases hs : stepT (denote tb) p w s t with
        | none => rw [hs] at h; cases h
        | some r => obtain ⟨s₂, t₂⟩ := r; rw [hs] at h; rw [stepT_spec hs]; exact topT_of h
end
def treeOf (l : List Obj) : Nat → Nat → Nat → BT
  | 0, _, _ => .nil
  | f + 1, a, b => match l[b]? with
    | some o => .node o (treeOf l f (2 * a) (a + b)) (treeOf l f (2 * a) (2 * a + b))
    | none => .nil
theorem left_tree {p q : Program} {loose : List Str} {Xt : Shared → Bool} {α : Type} {Yf : Shared → α} {Ya : World → α} {N : Nat} {g0 : Bool} {T₀ : Params → BT} {n₀ : Nat} {life : Life} {gs₀ : Array GenState} {d₀ : Drawn} {k₀ : Nat} {ann : Option Value} {M : Nat}
    (open_ : ∀ w : World, (fencedOpening treeTable p w N).map (fun s => (s.heap, s.gens, s.drawn, s.toks)) = some (absHeap (T₀ w.params) n₀ life, gs₀, d₀, k₀))
    (size : ∀ w : World, ((absHeap (T₀ w.params) n₀ life).isNs mainGlobals && gs₀.size == 0, (absHeap (T₀ w.params) n₀ life).nsMap mainGlobals "__annotations__") = (true, ann))
    (run : ∀ (w : World), (fun os => (topT treeTable p w n₀ ann M ⟨T₀ w.params, n₀, life, gs₀, d₀, k₀, os⟩ (topStub p)).map fun st => ((staticsOk (importedModules p.main.body) (absHeap (T₀ w.params) n₀ life) st.abs.heap && namesBound p st.abs.heap && gensDone st.abs && laidKept (absHeap (T₀ w.params) n₀ life) st.abs.heap), openSeen q loose (importedModules p.main.body) Xt g0 st.abs, Yf st.abs)) = fun _ => some (true, openGood q loose, Ya w)) (le : Nat.ble M N = true) : LeftO p q loose Xt Yf Ya N g0 := fun w => by
  obtain ⟨⟨h, gs, d, k, os⟩, e, e'⟩ := Option.map_eq_some_iff.mp (open_ w)
  obtain ⟨rfl, rfl, rfl, rfl⟩ : h = absHeap (T₀ w.params) n₀ life ∧ gs = gs₀ ∧ d = d₀ ∧ k = k₀ := by simpa using e'
  obtain ⟨z1, z3⟩ := Prod.mk.inj (size w)
  obtain ⟨st, hr, hl⟩ := Option.map_eq_some_iff.mp (congrFun (run w) os)
  obtain ⟨l1, hl⟩ := Prod.mk.inj hl
  obtain ⟨l2, l3⟩ := Prod.mk.inj hl
  have r := topRun_mono (N - M) _ _ _ _ (topT_of hr)
  rw [show M + (N - M) = N by have := Nat.le_of_ble_eq_true le; omega] at r
  have t : topFrom treeTable p w N ⟨absHeap (T₀ w.params) n₀ life, gs, d, k, os⟩ = some st.abs := by
    unfold topFrom
    dsimp only
    rw [z1, absHeap_size, z3]
    have r' : topRun treeTable p w n₀ ann N ⟨absHeap (T₀ w.params) n₀ life, gs, d, k, os⟩ (topStub p) = some st.abs := r
    rw [r']
    show (match staticsOk (importedModules p.main.body) (absHeap (T₀ w.params) n₀ life) st.abs.heap && namesBound p st.abs.heap && gensDone st.abs && laidKept (absHeap (T₀ w.params) n₀ life) st.abs.heap with | true => _ | false => _) = _
    rw [l1]
  unfold openEnds
  rw [e]
  show (topFrom treeTable p w N _).map _ = _
  rw [t]
  exact congrArg some (Prod.ext l2 l3)
noncomputable def bootT (P : Params) : BT := treeOf (boot_heap P).objs.toList 12 1 0
theorem boot_abs (P : Params) : absHeap (bootT P) 11 {} = boot_heap P := by kernel_rfl
theorem boot_size (w : World) : ((absHeap (bootT w.params) 11 {}).isNs mainGlobals && (Array.mk [] : Array GenState).size == 0, (absHeap (bootT w.params) 11 {}).nsMap mainGlobals "__annotations__") = (true, some (.ref 6)) := by kernel_rfl
noncomputable def bootRun (p : Program) (w : World) (N : Nat) (os : OsState) : Option SharedT := topT treeTable p w 11 (some (.ref 6)) N ⟨bootT w.params, 11, {}, Array.mk [], boot_drawn, boot_toks, os⟩ (topStub p)
noncomputable def bootOk (p : Program) (w : World) (st : SharedT) : Bool := staticsOk (importedModules p.main.body) (absHeap (bootT w.params) 11 {}) st.abs.heap && namesBound p st.abs.heap && gensDone st.abs && laidKept (absHeap (bootT w.params) 11 {}) st.abs.heap
theorem left_boot {p q : Program} {loose : List Str} {Xt : Shared → Bool} {α : Type} {Yf : Shared → α} {Ya : World → α} {N : Nat} {g0 : Bool} (e : opening p = plainProg p.main.scope.names) (hN : Nat.ble 600 N = true) (f : ∀ s, fenceModules? p s = some s)
    (r1 : ∀ w : World, (fun os => (bootRun p w N os).map fun st => bootOk p w st) = fun _ => some true) (r2 : ∀ w : World, (fun os => (bootRun p w N os).map fun st => openSeen q loose (importedModules p.main.body) Xt g0 st.abs) = fun _ => some (openGood q loose)) (r3 : ∀ w : World, (fun os => (bootRun p w N os).map fun st => Yf st.abs) = fun _ => some (Ya w)) : LeftO p q loose Xt Yf Ya N g0 :=
  left_tree (T₀ := bootT) (n₀ := 11) (life := {}) (ann := some (.ref 6)) (fun w => (boot_open e hN f w).trans (by rw [boot_abs])) boot_size (fun w => funext fun os => by
    have a := congrFun (r1 w) os
    have b := congrFun (r2 w) os
    have c := congrFun (r3 w) os
    show (bootRun p w N os).map (fun st => (bootOk p w st, openSeen q loose (importedModules p.main.body) Xt g0 st.abs, Yf st.abs)) = _
    cases h : bootRun p w N os with
    | none => rw [h] at a; cases a
    | some st =>
      rw [h] at a b c
      show some (bootOk p w st, openSeen q loose (importedModules p.main.body) Xt g0 st.abs, Yf st.abs) = _
      have a' : bootOk p w st = true := Option.some.inj a
      have b' : openSeen q loose (importedModules p.main.body) Xt g0 st.abs = openGood q loose := Option.some.inj b
      have c' : Yf st.abs = Ya w := Option.some.inj c
      rw [a', b', c']) (by rw [Nat.ble_eq]; exact Nat.le_refl _)
def dA (s : Stmt) : Arguments := match s with
  | .FunctionDef _ a _ _ _ _ _ _ _ _ => a
  | _ => { posonlyargs := [], args := [], vararg := none, kwonlyargs := [], kw_defaults := [], kwarg := none, defaults := [] }
def dB (s : Stmt) : List Stmt := match s with
  | .FunctionDef _ _ b _ _ _ _ _ _ _ => b
  | _ => []
def dS (s : Stmt) : Scope := match s with
  | .FunctionDef _ _ _ _ _ _ sc _ _ _ => sc
  | _ => { kind := .function, names := [], isGenerator := false, isCoroutine := false }
def dM (s : Stmt) (j : Nat) : Stmt := match s with
  | .ClassDef _ _ _ b _ _ _ _ _ _ _ => b.getD j (.Pass ⟨0, 0, 0, 0⟩)
  | _ => .Pass ⟨0, 0, 0, 0⟩
def dE (P : Params) (x : Str) (n : Nat) (v : Value) : DictEntry := .mk (PyData.keyHash P x) (.str x n) v
def o0 : Obj := Obj.mk (.type "tuple") none (.seq #[] 0) #[]
def oT (x : Array Value) : Obj := Obj.mk (.type "tuple") none (.seq x 0) #[]
def oC (x : Array Value) : Obj := Obj.mk (.type "code") none (.fields x) #[]
def oD (n : Str) (a l k r x : Nat) (y z : Value) (v u : Nat) : Obj := oC #[.str n a, .str n (a+1), .str "/claim/cut.py" (a+2), .int l 0, .int k 0, .int 0 0, .int 0 0, .int 3 0, .ref r, .bool true, .int 181 0, .ref x, .none, y, z, .ref v, .int u 0, .int l 0, .str "/claim/cut.py" (u+1)]
def oF (n : Str) (s : Stmt) (d m c : Value) : Obj := Obj.mk (.type "function") none (.func (FuncData.mk n n (dA s) (.stmts (dB s)) (dS s) 3 [] d .none .none m none c .none 0)) #[]
end L2
namespace H22
open PySem PySem.W
abbrev pr : Program := PySem.Challenge.rw_lotmeal_k22_which_are_over.row.prog
def tp (i : Nat) : Stmt := pr.main.body.getD i (.Pass ⟨0, 0, 0, 0⟩)
noncomputable def hK : Params → Frag := fun P =>
 (nat_lit 2, boot_o_2 P) ::
 (nat_lit 3, (Obj.mk (.type "dict") none (.dict #[(L2.dE P "__name__" 165 (.str "law_lotmeal_k22_which_are_over" 371)), (L2.dE P "__doc__" 166 .none), (L2.dE P "__package__" 167 .none), (L2.dE P "__loader__" 168 (.builtin "__main__.__loader__#opaque")), (L2.dE P "__spec__" 169 .none), (L2.dE P "__annotations__" 170 (.ref 6)), (L2.dE P "__builtins__" 171 (.ref 4)), (L2.dE P "__file__" 173 (.str "/claim/cut.py" 172)), (L2.dE P "__cached__" 174 .none), (L2.dE P "LotError" 206 (.ref 24)), (L2.dE P "NoNumber" 222 (.ref 37)), (L2.dE P "TooGreat" 238 (.ref 49)), (L2.dE P "NoAsker" 254 (.ref 61)), (L2.dE P "NoThing" 279 (.ref 80)), (L2.dE P "Twice" 304 (.ref 99)), (L2.dE P "is_whole" 313 (.ref 108)), (L2.dE P "common_part" 322 (.ref 115)), (L2.dE P "fraction" 332 (.ref 123)), (L2.dE P "MOST" 336 (.int 6 335)), (L2.dE P "MOST_COUNT" 338 (.int 9 337)), (L2.dE P "check_orders" 344 (.ref 128)), (L2.dE P "table_of" 350 (.ref 133)), (L2.dE P "full_order" 356 (.ref 138)), (L2.dE P "wishes" 364 (.ref 143)), (L2.dE P "over_pairs" 370 (.ref 148)), (L2.dE P "_law_cell_at" 380 (.ref 155)), (L2.dE P "_law_stream" 391 (.ref 162)), (L2.dE P "_law_order" 403 (.ref 169)), (L2.dE P "_law_orders" 413 (.ref 176)), (L2.dE P "_law_counts" 423 (.ref 183)), (L2.dE P "_law_divisor" 431 (.ref 190)), (L2.dE P "_law_lowest" 440 (.ref 197)), (L2.dE P "_law_turn_deal" 446 (.ref 202)), (L2.dE P "_law_any_deal" 452 (.ref 207)), (L2.dE P "_law_drawn" 458 (.ref 212)), (L2.dE P "_law_tabled" 464 (.ref 217)), (L2.dE P "_law_place" 473 (.ref 224)), (L2.dE P "_law_due" 479 (.ref 229)), (L2.dE P "_law_told" 489 (.ref 236)), (L2.dE P "law" 495 (.ref 241))] 40) #[])) ::
 (nat_lit 15, (L2.oT #[(.type "ValueError")])) ::
 (nat_lit 22, L2.o0) ::
 (nat_lit 23, (Obj.mk (.type "dict") none (.dict #[(L2.dE P "__module__" 196 (.str "lotmeal.errors" 187)), (L2.dE P "__firstlineno__" 200 (.int 2 199)), (L2.dE P "__static_attributes__" 201 (.ref 22)), (L2.dE P "__weakref__" 203 (.ref 25)), (L2.dE P "__doc__" 204 .none)] 3) #[])) ::
 (nat_lit 24, (Obj.mk (.type "type") none (.cls (ClassData.mk "LotError" [(.type "ValueError")] [(.ref 24), (.type "ValueError"), (.type "Exception"), (.type "BaseException"), (.type "object")] 23 "LotError" true [] [(.ref 37), (.ref 49), (.ref 61), (.ref 80), (.ref 99)] false none false)) #[(some (.ref 15)), none, (some (.str "LotError" 189)), (some (.str "LotError" 197)), (some (.builtin "ValueError.__new__")), (some (.bool true))])) ::
 (nat_lit 25, (Obj.mk (.type "getset_descriptor") none (.fields #[(.str "__weakref__" 202), (.ref 24), (.builtin "ExceptionGroup.__weakref__"), .none]) #[])) ::
 (nat_lit 28, (L2.oT #[(.ref 24)])) ::
 (nat_lit 35, L2.o0) ::
 (nat_lit 36, (Obj.mk (.type "dict") none (.dict #[(L2.dE P "__module__" 214 (.str "lotmeal.errors" 187)), (L2.dE P "__firstlineno__" 218 (.int 4 217)), (L2.dE P "__static_attributes__" 219 (.ref 35)), (L2.dE P "__doc__" 220 .none)] 2) #[])) ::
 (nat_lit 37, (Obj.mk (.type "type") none (.cls (ClassData.mk "NoNumber" [(.ref 24)] [(.ref 37), (.ref 24), (.type "ValueError"), (.type "Exception"), (.type "BaseException"), (.type "object")] 36 "NoNumber" true [] [] false none false)) #[(some (.ref 28)), none, (some (.str "NoNumber" 207)), (some (.str "NoNumber" 215)), (some (.builtin "ValueError.__new__")), (some (.bool true))])) ::
 (nat_lit 40, (L2.oT #[(.ref 24)])) ::
 (nat_lit 47, L2.o0) ::
 (nat_lit 48, (Obj.mk (.type "dict") none (.dict #[(L2.dE P "__module__" 230 (.str "lotmeal.errors" 187)), (L2.dE P "__firstlineno__" 234 (.int 6 233)), (L2.dE P "__static_attributes__" 235 (.ref 47)), (L2.dE P "__doc__" 236 .none)] 2) #[])) ::
 (nat_lit 49, (Obj.mk (.type "type") none (.cls (ClassData.mk "TooGreat" [(.ref 24)] [(.ref 49), (.ref 24), (.type "ValueError"), (.type "Exception"), (.type "BaseException"), (.type "object")] 48 "TooGreat" true [] [] false none false)) #[(some (.ref 40)), none, (some (.str "TooGreat" 223)), (some (.str "TooGreat" 231)), (some (.builtin "ValueError.__new__")), (some (.bool true))])) ::
 (nat_lit 52, (L2.oT #[(.ref 24)])) ::
 (nat_lit 59, L2.o0) ::
 (nat_lit 60, (Obj.mk (.type "dict") none (.dict #[(L2.dE P "__module__" 246 (.str "lotmeal.errors" 187)), (L2.dE P "__firstlineno__" 250 (.int 8 249)), (L2.dE P "__static_attributes__" 251 (.ref 59)), (L2.dE P "__doc__" 252 .none)] 2) #[])) ::
 (nat_lit 61, (Obj.mk (.type "type") none (.cls (ClassData.mk "NoAsker" [(.ref 24)] [(.ref 61), (.ref 24), (.type "ValueError"), (.type "Exception"), (.type "BaseException"), (.type "object")] 60 "NoAsker" true [] [] false none false)) #[(some (.ref 52)), none, (some (.str "NoAsker" 239)), (some (.str "NoAsker" 247)), (some (.builtin "ValueError.__new__")), (some (.bool true))])) ::
 (nat_lit 64, (L2.oT #[(.ref 24)])) ::
 (nat_lit 71, L2.o0) ::
 (nat_lit 73, (L2.oT #[(.str "self" 270), (.str "asker" 271)])) ::
 (nat_lit 74, L2.o0) ::
 (nat_lit 76, (L2.oC #[(.str "__init__" 267), (.str "NoThing.__init__" 268), (.str "/claim/cut.py" 269), (.int 12 0), (.int 2 0), (.int 0 0), (.int 0 0), (.int 3 0), (.ref 71), (.bool true), (.int 181 0), (.ref 72), .none, (.ref 73), (.ref 74), (.ref 75), (.int 272 0), (.int 12 0), (.str "/claim/cut.py" 273)])) ::
 (nat_lit 77, (Obj.mk (.type "function") none (.func (FuncData.mk "__init__" "NoThing.__init__" (L2.dA (L2.dM (tp 5) 0)) (.stmts (L2.dB (L2.dM (tp 5) 0))) (L2.dS (L2.dM (tp 5) 0)) 3 [] .none .none .none (.str "lotmeal.errors" 187) none (.ref 76) .none 0)) #[])) ::
 (nat_lit 78, (L2.oT #[(.str "asker" 275)])) ::
 (nat_lit 79, (Obj.mk (.type "dict") none (.dict #[(L2.dE P "__module__" 262 (.str "lotmeal.errors" 187)), (L2.dE P "__firstlineno__" 266 (.int 10 265)), (L2.dE P "__init__" 274 (.ref 77)), (L2.dE P "__static_attributes__" 276 (.ref 78)), (L2.dE P "__doc__" 277 .none)] 2) #[])) ::
 (nat_lit 80, (Obj.mk (.type "type") none (.cls (ClassData.mk "NoThing" [(.ref 24)] [(.ref 80), (.ref 24), (.type "ValueError"), (.type "Exception"), (.type "BaseException"), (.type "object")] 79 "NoThing" true [] [] false none false)) #[(some (.ref 64)), none, (some (.str "NoThing" 255)), (some (.str "NoThing" 263)), (some (.builtin "ValueError.__new__")), (some (.bool true))])) ::
 (nat_lit 83, (L2.oT #[(.ref 24)])) ::
 (nat_lit 90, L2.o0) ::
 (nat_lit 92, (L2.oT #[(.str "self" 295), (.str "asker" 296)])) ::
 (nat_lit 93, L2.o0) ::
 (nat_lit 95, (L2.oC #[(.str "__init__" 292), (.str "Twice.__init__" 293), (.str "/claim/cut.py" 294), (.int 17 0), (.int 2 0), (.int 0 0), (.int 0 0), (.int 3 0), (.ref 90), (.bool true), (.int 181 0), (.ref 91), .none, (.ref 92), (.ref 93), (.ref 94), (.int 297 0), (.int 17 0), (.str "/claim/cut.py" 298)])) ::
 (nat_lit 96, (Obj.mk (.type "function") none (.func (FuncData.mk "__init__" "Twice.__init__" (L2.dA (L2.dM (tp 6) 0)) (.stmts (L2.dB (L2.dM (tp 6) 0))) (L2.dS (L2.dM (tp 6) 0)) 3 [] .none .none .none (.str "lotmeal.errors" 187) none (.ref 95) .none 0)) #[])) ::
 (nat_lit 97, (L2.oT #[(.str "asker" 300)])) ::
 (nat_lit 98, (Obj.mk (.type "dict") none (.dict #[(L2.dE P "__module__" 287 (.str "lotmeal.errors" 187)), (L2.dE P "__firstlineno__" 291 (.int 15 290)), (L2.dE P "__init__" 299 (.ref 96)), (L2.dE P "__static_attributes__" 301 (.ref 97)), (L2.dE P "__doc__" 302 .none)] 2) #[])) ::
 (nat_lit 99, (Obj.mk (.type "type") none (.cls (ClassData.mk "Twice" [(.ref 24)] [(.ref 99), (.ref 24), (.type "ValueError"), (.type "Exception"), (.type "BaseException"), (.type "object")] 98 "Twice" true [] [] false none false)) #[(some (.ref 83)), none, (some (.str "Twice" 280)), (some (.str "Twice" 288)), (some (.builtin "ValueError.__new__")), (some (.bool true))])) ::
 (nat_lit 102, L2.o0) ::
 (nat_lit 104, (L2.oT #[(.str "number" 310)])) ::
 (nat_lit 105, L2.o0) ::
 (nat_lit 107, (L2.oD "is_whole" 307 21 1 102 103 (.ref 104) (.ref 105) 106 311)) ::
 (nat_lit 108, (L2.oF "is_whole" (tp 8) .none (.str "lotmeal.fractions" 305) (.ref 107))) ::
 (nat_lit 109, L2.o0) ::
 (nat_lit 111, (L2.oT #[(.str "one" 317), (.str "other" 318), (.str "rest" 319)])) ::
 (nat_lit 112, L2.o0) ::
 (nat_lit 114, (L2.oD "common_part" 314 23 2 109 110 (.ref 111) (.ref 112) 113 320)) ::
 (nat_lit 115, (L2.oF "common_part" (tp 9) .none (.str "lotmeal.fractions" 305) (.ref 114))) ::
 (nat_lit 116, (L2.oT #[(.int 1 323)])) ::
 (nat_lit 117, L2.o0) ::
 (nat_lit 119, (L2.oT #[(.str "top" 327), (.str "bottom" 328), (.str "part" 329)])) ::
 (nat_lit 120, L2.o0) ::
 (nat_lit 122, (L2.oD "fraction" 324 29 2 117 118 (.ref 119) (.ref 120) 121 330)) ::
 (nat_lit 123, (L2.oF "fraction" (tp 10) (.ref 116) (.str "lotmeal.fractions" 305) (.ref 122))) ::
 (nat_lit 124, L2.o0) ::
 (nat_lit 127, (L2.oD "check_orders" 339 41 2 124 125 .none .none 126 342)) ::
 (nat_lit 128, (L2.oF "check_orders" (tp 14) .none (.str "lotmeal.tables" 333) (.ref 127))) ::
 (nat_lit 129, L2.o0) ::
 (nat_lit 132, (L2.oD "table_of" 345 48 2 129 130 .none .none 131 348)) ::
 (nat_lit 133, (L2.oF "table_of" (tp 15) .none (.str "lotmeal.tables" 333) (.ref 132))) ::
 (nat_lit 134, L2.o0) ::
 (nat_lit 137, (L2.oD "full_order" 351 57 2 134 135 .none .none 136 354)) ::
 (nat_lit 138, (L2.oF "full_order" (tp 16) .none (.str "lotmeal.tables" 333) (.ref 137))) ::
 (nat_lit 139, L2.o0) ::
 (nat_lit 142, (L2.oD "wishes" 359 62 2 139 140 .none .none 141 362)) ::
 (nat_lit 143, (L2.oF "wishes" (tp 18) .none (.str "lotmeal.judged" 357) (.ref 142))) ::
 (nat_lit 144, L2.o0) ::
 (nat_lit 147, (L2.oD "over_pairs" 365 70 2 144 145 .none .none 146 368)) ::
 (nat_lit 148, (L2.oF "over_pairs" (tp 19) .none (.str "lotmeal.judged" 357) (.ref 147))) ::
 (nat_lit 149, L2.o0) ::
 (nat_lit 151, (L2.oT #[(.str "_law_script" 376), (.str "_law_k" 377)])) ::
 (nat_lit 152, L2.o0) ::
 (nat_lit 154, (L2.oD "_law_cell_at" 373 73 2 149 150 (.ref 151) (.ref 152) 153 378)) ::
 (nat_lit 155, (L2.oF "_law_cell_at" (tp 21) .none (.str "law_lotmeal_k22_which_are_over" 371) (.ref 154))) ::
 (nat_lit 156, L2.o0) ::
 (nat_lit 158, (L2.oT #[(.str "_law_cell" 384), (.str "_law_many" 385), (.str "_law_drawn_here" 386), (.str "_law_found" 387), (.str "_law_k" 388)])) ::
 (nat_lit 159, L2.o0) ::
 (nat_lit 161, (L2.oD "_law_stream" 381 77 2 156 157 (.ref 158) (.ref 159) 160 389)) ::
 (nat_lit 162, (L2.oF "_law_stream" (tp 22) .none (.str "law_lotmeal_k22_which_are_over" 371) (.ref 161))) ::
 (nat_lit 163, L2.o0) ::
 (nat_lit 165, (L2.oT #[(.str "_law_cell" 395), (.str "_law_many" 396), (.str "_law_some" 397), (.str "_law_left" 398), (.str "_law_order_here" 399), (.str "_law_k" 400)])) ::
 (nat_lit 166, L2.o0) ::
 (nat_lit 168, (L2.oD "_law_order" 392 84 2 163 164 (.ref 165) (.ref 166) 167 401)) ::
 (nat_lit 169, (L2.oF "_law_order" (tp 23) .none (.str "law_lotmeal_k22_which_are_over" 371) (.ref 168))) ::
 (nat_lit 170, L2.o0) ::
 (nat_lit 172, (L2.oT #[(.str "_law_cells" 407), (.str "_law_many" 408), (.str "_law_orders_here" 409), (.str "_law_cell" 410)])) ::
 (nat_lit 173, L2.o0) ::
 (nat_lit 175, (L2.oD "_law_orders" 404 93 2 170 171 (.ref 172) (.ref 173) 174 411)) ::
 (nat_lit 176, (L2.oF "_law_orders" (tp 24) .none (.str "law_lotmeal_k22_which_are_over" 371) (.ref 175))) ::
 (nat_lit 177, L2.o0) ::
 (nat_lit 179, (L2.oT #[(.str "_law_cell" 417), (.str "_law_many" 418), (.str "_law_found" 419), (.str "_law_one" 420)])) ::
 (nat_lit 180, L2.o0) ::
 (nat_lit 182, (L2.oD "_law_counts" 414 101 2 177 178 (.ref 179) (.ref 180) 181 421)) ::
 (nat_lit 183, (L2.oF "_law_counts" (tp 25) .none (.str "law_lotmeal_k22_which_are_over" 371) (.ref 182))) ::
 (nat_lit 184, L2.o0) ::
 (nat_lit 186, (L2.oT #[(.str "_law_one" 427), (.str "_law_other" 428)])) ::
 (nat_lit 187, L2.o0) ::
 (nat_lit 189, (L2.oD "_law_divisor" 424 106 2 184 185 (.ref 186) (.ref 187) 188 429)) ::
 (nat_lit 190, (L2.oF "_law_divisor" (tp 26) .none (.str "law_lotmeal_k22_which_are_over" 371) (.ref 189))) ::
 (nat_lit 191, L2.o0) ::
 (nat_lit 193, (L2.oT #[(.str "_law_top" 435), (.str "_law_bottom" 436), (.str "_law_by" 437)])) ::
 (nat_lit 194, L2.o0) ::
 (nat_lit 196, (L2.oD "_law_lowest" 432 110 2 191 192 (.ref 193) (.ref 194) 195 438)) ::
 (nat_lit 197, (L2.oF "_law_lowest" (tp 27) .none (.str "law_lotmeal_k22_which_are_over" 371) (.ref 196))) ::
 (nat_lit 198, L2.o0) ::
 (nat_lit 201, (L2.oD "_law_turn_deal" 441 113 3 198 199 .none .none 200 444)) ::
 (nat_lit 202, (L2.oF "_law_turn_deal" (tp 28) .none (.str "law_lotmeal_k22_which_are_over" 371) (.ref 201))) ::
 (nat_lit 203, L2.o0) ::
 (nat_lit 206, (L2.oD "_law_any_deal" 447 128 3 203 204 .none .none 205 450)) ::
 (nat_lit 207, (L2.oF "_law_any_deal" (tp 29) .none (.str "law_lotmeal_k22_which_are_over" 371) (.ref 206))) ::
 (nat_lit 208, L2.o0) ::
 (nat_lit 211, (L2.oD "_law_drawn" 453 138 3 208 209 .none .none 210 456)) ::
 (nat_lit 212, (L2.oF "_law_drawn" (tp 30) .none (.str "law_lotmeal_k22_which_are_over" 371) (.ref 211))) ::
 (nat_lit 213, L2.o0) ::
 (nat_lit 216, (L2.oD "_law_tabled" 459 155 1 213 214 .none .none 215 462)) ::
 (nat_lit 217, (L2.oF "_law_tabled" (tp 31) .none (.str "law_lotmeal_k22_which_are_over" 371) (.ref 216))) ::
 (nat_lit 218, L2.o0) ::
 (nat_lit 220, (L2.oT #[(.str "_law_order_here" 468), (.str "_law_many" 469), (.str "_law_one" 470)])) ::
 (nat_lit 221, L2.o0) ::
 (nat_lit 223, (L2.oD "_law_place" 465 160 3 218 219 (.ref 220) (.ref 221) 222 471)) ::
 (nat_lit 224, (L2.oF "_law_place" (tp 32) .none (.str "law_lotmeal_k22_which_are_over" 371) (.ref 223))) ::
 (nat_lit 225, L2.o0) ::
 (nat_lit 228, (L2.oD "_law_due" 474 166 3 225 226 .none .none 227 477)) ::
 (nat_lit 229, (L2.oF "_law_due" (tp 33) .none (.str "law_lotmeal_k22_which_are_over" 371) (.ref 228))) ::
 (nat_lit 230, L2.o0) ::
 (nat_lit 232, (L2.oT #[(.str "_law_found" 483), (.str "_law_due_here" 484), (.str "_law_row" 485), (.str "_law_other" 486)])) ::
 (nat_lit 233, L2.o0) ::
 (nat_lit 235, (L2.oD "_law_told" 480 175 2 230 231 (.ref 232) (.ref 233) 234 487)) ::
 (nat_lit 236, (L2.oF "_law_told" (tp 34) .none (.str "law_lotmeal_k22_which_are_over" 371) (.ref 235))) ::
 (nat_lit 237, L2.o0) ::
 (nat_lit 240, (L2.oD "law" 490 184 1 237 238 .none .none 239 493)) ::
 (nat_lit 241, (L2.oF "law" (tp 35) .none (.str "law_lotmeal_k22_which_are_over" 371) (.ref 240))) :: []
def hA : List Addr := [2, 3, 15, 22, 23, 24, 25, 28, 35, 36, 37, 40, 47, 48, 49, 52, 59, 60, 61, 64, 71, 73, 74, 76, 77, 78, 79, 80, 83, 90, 92, 93, 95, 96, 97, 98, 99, 102, 104, 105, 107, 108, 109, 111, 112, 114, 115, 116, 117, 119, 120, 122, 123, 124, 127, 128, 129, 132, 133, 134, 137, 138, 139, 142, 143, 144, 147, 148, 149, 151, 152, 154, 155, 156, 158, 159, 161, 162, 163, 165, 166, 168, 169, 170, 172, 173, 175, 176, 177, 179, 180, 182, 183, 184, 186, 187, 189, 190, 191, 193, 194, 196, 197, 198, 201, 202, 203, 206, 207, 208, 211, 212, 213, 216, 217, 218, 220, 221, 223, 224, 225, 228, 229, 230, 232, 233, 235, 236, 237, 240, 241]
theorem hA_eq (P : Params) : hA = (hK P).map (·.1) := by kernel_rfl
def hV : Program := { pr with main := { pr.main with body := [1, 2, 3, 4, 5, 6, 8, 9, 12, 13, 14, 15, 16, 18, 19, 21, 22, 23, 24, 25, 26, 27, 28, 29, 30, 31, 32, 33, 34, 35].map tp } }
def hX (s : Shared) : Bool := xlAt hV [] s && recOk (RowW.records PySem.Challenge.rw_lotmeal_k22_which_are_over.row.toRowW) s
noncomputable abbrev hH : Hook := kHook hK hA hA_eq
theorem h1 : opening pr = plainProg pr.main.scope.names := by kernel_rfl
theorem h2 (s : Shared) : fenceModules? pr s = some s := by kernel_rfl
theorem h3 (w : World) : (fun os => (L2.bootRun pr w 4210 os).map fun st => L2.bootOk pr w st) = fun _ => some true := by kernel_rfl
theorem h4 (w : World) : (fun os => (L2.bootRun pr w 4210 os).map fun st => openSeen hV ["fraction"] (importedModules pr.main.body) hX true st.abs) = fun _ => some (openGood hV ["fraction"]) := by kernel_rfl
theorem h5 (w : World) : (fun os => (L2.bootRun pr w 4210 os).map fun st => hH.obs st.abs) = fun _ => some (hH.val w) := by kernel_rfl
theorem hL : LeftO pr hV ["fraction"] hX hH.obs hH.val 4210 := L2.left_boot h1 (by decide) h2 h3 h4 h5
end H22
namespace L2
open PySem PySem.Spec PyProof.Rows
abbrev Key := Sum Int Str
def keyIs : Key → Value → Bool
  | .inl k, v => Value.isInt k v
  | .inr x, v => Value.isStrOf x v
def keyH (w : World) : Key → Int
  | .inl k => hashInt k
  | .inr x => hashStr w x
theorem keyIs_shape : ∀ {k : Key} {v : Value}, keyIs k v = true → (∃ i t, k = Sum.inl i ∧ v = Value.int i t) ∨ (∃ x t, k = Sum.inr x ∧ v = Value.str x t)
  | .inl i, v, h => by
    obtain ⟨t, e⟩ := Value.isInt_shape (k := i) (v := v) h
    exact .inl ⟨i, t, rfl, e⟩
  | .inr x, v, h => by
    obtain ⟨t, e⟩ := Value.isStrOf_shape (x := x) (v := v) h
    exact .inr ⟨x, t, rfl, e⟩
theorem keyIs_int (i : Int) (t : Tok) : keyIs (.inl i) (.int i t) = true := by simp [keyIs, Value.isInt]
theorem key_ll (a b : Int) : decide ((Sum.inl a : Key) = Sum.inl b) = (a == b) := by
  by_cases e : a = b
  · subst e; simp
  · have h : ¬ (Sum.inl a : Key) = Sum.inl b := fun q => e (Sum.inl.inj q)
    rw [decide_eq_false h]
    exact (beq_eq_false_iff_ne.mpr e).symm
theorem key_rr (a b : Str) : decide ((Sum.inr a : Key) = Sum.inr b) = decide (a = b) := by
  by_cases e : a = b
  · subst e; simp
  · have h : ¬ (Sum.inr a : Key) = Sum.inr b := fun q => e (Sum.inr.inj q)
    rw [decide_eq_false h, decide_eq_false e]
theorem key_lr (a : Int) (b : Str) : decide ((Sum.inl a : Key) = Sum.inr b) = false := decide_eq_false (fun q => nomatch q)
theorem key_rl (a : Str) (b : Int) : decide ((Sum.inr a : Key) = Sum.inl b) = false := decide_eq_false (fun q => nomatch q)
def mixKind (prog : Program) (w : World) : PySem.KeyKind prog w Key where
  is := keyIs
  hash := keyH w
  inj := fun v a b ha hb => by
    rcases keyIs_shape ha with ⟨i, t, rfl, rfl⟩ | ⟨x, t, rfl, rfl⟩
    · rcases keyIs_shape hb with ⟨j, u, rfl, e⟩ | ⟨y, u, rfl, e⟩
      · injection e with e1 _; rw [e1]
      · exact nomatch e
    · rcases keyIs_shape hb with ⟨j, u, rfl, e⟩ | ⟨y, u, rfl, e⟩
      · exact nomatch e
      · injection e with e1 _; rw [e1]
  byValue := fun k v h => by
    rcases keyIs_shape h with ⟨i, t, rfl, rfl⟩ | ⟨x, t, rfl, rfl⟩ <;> rfl
  pyHash := fun hv h => by
    rcases keyIs_shape hv with ⟨i, t, rfl, rfl⟩ | ⟨x, t, rfl, rfl⟩
    · exact wpAny_pyHash_int h
    · exact wpAny_pyHash_str h
  eqBool := fun hu hv h => by
    rcases keyIs_shape hu with ⟨i, t, rfl, rfl⟩ | ⟨x, t, rfl, rfl⟩
    · rcases keyIs_shape hv with ⟨j, u, rfl, rfl⟩ | ⟨y, u, rfl, rfl⟩
      · rw [key_ll] at h; exact wpAny_eqBool_int h
      · rw [key_lr] at h; exact SeqAt.EqAt.int_str i t y u _ _ _ _ h
    · rcases keyIs_shape hv with ⟨j, u, rfl, rfl⟩ | ⟨y, u, rfl, rfl⟩
      · rw [key_rl] at h; exact SeqAt.EqAt.str_int x t j u _ _ _ _ h
      · rw [key_rr] at h; exact wpAny_eqBool_str h
  «strs» := fun k x t v h => by
    rcases keyIs_shape h with ⟨i, u, rfl, e⟩ | ⟨y, u, rfl, e⟩
    · exact nomatch e
    · injection e with e1 _
      subst e1
      cases v <;> rfl
theorem mixKind_int (prog : Program) (w : World) (i : Int) (t : Tok) : (mixKind prog w).is (.inl i) (.int i t) = true := keyIs_int i t
end L2
namespace L2
open PySem PySem.Spec PyProof.Rows
inductive V where
  | non | bl (b : Bool) | int (i : Int) | str (x : Str) | byt (b : Array UInt8) | flt (b : UInt64) | ref (a : Addr) | ty (n : String)
  deriving DecidableEq
def RelV : V → Value → Prop
  | .non, u => u = Value.none
  | .bl b, u => u = Value.bool b
  | .int i, u => ∃ t, u = Value.int i t
  | .str x, u => ∃ t, u = Value.str x t
  | .byt b, u => ∃ t, u = Value.bytes b t
  | .flt b, u => ∃ t, u = Value.float b t
  | .ref a, u => u = Value.ref a
  | .ty n, u => u = Value.type n
abbrev Vals : List V → List Value → Prop := Paired RelV
theorem Vals.length {xs : List V} {us : List Value} (r : Vals xs us) : xs.length = us.length := Paired.length r
theorem Vals.get : ∀ {xs : List V} {us : List Value} {i : Nat} {x : V}, Vals xs us → xs[i]? = some x → ∃ u, us[i]? = some u ∧ RelV x u
  | _, _, _, _, .nil, e => by simp at e
  | _, _, 0, _, .cons r _, e => by simp at e; subst e; exact ⟨_, rfl, r⟩
  | _, _, i + 1, x, .cons _ t, e => by
    obtain ⟨u, h1, h2⟩ := Vals.get (i := i) (x := x) t (by simpa using e)
    exact ⟨u, by simpa using h1, h2⟩
theorem Vals.set {x : V} {u : Value} (r : RelV x u) : ∀ {xs : List V} {us : List Value} (i : Nat), Vals xs us → Vals (xs.set i x) (us.set i u)
  | _, _, _, .nil => .nil
  | _, _, 0, .cons _ t => .cons r t
  | _, _, i + 1, .cons q t => .cons q (Vals.set r i t)
theorem Vals.append : ∀ {xs ys : List V} {us ws : List Value}, Vals xs us → Vals ys ws → Vals (xs ++ ys) (us ++ ws)
  | _, _, _, _, .nil, s => s
  | _, _, _, _, .cons r t, s => .cons r (Vals.append t s)
theorem Vals.take : ∀ {xs : List V} {us : List Value} (n : Nat), Vals xs us → Vals (xs.take n) (us.take n)
  | _, _, 0, _ => .nil
  | _, _, _ + 1, .nil => .nil
  | _, _, n + 1, .cons r t => .cons r (Vals.take n t)
theorem Vals.drop : ∀ {xs : List V} {us : List Value} (n : Nat), Vals xs us → Vals (xs.drop n) (us.drop n)
  | _, _, 0, r => r
  | _, _, _ + 1, .nil => .nil
  | _, _, n + 1, .cons _ t => Vals.drop n t
def RelO : Option V → Option Value → Prop
  | some v, some u => RelV v u
  | none, none => True
  | _, _ => False
def KV {κ : Type} : List (κ × V) → List (κ × Value) → Prop := Paired fun (p : κ × V) (q : κ × Value) => p.1 = q.1 ∧ RelV p.2 q.2
def kV : Key → V
  | .inl i => .int i
  | .inr x => .str x
inductive HO where
  | lst (xs : List V)
  | tup (xs : List V)
  | dK (kvs : List (Key × V)) | dT (kvs : List (List Key × V))
  | set (S : Int → Bool) (n : Nat)
  | ins (C dx : Addr) (fs : List (Str × V))
  | own (x : Addr)
  | xd (fs : List (Str × V))
  | met (f x : Addr)
  | rng (lo hi : Int)
  | frz (o : Obj) (u : HO)
  | tbl (ps : Array Value)
  | ext (φ : Heap → Prop)
abbrev Hp := Addr → Option HO
def upd (H : Hp) (a : Addr) (o : HO) : Hp := fun b => if b = a then some o else H b
theorem upd_same {H : Hp} {a : Addr} {o : HO} : upd H a o a = some o := by unfold upd; rw [if_pos rfl]
theorem upd_ne {H : Hp} {a b : Addr} {o : HO} (h : b ≠ a) : upd H a o b = H b := by unfold upd; rw [if_neg h]
theorem ne_of_none {H : Hp} {a b : Addr} {o : HO} (h : H a = some o) (h' : H b = none) : a ≠ b := by
  intro e; subst e; rw [h] at h'; cases h'
section
variable (P : Program) (w : World)
def ObjOk (H : Hp) (h : Heap) (a : Addr) : HO → Prop
  | .lst xs => xs.length ≤ sizeLine ∧ ∃ (its : List Value) (n : Nat), Vals xs its ∧ h.get? a = some { cls := .type "list", data := .seq its.toArray n }
  | .tup xs => xs.length ≤ sizeLine ∧ ∃ its : List Value, Vals xs its ∧ IsTup h a its.toArray
  | .dK kvs => kvs.length ≤ sizeLine ∧ (a == sysModules) = false ∧ ∃ vs, KV kvs vs ∧ h.DictOf (mixKind P w) a vs
  | .dT kvs => kvs.length ≤ sizeLine ∧ (a == sysModules) = false ∧ ∃ xs : List (List Key × Addr × Value),
      Paired (fun (p : List Key × V) (q : List Key × Addr × Value) => p.1 = q.1 ∧ H q.2.1 = some (.tup (p.1.map kV)) ∧ RelV p.2 q.2.2) kvs xs ∧
      ∃ o es ep, h.get? a = some o ∧ o.ExactDict ∧ o.data = .dict es ep ∧ es.toList = xs.map (entryOfKey (tupleKind (mixKind P w))) ∧ (xs.map (·.1)).Nodup
  | .set S n => h.SetOf (intKind P w) a S n
  | .ins C dx fs => H dx = some (.own a) ∧ fs.length ≤ 1000 ∧ dx ≠ a ∧ h.get? a = some (PySem.W.instObj C dx) ∧
      ∃ mA, h.Ns1 dx mA ∧ (∀ f, RelO (fs.lookup f) (mA f)) ∧ PySem.Within mA (fs.map (·.1))
  | .own _ => ∃ o, h.get? a = some o
  | .xd fs => ∃ mA, h.Ns1 a mA ∧ ∀ f, RelO (fs.lookup f) (mA f)
  | .rng lo hi => ∃ t u v, h.get? a = some { cls := .type "range", data := .fields #[.int lo t, .int hi u, .int 1 v] }
  | .frz o u => h.get? a = some o ∧ ObjOk H h a u
  | .tbl ps => h.get? a = some { cls := .none, data := .fields ps }
  | .met f x => h.get? a = some (PySem.W.methodObj (.ref f) (.ref x))
  | .ext φ => φ h ∧ (∃ o, h.get? a = some o) ∧ ∀ h1 h2 : Heap, φ h1 → (∀ o, h1.get? a = some o → h2.get? a = some o) → φ h2
def HOk (H : Hp) (h : Heap) : Prop := ∀ a o, H a = some o → ObjOk P w H h a o
end
section
variable {P : Program} {w : World} {H H' : Hp} {h h' : Heap} {a : Addr} {o : HO}
theorem ObjOk.lt (x : ObjOk P w H h a o) : a < h.objs.size := by
  cases o with
  | lst xs => obtain ⟨_, _, _, _, e⟩ := x; exact Heap.lt_size e
  | tup xs => obtain ⟨_, _, _, p⟩ := x; exact p.lt
  | dK kvs => obtain ⟨_, _, _, _, o, _, _, e, _⟩ := x; exact Heap.lt_size e
  | dT kvs => obtain ⟨_, _, _, _, o, _, _, e, _⟩ := x; exact Heap.lt_size e
  | set S n => obtain ⟨o, _, _, _, e, _⟩ := x; exact Heap.lt_size e
  | ins C dx fs => obtain ⟨_, _, _, e, _⟩ := x; exact Heap.lt_size e
  | own y => obtain ⟨_, e⟩ := x; exact Heap.lt_size e
  | xd fs => obtain ⟨_, ⟨_, _, _, e, _⟩, _⟩ := x; exact Heap.lt_size e
  | rng lo hi => obtain ⟨_, _, _, e⟩ := x; exact Heap.lt_size e
  | frz ob u => obtain ⟨e, _⟩ := x; exact Heap.lt_size e
  | tbl ps => exact Heap.lt_size (show h.get? a = some _ from x)
  | met f y => exact Heap.lt_size (show h.get? a = some _ from x)
  | ext φ => obtain ⟨_, ⟨_, e⟩, _⟩ := x; exact Heap.lt_size e
theorem Paired.mapP {α β : Type} {F G : α → β → Prop} : ∀ {l₁ : List α} {l₂ : List β}, Paired F l₁ l₂ → (∀ a b, F a b → G a b) → Paired G l₁ l₂
  | _, _, .nil, _ => .nil
  | _, _, .cons r t, f => .cons (f _ _ r) (Paired.mapP t f)
theorem ObjOk.stay (x : ObjOk P w H h a o) (k : ∀ b u, (b = a ∨ H b = some (.own a)) → h.get? b = some u → h'.get? b = some u)
    (ho : ∀ b, H b = some (.own a) → H' b = some (.own a)) (ht : ∀ b xs, H b = some (.tup xs) → H' b = some (.tup xs)) : ObjOk P w H' h' a o := by
  induction o with
  | lst xs => obtain ⟨z, its, n, r, e⟩ := x; exact ⟨z, its, n, r, k _ _ (.inl rfl) e⟩
  | tup xs => obtain ⟨z, its, r, ob, e, c⟩ := x; exact ⟨z, its, r, ob, k _ _ (.inl rfl) e, c⟩
  | dK kvs => obtain ⟨z, y, vs, r, ob, es, ep, e, c⟩ := x; exact ⟨z, y, vs, r, ob, es, ep, k _ _ (.inl rfl) e, c⟩
  | dT kvs =>
    obtain ⟨z, y, xs, r, ob, es, ep, e, c⟩ := x
    exact ⟨z, y, xs, Paired.mapP r fun p q z => ⟨z.1, ht _ _ z.2.1, z.2.2⟩, ob, es, ep, k _ _ (.inl rfl) e, c⟩
  | set S n => obtain ⟨ob, es, ep, t, e, c⟩ := x; exact ⟨ob, es, ep, t, k _ _ (.inl rfl) e, c⟩
  | ins C dx fs =>
    obtain ⟨d, z, ne, e, mA, ⟨od, es, ep, e2, c⟩, r⟩ := x
    exact ⟨ho _ d, z, ne, k _ _ (.inl rfl) e, mA, ⟨od, es, ep, k _ _ (.inr d) e2, c⟩, r⟩
  | own y => obtain ⟨ob, e⟩ := x; exact ⟨ob, k _ _ (.inl rfl) e⟩
  | xd fs => obtain ⟨mA, ⟨od, es, ep, e, c⟩, r⟩ := x; exact ⟨mA, ⟨od, es, ep, k _ _ (.inl rfl) e, c⟩, r⟩
  | rng lo hi => obtain ⟨t, u, v, e⟩ := x; exact ⟨t, u, v, k _ _ (.inl rfl) e⟩
  | frz ob u ih => obtain ⟨e, q⟩ := x; exact ⟨k _ _ (.inl rfl) e, ih q⟩
  | tbl ps =>
    have e : h.get? a = some { cls := .none, data := .fields ps } := x
    show h'.get? a = some { cls := .none, data := .fields ps }
    exact k a _ (.inl rfl) e
  | met f y =>
    have e : h.get? a = some (PySem.W.methodObj (.ref f) (.ref y)) := x
    show h'.get? a = some (PySem.W.methodObj (.ref f) (.ref y))
    exact k a _ (.inl rfl) e
  | ext φ => obtain ⟨p, ⟨o, e⟩, st⟩ := x; exact ⟨st _ _ p fun o q => k _ _ (.inl rfl) q, ⟨o, k _ _ (.inl rfl) e⟩, st⟩
theorem HOk.lt (x : HOk P w H h) (e : H a = some o) : a < h.objs.size := (x a o e).lt
theorem HOk.fresh (x : HOk P w H h) (e : h.objs.size ≤ a) : H a = none := by
  cases q : H a with
  | none => rfl
  | some u => exact absurd (Nat.lt_of_lt_of_le (x.lt q) e) (Nat.lt_irrefl _)
theorem HOk.kept (x : HOk P w H h) (k : ∀ b u, h.get? b = some u → h'.get? b = some u) : HOk P w H h' := fun a o e =>
  (x a o e).stay (fun b u _ q => k b u q) (fun _ q => q) fun _ _ q => q
theorem HOk.laid (x : HOk P w H h) (k : ∀ b u, h.get? b = some u → h'.get? b = some u) (hp : h.objs.size ≤ a) (new : ObjOk P w (upd H a o) h' a o) : HOk P w (upd H a o) h' := fun b u e => by
  have hn := x.fresh hp
  by_cases hb : b = a
  · subst hb; rw [upd_same] at e; cases e; exact new
  · rw [upd_ne hb] at e
    exact (x b u e).stay (fun c v _ q => k c v q) (fun c q => by rw [upd_ne (ne_of_none q hn)]; exact q) fun c xs q => by rw [upd_ne (ne_of_none q hn)]; exact q
end
def Rd (H : Hp) (a : Addr) (u : HO) : Prop := H a = some u ∨ ∃ o, H a = some (.frz o u)
theorem Rd.ok {P : Program} {w : World} {H : Hp} {h : Heap} {a : Addr} {u : HO} (r : Rd H a u) (x : HOk P w H h) : ObjOk P w H h a u := by
  rcases r with r | ⟨o, r⟩
  · exact x a u r
  · obtain ⟨_, q⟩ := x a _ r
    exact q
def Mut : Option HO → Prop
  | some (.lst _) => True
  | some (.dK _) => True
  | some (.dT _) => True
  | some (.set _ _) => True
  | some (.ins _ _ _) => True
  | some (.ext _) => True
  | _ => False
section
variable {P : Program} {w : World} {H : Hp} {h h' : Heap} {x e : Addr} {o' : HO}
theorem HOk.write (ok : HOk P w H h) (mu : Mut (H x)) (he : e = x ∨ H e = some (.own x)) (k : ∀ b u, b ≠ e → h.get? b = some u → h'.get? b = some u) (heo : ∃ u, h'.get? e = some u)
    (new : ObjOk P w (upd H x o') h' x o') : HOk P w (upd H x o') h' := fun b u q => by
  have nown : ∀ c y, H c = some (.own y) → c ≠ x := fun c y r z => by subst z; rw [r] at mu; exact mu
  have ntup : ∀ c xs, H c = some (.tup xs) → c ≠ x := fun c xs r z => by subst z; rw [r] at mu; exact mu
  by_cases hb : b = x
  · subst hb; rw [upd_same] at q; cases q; exact new
  · rw [upd_ne hb] at q
    by_cases hbe : b = e
    · have q' : H b = some (.own x) := by
        rcases he with z | z
        · exact absurd (hbe.trans z) hb
        · rw [hbe]; exact z
      rw [q] at q'; cases q'
      obtain ⟨v, hv⟩ := heo
      exact ⟨v, by rw [hbe]; exact hv⟩
    · refine (ok b u q).stay (fun c v hc r => k c v ?_ r) (fun c r => by rw [upd_ne (nown c b r)]; exact r) fun c xs r => by rw [upd_ne (ntup c xs r)]; exact r
      rcases hc with rfl | hc
      · exact hbe
      · rintro rfl
        rcases he with z | z
        · exact nown c b hc z
        · rw [hc] at z; cases z; exact hb rfl
end
structure Un (fs ex : List Addr) (H H' : Hp) (h h' : Heap) : Prop where
  keep : ∀ b o, h.get? b = some o → H b = none → b ∉ fs → b ∉ ex → h'.get? b = some o
  slot : ∀ b o, h.get? b = some o → H b = none → b ∈ fs → b ∉ ex → ∃ sl, h'.get? b = some { o with slots := sl }
  free : ∀ b o, h.get? b = some o → H b = none → b ∉ ex → H' b = none
  there : ∀ b o, h.get? b = some o → b ∉ ex → ∃ o', h'.get? b = some o'
  tups : ∀ b xs, H b = some (.tup xs) → H' b = some (.tup xs)
  frzs : ∀ b o u, H b = some (.frz o u) → H' b = some (.frz o u)
  tbls : ∀ b ps, H b = some (.tbl ps) → ∃ more, H' b = some (.tbl (ps ++ more))
section
variable {fs fs' ex ex' : List Addr} {H H1 H2 : Hp} {h h1 h2 h' : Heap} {a x e : Addr} {o : HO}
theorem Un.any (u : Un fs ex H H1 h h1) {b : Addr} {ob : Obj} (q : h.get? b = some ob) (n : H b = none) (hx : b ∉ ex) : ∃ sl, h1.get? b = some { ob with slots := sl } := by
  by_cases hb : b ∈ fs
  · exact u.slot b ob q n hb hx
  · exact ⟨ob.slots, u.keep b ob q n hb hx⟩
theorem Un.kept (k : ∀ b u, h.get? b = some u → h'.get? b = some u) : Un fs ex H H h h' :=
  ⟨fun b ob q _ _ _ => k b ob q, fun b ob q _ _ _ => ⟨ob.slots, k b ob q⟩, fun _ _ _ n _ => n, fun b ob q _ => ⟨ob, k b ob q⟩, fun _ _ q => q, fun _ _ _ q => q, fun _ ps q => ⟨#[], by rw [q]; simp⟩⟩
theorem Un.refl : Un fs ex H H h h := Un.kept fun _ _ q => q
theorem Un.laid (k : ∀ b u, h.get? b = some u → h'.get? b = some u) (hp : h.objs.size ≤ a) (hn : H a = none) : Un fs ex H (upd H a o) h h' where
  keep := fun b u q _ _ _ => k b u q
  slot := fun b u q _ _ _ => ⟨u.slots, k b u q⟩
  free := fun b u q n _ => by rw [upd_ne (Nat.ne_of_lt (Nat.lt_of_lt_of_le (Heap.lt_size q) hp))]; exact n
  there := fun b u q _ => ⟨u, k b u q⟩
  tups := fun b xs q => by rw [upd_ne (ne_of_none q hn)]; exact q
  frzs := fun b u xs q => by rw [upd_ne (ne_of_none q hn)]; exact q
  tbls := fun b ps q => ⟨#[], by rw [upd_ne (ne_of_none q hn), q]; simp⟩
theorem Un.write (mu : Mut (H x)) (he : e = x ∨ H e = some (.own x)) (k : ∀ b u, b ≠ e → h.get? b = some u → h'.get? b = some u) (heo : ∃ u, h'.get? e = some u) : Un fs ex H (upd H x o) h h' := by
  have hx : ∀ b, H b = none → b ≠ x := fun b n z => by subst z; rw [n] at mu; exact mu
  have hb : ∀ b, H b = none → b ≠ e := fun b n z => by
    subst z
    rcases he with r | r
    · exact hx b n r
    · rw [n] at r; cases r
  have hm : ∀ b u, H b = some u → ¬ Mut (some u) → b ≠ x := fun b u q nm z => by subst z; rw [q] at mu; exact nm mu
  refine ⟨fun b u q n _ _ => k b u (hb b n) q, fun b u q n _ _ => ⟨u.slots, k b u (hb b n) q⟩, fun b u q n _ => by rw [upd_ne (hx b n)]; exact n, fun b u q _ => ?_,
    fun b xs q => by rw [upd_ne (hm b _ q fun z => z)]; exact q, fun b u xs q => by rw [upd_ne (hm b _ q fun z => z)]; exact q, fun b ps q => ⟨#[], by rw [upd_ne (hm b _ q fun z => z), q]; simp⟩⟩
  by_cases hbe : b = e
  · subst hbe; exact heo
  · exact ⟨u, k b u hbe q⟩
end
def trk (h : Heap) (H : Hp) : List Addr := (List.range h.objs.size).filter fun a => (H a).isSome
def hidT (h : Heap) (H : Hp) : Heap := PySem.W.hideAll h (trk h H)
theorem hidT_size (h : Heap) (H : Hp) : (hidT h H).objs.size = h.objs.size := PySem.W.hideAll_size _ _
theorem hidT_get {h : Heap} {H : Hp} {b : Addr} {o : Obj} (e : h.get? b = some o) (n : H b = none) : (hidT h H).get? b = some o :=
  PySem.W.hideAll_get _ e fun hm => by
    have q : (H b).isSome = true := (List.mem_filter.mp hm).2
    rw [n] at q; simp at q
theorem of_hidT {h : Heap} {H : Hp} {b : Addr} {o : Obj} (e : (hidT h H).get? b = some o) : h.get? b = some o ∧ H b = none := by
  have e' : h.get? b = some o := PySem.W.of_hideAll (trk h H) e
  refine ⟨e', ?_⟩
  cases q : H b with
  | none => rfl
  | some x =>
    have hm : b ∈ trk h H := List.mem_filter.mpr ⟨List.mem_range.mpr (Heap.lt_size e'), by simp [q]⟩
    have z : (hidT h H).get? b = none := PySem.W.hideAll_none (trk h H) hm
    rw [z] at e; cases e
end L2
namespace L2
open PySem PySem.Spec PyProof.Rows
structure Mod (K : PySem.W.Frag) (mg : Str → Option Value) (base : Heap) : Prop where
  kin : K.In base
  glob : base.Ns mainGlobals mg
  blt : ∃ mb, base.Ns builtinsNs mb ∧ ∀ x : Str, x ≠ "__name__" → mb x = bootBuiltins x
  nolimit : base.NoLimit
structure Cx where
  prog : Program
  w : World
  K : PySem.W.Frag
  mg : Str → Option Value
  base : Heap
  A : Around
  N : List Str
  s₀ : Shared
  H₀ : Hp
  env : Env
  outer : List Env
  stack : List Env
  ex : List Addr
  fn : Str → Bool
  calm : Bool
  pn : List (Addr × Obj)
  xe : Value → Shared → Prop
def frs (l : List Env) : List Addr := l.filterMap (·.frame)
abbrev Cx.fs (X : Cx) : List Addr := frs X.outer
def Vis (sc : Scope) (x : Str) : Prop := sc.names.lookup x = some .local ∨ sc.names.lookup x = some .cell ∨ sc.names.lookup x = some .free
def Loc (sc : Scope) (x : Str) : Prop := sc.names.lookup x = some .local ∨ sc.names.lookup x = some .cell
def Look (env : Env) (h : Heap) (m : Str → Option Value) (x : Str) (u : Value) : Prop :=
  (env.kindOf x = some .local ∧ m x = some u) ∨ ((env.kindOf x = some .cell ∨ env.kindOf x = some .free) ∧ ∃ c, env.cells.lookup x = some c ∧ h.IsCell c (some u))
structure Cx.Ok (X : Cx) : Prop where
  mod : Mod X.K X.mg X.base
  kind : X.env.scope.kind = .function
  glob : X.env.globals = mainGlobals
  blt : X.env.builtins = builtinsNs
  above : X.s₀.heap.objs.size ≤ X.env.locals
  inj : ∀ x y c, X.env.cells.lookup x = some c → X.env.cells.lookup y = some c → x = y
  has : ∀ x, (X.env.kindOf x = some .cell ∨ X.env.kindOf x = some .free) → ∃ c, X.env.cells.lookup x = some c
  cab : ∀ x c, X.fn x = true → X.env.cells.lookup x = some c → X.s₀.heap.objs.size ≤ c
  hd : X.calm = true → X.A.handled = none
  frames : X.A.frames = some X.stack
  stk : X.stack = X.outer ∨ (X.stack = X.env :: X.outer ∧ X.env.frame = some X.env.locals)
  exf : ∀ b ∈ X.ex, b ≠ X.env.locals ∧ ∀ x c, X.env.cells.lookup x = some c → c ≠ b
  bs : ∀ b o, X.base.get? b = some o → X.s₀.heap.get? b = some o ∧ X.H₀ b = none
  bsz : X.base.objs.size ≤ X.s₀.heap.objs.size
  noex : ∀ b o, X.base.get? b = some o → b ∉ X.ex
  exfs : ∀ b ∈ X.ex, b ∉ X.fs
  funs : X.s₀.heap.FunFrames X.base X.outer
  frf : ∀ b ∈ X.fs, X.H₀ b = none
structure Inv (X : Cx) (pins : List (Addr × Obj)) (σ : List (Option V)) (H : Hp) (s : Shared) : Prop where
  ok : X.Ok
  os : s.os = X.s₀.os
  bare : AllBare s.gens
  base : Un X.fs X.ex X.H₀ H X.s₀.heap s.heap
  loc : ∃ m, s.heap.Ns X.env.locals m ∧ ∀ (i : Nat) (x : Str) (v : V), X.N[i]? = some x → σ[i]? = some (some v) → Vis X.env.scope x → ∃ u, RelV v u ∧ Look X.env s.heap m x u
  cell : ∀ x c, X.env.cells.lookup x = some c → ∃ v, s.heap.IsCell c v
  free : H X.env.locals = none
  freeC : ∀ x c, X.env.cells.lookup x = some c → H c = none
  pin : ∀ p ∈ X.pn ++ pins, s.heap.get? p.1 = some p.2 ∧ H p.1 = none ∧ p.1 ≠ X.env.locals ∧ p.1 ∉ X.fs ∧ ∀ v, p.2.data ≠ .cell v
  hok : HOk X.prog X.w H s.heap
  len : σ.length = X.N.length
section
variable {X : Cx} {pins : List (Addr × Obj)} {σ : List (Option V)} {H H' : Hp} {s : Shared} {h' : Heap}
theorem Cx.Ok.nofr (ok : X.Ok) {b : Addr} {o : Obj} (e : X.base.get? b = some o) : b ∉ X.fs := fun hb => by
  have := (ok.funs.mem hb).1
  rw [e] at this; cases this
theorem Inv.bs (I : Inv X pins σ H s) : ∀ b o, X.base.get? b = some o → s.heap.get? b = some o ∧ H b = none := fun b o e =>
  ⟨I.base.keep b o (I.ok.bs b o e).1 (I.ok.bs b o e).2 (I.ok.nofr e) (I.ok.noex b o e), I.base.free b o (I.ok.bs b o e).1 (I.ok.bs b o e).2 (I.ok.noex b o e)⟩
theorem Inv.bk (I : Inv X pins σ H s) : ∀ b o, X.base.get? b = some o → s.heap.get? b = some o := fun b o e => (I.bs b o e).1
theorem Inv.mod (I : Inv X pins σ H s) : Mod X.K X.mg X.base := I.ok.mod
theorem Inv.kIn (I : Inv X pins σ H s) : X.K.In s.heap := I.ok.mod.kin.keeps I.bk
theorem Inv.lt (I : Inv X pins σ H s) : X.env.locals < s.heap.objs.size := let ⟨_, hn, _⟩ := I.loc; hn.lt
theorem Inv.sz (I : Inv X pins σ H s) : X.s₀.heap.objs.size ≤ s.heap.objs.size := Nat.le_trans I.ok.above (Nat.le_of_lt I.lt)
theorem Inv.nofs (I : Inv X pins σ H s) {a : Addr} (h : s.heap.objs.size ≤ a) : a ∉ X.fs := fun hb => by
  obtain ⟨_, o, ho, _⟩ := I.ok.funs.mem hb
  exact absurd (Nat.lt_of_lt_of_le (Heap.lt_size ho) (Nat.le_trans I.sz h)) (Nat.lt_irrefl _)
theorem Inv.cne (I : Inv X pins σ H s) : ∀ x c, X.env.cells.lookup x = some c → c ≠ X.env.locals := fun x c e z => by
  obtain ⟨v, o, ho, hd⟩ := I.cell x c e
  obtain ⟨m, ⟨o', es, ep, ho', hd', _⟩, _⟩ := I.loc
  rw [z, ho'] at ho; cases ho; rw [hd'] at hd; cases hd
theorem Inv.funs (I : Inv X pins σ H s) : s.heap.FunFrames X.base X.outer := by
  have all : ∀ (l : List Env), (∀ b ∈ frs l, b ∈ X.fs) → X.s₀.heap.FunFrames X.base l → s.heap.FunFrames X.base l := by
    intro l
    induction l with
    | nil => intro _ _; trivial
    | cons env r ih =>
      intro hs hl
      obtain ⟨hk, ⟨L, o, hf, hn, ho, hd⟩, hr⟩ := hl
      have hL : L ∈ X.fs := hs L (by unfold frs; rw [List.filterMap_cons, hf]; exact List.mem_cons_self)
      obtain ⟨sl, e⟩ := I.base.slot L o ho (I.ok.frf L hL) hL fun z => I.ok.exfs L z hL
      exact ⟨hk, ⟨L, _, hf, hn, e, hd⟩, ih (fun b hb => hs b (by unfold frs; rw [List.filterMap_cons, hf]; exact List.mem_cons_of_mem _ hb)) hr⟩
  exact all X.outer (fun _ hb => hb) I.ok.funs
theorem Inv.stack (I : Inv X pins σ H s) : s.heap.FunFrames X.base X.stack := by
  rcases I.ok.stk with e | ⟨e, hf⟩
  · rw [e]; exact I.funs
  · rw [e]
    obtain ⟨m, hn, _⟩ := I.loc
    refine .cons (by rw [I.ok.kind]; decide) hf hn ?_ I.funs
    exact Heap.get?_none_of_le (Nat.le_trans I.ok.bsz I.ok.above)
theorem Inv.stkSub (I : Inv X pins σ H s) : ∀ b ∈ frs X.stack, b ∈ X.env.locals :: X.fs := fun b hb => by
  rcases I.ok.stk with e | ⟨e, hf⟩
  · rw [e] at hb; exact List.mem_cons_of_mem _ hb
  · rw [e] at hb
    unfold frs at hb
    rw [List.filterMap_cons, hf] at hb
    exact hb
theorem Inv.stkFree (I : Inv X pins σ H s) : ∀ b ∈ frs X.stack, H b = none := fun b hb => by
  rcases List.mem_cons.mp (I.stkSub b hb) with e | hb
  · rw [e]; exact I.free
  · obtain ⟨_, o, ho, _⟩ := I.ok.funs.mem hb
    exact I.base.free b o ho (I.ok.frf b hb) fun z => I.ok.exfs b z hb
theorem Inv.step {g' : Array GenState} {t' : Nat} {d' : Drawn} {ch : List Addr} (I : Inv X pins σ H s)
    (hch : ∀ b ∈ ch, (b ∈ X.ex ∨ X.s₀.heap.objs.size ≤ b) ∧ b ≠ X.env.locals ∧ (∀ x c, X.env.cells.lookup x = some c → c ≠ b) ∧ ∀ p ∈ X.pn ++ pins, p.1 ≠ b)
    (keep : ∀ b o, b ≠ X.env.locals → b ∉ X.fs → b ∉ ch → s.heap.get? b = some o → H b = none → h'.get? b = some o)
    (slot : ∀ b o, b ≠ X.env.locals → b ∈ X.fs → b ∉ ch → s.heap.get? b = some o → H b = none → ∃ sl, h'.get? b = some { o with slots := sl }) (free : ∀ b o, b ∉ ch → s.heap.get? b = some o → H b = none → H' b = none)
    (there : ∀ b o, b ∉ ch → s.heap.get? b = some o → ∃ o', h'.get? b = some o')
    (tups : ∀ b xs, H b = some (.tup xs) → H' b = some (.tup xs)) (frzs : ∀ b o u, H b = some (.frz o u) → H' b = some (.frz o u)) (tbls : ∀ b ps, H b = some (.tbl ps) → ∃ more, H' b = some (.tbl (ps ++ more)))
    (ns : ∀ m, s.heap.Ns X.env.locals m → h'.Ns X.env.locals m) (hok : HOk X.prog X.w H' h') (hg : AllBare g') :
    Inv X pins σ H' { s with heap := h', gens := g', drawn := d', toks := t' } := by
  have neL : ∀ b o, X.s₀.heap.get? b = some o → b ≠ X.env.locals := fun b o e => Nat.ne_of_lt (Nat.lt_of_lt_of_le (Heap.lt_size e) I.ok.above)
  have neC : ∀ b o, X.s₀.heap.get? b = some o → b ∉ X.ex → b ∉ ch := fun b o e hx hb => by
    rcases (hch b hb).1 with z | z
    · exact hx z
    · exact absurd (Nat.lt_of_lt_of_le (Heap.lt_size e) z) (Nat.lt_irrefl _)
  have cellK : ∀ x c, X.env.cells.lookup x = some c → ∀ v, s.heap.IsCell c v → h'.IsCell c v := fun x c e v ⟨o, ho, hd⟩ => by
    have nch : c ∉ ch := fun z => (hch c z).2.2.1 x c e rfl
    by_cases hc : c ∈ X.fs
    · obtain ⟨sl, q⟩ := slot c o (I.cne x c e) hc nch ho (I.freeC x c e)
      exact ⟨_, q, hd⟩
    · exact ⟨o, keep c o (I.cne x c e) hc nch ho (I.freeC x c e), hd⟩
  refine ⟨I.ok, I.os, hg, ⟨fun b o e n hb hx => ?_, fun b o e n hb hx => ?_, fun b o e n hx => ?_, fun b o e hx => ?_, fun b xs e => tups b xs (I.base.tups b xs e), fun b o xs e => frzs b o xs (I.base.frzs b o xs e), fun b ps e => ?_⟩, ?_, fun x c e => ?_, ?_, fun x c e => ?_, fun p hp => ?_, hok, I.len⟩
  · exact keep b o (neL b o e) hb (neC b o e hx) (I.base.keep b o e n hb hx) (I.base.free b o e n hx)
  · obtain ⟨sl, e1⟩ := I.base.slot b o e n hb hx
    obtain ⟨sl', e2⟩ := slot b _ (neL b o e) hb (neC b o e hx) e1 (I.base.free b o e n hx)
    exact ⟨sl', e2⟩
  · obtain ⟨o', e1⟩ := I.base.there b o e hx
    exact free b o' (neC b o e hx) e1 (I.base.free b o e n hx)
  · obtain ⟨o', e1⟩ := I.base.there b o e hx
    exact there b o' (neC b o e hx) e1
  · obtain ⟨m1, e1⟩ := I.base.tbls b ps e
    obtain ⟨m2, e2⟩ := tbls b _ e1
    exact ⟨m1 ++ m2, by rw [e2, Array.append_assoc]⟩
  · obtain ⟨m, hn, hl⟩ := I.loc
    refine ⟨m, ns m hn, fun i x v e1 e2 e3 => ?_⟩
    obtain ⟨u, r, l⟩ := hl i x v e1 e2 e3
    refine ⟨u, r, ?_⟩
    rcases l with l | ⟨k, c, e, z⟩
    · exact .inl l
    · exact .inr ⟨k, c, e, cellK x c e _ z⟩
  · obtain ⟨v, z⟩ := I.cell x c e
    exact ⟨v, cellK x c e v z⟩
  · obtain ⟨m, ⟨o, _, _, ho, _⟩, _⟩ := I.loc
    exact free _ o (fun z => (hch _ z).2.1 rfl) ho I.free
  · obtain ⟨v, o, ho, hd⟩ := I.cell x c e
    exact free c o (fun z => (hch c z).2.2.1 x c e rfl) ho (I.freeC x c e)
  · obtain ⟨e, n, ne, nf, d⟩ := I.pin p hp
    have nch : p.1 ∉ ch := fun z => (hch p.1 z).2.2.2 p hp rfl
    exact ⟨keep p.1 p.2 ne nf nch e n, free p.1 p.2 nch e n, ne, nf, d⟩
theorem Inv.un {t' : Nat} (I : Inv X pins σ H s) (u : Un X.fs [] H H' s.heap h') (hok : HOk X.prog X.w H' h') : Inv X pins σ H' { s with heap := h', toks := t' } := by
  obtain ⟨m, ⟨o, es, ep, ho, r⟩, _⟩ := id I.loc
  obtain ⟨sl, hL⟩ := u.any ho I.free (by simp)
  exact I.step (g' := s.gens) (d' := s.drawn) (ch := []) (fun _ z => nomatch z) (fun b o _ hb _ e n => u.keep b o e n hb (by simp)) (fun b o _ hb _ e n => u.slot b o e n hb (by simp)) (fun b o _ e n => u.free b o e n (by simp)) (fun b o _ e => u.there b o e (by simp)) u.tups u.frzs u.tbls (fun m' hm => by
    obtain ⟨o', es', ep', ho', r'⟩ := hm
    rw [ho] at ho'; cases ho'
    exact ⟨_, es', ep', hL, r'⟩) hok I.bare
theorem Inv.call {g' : Array GenState} {t' : Nat} {d' : Drawn} {ch : List Addr} (I : Inv X pins σ H s) (u : Un (frs X.stack) ch H H' s.heap h') (hok : HOk X.prog X.w H' h') (hg : AllBare g')
    (hch : ∀ b ∈ ch, (b ∈ X.ex ∨ X.s₀.heap.objs.size ≤ b) ∧ b ≠ X.env.locals ∧ (∀ x c, X.env.cells.lookup x = some c → c ≠ b) ∧ ∀ p ∈ X.pn ++ pins, p.1 ≠ b) :
    Inv X pins σ H' { s with heap := h', gens := g', drawn := d', toks := t' } := by
  obtain ⟨m, ⟨o, es, ep, ho, r⟩, _⟩ := id I.loc
  obtain ⟨sl, hL⟩ := u.any ho I.free fun z => (hch _ z).2.1 rfl
  exact I.step (ch := ch) hch (fun b o hL hb hc e n => u.keep b o e n (fun z => (List.mem_cons.mp (I.stkSub b z)).elim hL hb) hc) (fun b o _ _ hc e n => u.any e n hc) (fun b o hc e n => u.free b o e n hc) (fun b o hc e => u.there b o e hc) u.tups u.frzs u.tbls (fun m' hm => by
    obtain ⟨o', es', ep', ho', r'⟩ := hm
    rw [ho] at ho'; cases ho'
    exact ⟨_, es', ep', hL, r'⟩) hok hg
theorem Inv.turned {t' : Nat} {it : Addr} (I : Inv X pins σ H s) (k : ∀ b o, b ≠ it → s.heap.get? b = some o → h'.get? b = some o) (hn : H it = none) (hL : it ≠ X.env.locals)
    (h1 : it ∈ X.ex ∨ X.s₀.heap.objs.size ≤ it) (h2 : ∀ x c, X.env.cells.lookup x = some c → c ≠ it) (h3 : ∀ p ∈ X.pn ++ pins, p.1 ≠ it) : Inv X pins σ H { s with heap := h', toks := t' } := by
  have nit : ∀ b u, H b = some u → b ≠ it := fun b u e z => by rw [z, hn] at e; cases e
  refine I.step (g' := s.gens) (d' := s.drawn) (ch := [it]) (fun b hb => ?_) (fun b o _ _ hc e _ => k b o (fun z => hc (by simp [z])) e) (fun b o _ _ hc e _ => ⟨o.slots, k b o (fun z => hc (by simp [z])) e⟩) (fun _ _ _ _ n => n)
    (fun b o hc e => ⟨o, k b o (fun z => hc (by simp [z])) e⟩) (fun _ _ e => e) (fun _ _ _ e => e) (fun b ps e => ⟨#[], by rw [e]; simp⟩) (fun m hm => ?_) (fun b u e => ?_) I.bare
  · have e : b = it := by simpa using hb
    subst e
    exact ⟨h1, hL, h2, h3⟩
  · obtain ⟨o, es, ep, ho, r⟩ := hm
    exact ⟨o, es, ep, k _ o (Ne.symm hL) ho, r⟩
  · refine (I.hok b u e).stay (fun c v hc q => k c v ?_ q) (fun _ q => q) fun _ _ q => q
    rcases hc with z | z
    · rw [z]; exact nit b u e
    · exact nit c _ z
theorem Inv.tok (I : Inv X pins σ H s) (t : Nat) : Inv X pins σ H { s with toks := t } := I.un (h' := s.heap) (t' := t) Un.refl I.hok
theorem Inv.kept {t' : Nat} (I : Inv X pins σ H s) (k : ∀ b u, s.heap.get? b = some u → h'.get? b = some u) : Inv X pins σ H { s with heap := h', toks := t' } := I.un (Un.kept k) (I.hok.kept k)
theorem Inv.laid {a : Addr} {o : HO} {t' : Nat} (I : Inv X pins σ H s) (k : ∀ b u, s.heap.get? b = some u → h'.get? b = some u) (hp : s.heap.objs.size ≤ a) (new : ObjOk X.prog X.w (upd H a o) h' a o) :
    Inv X pins σ (upd H a o) { s with heap := h', toks := t' } := I.un (Un.laid k hp (I.hok.fresh hp)) (I.hok.laid k hp new)
theorem Inv.write {x e : Addr} {o : HO} {t' : Nat} (I : Inv X pins σ H s) (mu : Mut (H x)) (he : e = x ∨ H e = some (.own x)) (k : ∀ b u, b ≠ e → s.heap.get? b = some u → h'.get? b = some u) (heo : ∃ u, h'.get? e = some u)
    (new : ObjOk X.prog X.w (upd H x o) h' x o) : Inv X pins σ (upd H x o) { s with heap := h', toks := t' } := I.un (Un.write mu he k heo) (I.hok.write mu he k heo new)
theorem Inv.pins_of {pins' : List (Addr × Obj)} (I : Inv X pins σ H s) (h : ∀ p ∈ pins', s.heap.get? p.1 = some p.2 ∧ H p.1 = none ∧ p.1 ≠ X.env.locals ∧ p.1 ∉ X.fs ∧ ∀ v, p.2.data ≠ .cell v) : Inv X pins' σ H s :=
  ⟨I.ok, I.os, I.bare, I.base, I.loc, I.cell, I.free, I.freeC, fun p hp => (List.mem_append.mp hp).elim (fun z => I.pin p (List.mem_append_left _ z)) (h p), I.hok, I.len⟩
theorem nodup_ix {N : List Str} (hN : N.Nodup) {i j : Nat} {x : Str} (a : N[i]? = some x) (b : N[j]? = some x) : i = j := by
  obtain ⟨h1, e1⟩ := List.getElem?_eq_some_iff.mp a
  obtain ⟨h2, e2⟩ := List.getElem?_eq_some_iff.mp b
  exact (List.getElem_inj hN).mp (e1.trans e2.symm)
theorem store_ok2 {M : Model} {A : Around} {E : Value → Shared → Prop} {i : Nat} {x : Str} {v : V} {u : Value} {Q : Unit → Shared → Prop} (I : Inv X pins σ H s) (hN : X.N.Nodup) (hi : X.N[i]? = some x) (hx : Loc X.env.scope x) (r : RelV v u)
    (h : ∀ s', Inv X pins (σ.set i (some v)) H s' → (∃ a, Heap.SameBut a s.heap s'.heap ∧ (a = X.env.locals ∨ X.env.cells.lookup x = some a)) → Q () s') (hf : X.fn x = true ∨ X.env.scope.names.lookup x = some .local := by first | exact .inl rfl | exact .inr rfl | assumption) : wpAny M A (storeName X.env x u) Q E s := by
  obtain ⟨m, hn, hl⟩ := id I.loc
  have hcls : (X.env.scope.kind == .class || (X.env.scope.kind == .module && X.env.locals != X.env.globals)) = false := by rw [I.ok.kind]; rfl
  have hiσ : i < σ.length := by rw [I.len]; exact (List.getElem?_eq_some_iff.mp hi).1
  have cne := I.cne
  have tracked : ∀ {a : Addr} {h' : Heap}, (∃ o, s.heap.get? a = some o ∧ H a = none) → Heap.SameBut a s.heap h' → HOk X.prog X.w H h' := fun {a h'} ha hs b ob e => by
    obtain ⟨_, _, hfree⟩ := ha
    refine (I.hok b ob e).stay (fun c w' hc q => (hs.2 c ?_).trans q) (fun _ q => q) fun _ _ q => q
    rintro rfl
    rcases hc with rfl | hc
    · rw [hfree] at e; cases e
    · rw [hfree] at hc; cases hc
  rcases hx with hk | hk
  · refine wpAny_storeName_local hk hn (fun h' hn' hs => ?_) hcls
    obtain ⟨oL, _, _, hoL, _⟩ := id hn
    refine h _ ⟨I.ok, I.os, I.bare, ⟨fun b o e n hb hx => ?_, fun b o e n hb hx => ?_, I.base.free, fun b o e hx => ?_, I.base.tups, I.base.frzs, I.base.tbls⟩, ⟨_, hn', fun j y v' e1 e2 e3 => ?_⟩, fun y c e => ?_, I.free, I.freeC, fun p hp => ?_, tracked ⟨oL, hoL, I.free⟩ hs, by simpa using I.len⟩ ⟨_, hs, .inl rfl⟩
    · exact (hs.2 b (Nat.ne_of_lt (Nat.lt_of_lt_of_le (Heap.lt_size e) I.ok.above))).trans (I.base.keep b o e n hb hx)
    · obtain ⟨sl, e1⟩ := I.base.slot b o e n hb hx
      exact ⟨sl, (hs.2 b (Nat.ne_of_lt (Nat.lt_of_lt_of_le (Heap.lt_size e) I.ok.above))).trans e1⟩
    · obtain ⟨o', e1⟩ := I.base.there b o e hx
      exact ⟨o', (hs.2 b (Nat.ne_of_lt (Nat.lt_of_lt_of_le (Heap.lt_size e) I.ok.above))).trans e1⟩
    · by_cases hj : j = i
      · subst hj
        rw [hi] at e1; cases e1
        rw [List.getElem?_set_self hiσ] at e2
        cases e2
        exact ⟨u, r, .inl ⟨hk, by simp⟩⟩
      · rw [List.getElem?_set_ne (Ne.symm hj)] at e2
        obtain ⟨u', r', q⟩ := hl j y v' e1 e2 e3
        refine ⟨u', r', ?_⟩
        rcases q with ⟨k, e⟩ | ⟨k, c, e, z⟩
        · refine .inl ⟨k, ?_⟩
          have : y ≠ x := fun e => hj (nodup_ix hN e1 (e ▸ hi))
          simp [this, e]
        · exact .inr ⟨k, c, e, z.sameBut hs (cne y c e)⟩
    · obtain ⟨w', z⟩ := I.cell y c e
      exact ⟨w', z.sameBut hs (cne y c e)⟩
    · obtain ⟨e, n, ne, nf, d⟩ := I.pin p hp
      exact ⟨(hs.2 p.1 ne).trans e, n, ne, nf, d⟩
  · have hfn : X.fn x = true := by
      rcases hf with z | z
      · exact z
      · rw [z] at hk; cases hk
    obtain ⟨c, hc⟩ := I.ok.has x (.inl hk)
    obtain ⟨w', z⟩ := I.cell x c hc
    refine wpAny_storeName_cell I.ok.kind hk hc z (fun h' hc' hs => ?_)
    obtain ⟨oc, hoc, hocd⟩ := id z
    refine h { s with heap := h' } ⟨I.ok, I.os, I.bare, ⟨fun b o e n hb hx => ?_, fun b o e n hb hx => ?_, I.base.free, fun b o e hx => ?_, I.base.tups, I.base.frzs, I.base.tbls⟩, ⟨m, hn.sameBut hs (Ne.symm (cne x c hc)), fun j y v' e1 e2 e3 => ?_⟩, fun y c' e => ?_, I.free, I.freeC, fun p hp => ?_, tracked ⟨oc, hoc, I.freeC x c hc⟩ hs, by simpa using I.len⟩ ⟨c, hs, .inr hc⟩
    · exact (hs.2 b (Nat.ne_of_lt (Nat.lt_of_lt_of_le (Heap.lt_size e) (I.ok.cab x c hfn hc)))).trans (I.base.keep b o e n hb hx)
    · obtain ⟨sl, e1⟩ := I.base.slot b o e n hb hx
      exact ⟨sl, (hs.2 b (Nat.ne_of_lt (Nat.lt_of_lt_of_le (Heap.lt_size e) (I.ok.cab x c hfn hc)))).trans e1⟩
    · obtain ⟨o', e1⟩ := I.base.there b o e hx
      exact ⟨o', (hs.2 b (Nat.ne_of_lt (Nat.lt_of_lt_of_le (Heap.lt_size e) (I.ok.cab x c hfn hc)))).trans e1⟩
    · by_cases hj : j = i
      · subst hj
        rw [hi] at e1; cases e1
        rw [List.getElem?_set_self hiσ] at e2
        cases e2
        exact ⟨u, r, .inr ⟨.inl hk, c, hc, hc'⟩⟩
      · rw [List.getElem?_set_ne (Ne.symm hj)] at e2
        obtain ⟨u', r', q⟩ := hl j y v' e1 e2 e3
        refine ⟨u', r', ?_⟩
        rcases q with q | ⟨k, c', e, z'⟩
        · exact .inl q
        · refine .inr ⟨k, c', e, z'.sameBut hs ?_⟩
          rintro rfl
          exact hj (nodup_ix hN e1 (I.ok.inj _ _ _ e hc ▸ hi))
    · by_cases hcc : c' = c
      · subst hcc; exact ⟨_, hc'⟩
      · obtain ⟨w2, z2⟩ := I.cell y c' e
        exact ⟨w2, z2.sameBut hs hcc⟩
    · obtain ⟨e, n, ne, nf, d⟩ := I.pin p hp
      refine ⟨(hs.2 p.1 ?_).trans e, n, ne, nf, d⟩
      intro q
      rw [q, hoc] at e
      have q' : oc = p.2 := Option.some.inj e
      exact d w' (by rw [← q']; exact hocd)
theorem store_ok {M : Model} {A : Around} {E : Value → Shared → Prop} {i : Nat} {x : Str} {v : V} {u : Value} {Q : Unit → Shared → Prop} (I : Inv X pins σ H s) (hN : X.N.Nodup) (hi : X.N[i]? = some x) (hx : Loc X.env.scope x) (r : RelV v u)
    (h : ∀ s', Inv X pins (σ.set i (some v)) H s' → Q () s') (hf : X.fn x = true ∨ X.env.scope.names.lookup x = some .local := by first | exact .inl rfl | exact .inr rfl | assumption) : wpAny M A (storeName X.env x u) Q E s :=
  store_ok2 I hN hi hx r (fun s' I' _ => h s' I') hf
theorem Inv.call' {s' : Shared} {ch : List Addr} (I : Inv X pins σ H s) (ho : s'.os = s.os) (u : Un (frs X.stack) ch H H' s.heap s'.heap) (hok : HOk X.prog X.w H' s'.heap) (hg : AllBare s'.gens)
    (hch : ∀ b ∈ ch, (b ∈ X.ex ∨ X.s₀.heap.objs.size ≤ b) ∧ b ≠ X.env.locals ∧ (∀ x c, X.env.cells.lookup x = some c → c ≠ b) ∧ ∀ p ∈ X.pn ++ pins, p.1 ≠ b) : Inv X pins σ H' s' := by
  obtain ⟨h', g', d', t', o'⟩ := s'
  have e : o' = s.os := ho
  subst e
  exact I.call (g' := g') (t' := t') (d' := d') u hok hg hch
end
abbrev XK := Value → Option Addr → Hp → Prop
abbrev St := List (Option V)
abbrev VK := V → Hp → Prop
abbrev TE := St → Hp → VK → Prop
abbrev TT := St → Hp → (Bool → Hp → Prop) → Prop
abbrev TA := St → Hp → (List V → Hp → Prop) → Prop
structure Ends where
  nx : St → Hp → Prop
  rt : VK
  bk : St → Hp → Prop := fun _ _ => False
  ct : St → Hp → Prop := fun _ _ => False
abbrev TS := Ends → St → Hp → Prop
def EP (X : Cx) (pins : List (Addr × Obj)) (σ : St) (Q : VK) (u : Value) (s' : Shared) : Prop := ∃ v H', Inv X pins σ H' s' ∧ RelV v u ∧ Q v H'
def TP (X : Cx) (pins : List (Addr × Obj)) (σ : St) (Q : Bool → Hp → Prop) (b : Bool) (s' : Shared) : Prop := ∃ H', Inv X pins σ H' s' ∧ Q b H'
def AP (X : Cx) (pins : List (Addr × Obj)) (σ : St) (Q : List V → Hp → Prop) (us : List Value) (s' : Shared) : Prop := ∃ vs H', Inv X pins σ H' s' ∧ Vals vs us ∧ Q vs H'
def SP (X : Cx) (pins : List (Addr × Obj)) (D : Ends) (f : Flow) (s' : Shared) : Prop :=
  match f with
  | .next => ∃ σ' H', Inv X pins σ' H' s' ∧ D.nx σ' H'
  | .brk => ∃ σ' H', Inv X pins σ' H' s' ∧ D.bk σ' H'
  | .cont => ∃ σ' H', Inv X pins σ' H' s' ∧ D.ct σ' H'
  | .ret u => ∃ v σ' H', Inv X pins σ' H' s' ∧ RelV v u ∧ D.rt v H'
def PE (X : Cx) (e : Expr) (t : TE) : Prop :=
  ∀ (pins : List (Addr × Obj)) (s : Shared) (σ : St) (H : Hp) (Q : VK), Inv X pins σ H s → t σ H Q → wpAny (model X.prog X.w) X.A (eval e X.env) (EP X pins σ Q) X.xe s
def PT (X : Cx) (e : Expr) (t : TT) : Prop :=
  ∀ (pins : List (Addr × Obj)) (s : Shared) (σ : St) (H : Hp) (Q : Bool → Hp → Prop), Inv X pins σ H s → t σ H Q → wpAny (model X.prog X.w) X.A (isTrue e X.env (eval e X.env)) (TP X pins σ Q) X.xe s
def PW (X : Cx) (e : Expr) (t : TT) : Prop :=
  ∀ (whole : Sem Value) (pins : List (Addr × Obj)) (s : Shared) (σ : St) (H : Hp) (Q : Bool → Hp → Prop), Inv X pins σ H s → t σ H Q → wpAny (model X.prog X.w) X.A (isTrue e X.env whole) (TP X pins σ Q) X.xe s
theorem PW.pt {X : Cx} {e : Expr} {t : TT} (h : PW X e t) : PT X e t := h _
def PA (X : Cx) (es : List Expr) (t : TA) : Prop :=
  ∀ (pos : Pos) (pins : List (Addr × Obj)) (s : Shared) (σ : St) (H : Hp) (Q : List V → Hp → Prop), Inv X pins σ H s → t σ H Q → wpAny (model X.prog X.w) X.A (spliced (backTo pos (starEach es X.env))) (AP X pins σ Q) X.xe s
def PS (X : Cx) (st : Stmt) (t : TS) : Prop :=
  ∀ (pins : List (Addr × Obj)) (s : Shared) (σ : St) (H : Hp) (D : Ends), Inv X pins σ H s → t D σ H → wpAny (model X.prog X.w) X.A (exec st X.env) (SP X pins D) X.xe s
def PSs (X : Cx) (st : List Stmt) (t : TS) : Prop :=
  ∀ (pins : List (Addr × Obj)) (s : Shared) (σ : St) (H : Hp) (D : Ends), Inv X pins σ H s → t D σ H → wpAny (model X.prog X.w) X.A (execs st X.env) (SP X pins D) X.xe s
theorem thn {α : Type} {t : Sem α} {Q Q' : α → Shared → Prop} {M : Model} {A : Around} {E : Value → Shared → Prop} {s : Shared} (h : wpAny M A t Q E s) (hQ : ∀ a s, Q a s → Q' a s) : wpAny M A t Q' E s := wpAny_mono h hQ fun _ _ x => x
end L2
namespace L2
open PySem PySem.Spec PyProof.Rows
section
variable {X : Cx}
def tVar (i : Nat) : TE := fun σ H Q => ∃ v, σ[i]? = some (some v) ∧ Q v H
def tC (v : V) : TE := fun _ H Q => Q v H
theorem pe_var {i : Nat} {x : Str} {pos : Pos} (hN : X.N[i]? = some x) (hv : Vis X.env.scope x) (hd : (x == ("__debug__" : Str)) = false := by decide) (hcd : (x == ("__classdict__" : Str)) = false := by decide) : PE X (.Name x pos) (tVar i) := by
  intro pins s σ H Q I h
  obtain ⟨v, e, h⟩ := h
  obtain ⟨m, hn, hl⟩ := I.loc
  obtain ⟨u, r, l⟩ := hl i x v hN e hv
  have fin : EP X pins σ Q u s := ⟨v, H, I, r, h⟩
  rcases l with ⟨hk, hm⟩ | ⟨hk, c, hc, hcell⟩
  · exact wpAny_Name (wpAny_loadName_local I.ok.kind hk hn hm fin) hd
  · rcases hk with hk | hk
    · exact wpAny_Name (wpAny_loadName_cell I.ok.kind hk hc hcell fin) hd
    · exact wpAny_Name (wpAny_loadName_free I.ok.kind hk hc hcell fin hcd) hd
theorem pe_int {i j pos} : PE X (.Constant (.int i) j pos) (tC (.int i)) := fun _ _ _ H _ I h => wpAny_Constant_int ⟨.int i, H, I.tok _, ⟨_, rfl⟩, h⟩
theorem pe_bl {b j pos} : PE X (.Constant (.bool b) j pos) (tC (.bl b)) := fun _ _ _ H _ I h => Constant_bool ⟨.bl b, H, I, rfl, h⟩
def Gl (X : Cx) (x : Str) : Prop := X.env.kindOf x = some .globalImplicit
theorem ld_glob {E : Value → Shared → Prop} {pins : List (Addr × Obj)} {s : Shared} {σ : St} {H : Hp} {x : Str} {u : Value} {pos : Pos} {Q : Value → Shared → Prop} (I : Inv X pins σ H s) (hg : Gl X x) (hm : X.mg x = some u) (h : Q u s)
    (hd : (x == ("__debug__" : Str)) = false := by decide) : wpAny (model X.prog X.w) X.A (eval (.Name x pos) X.env) Q E s :=
  Calls.Name_function_global I.ok.kind hg (Calls.loadGlobal_global (by rw [I.ok.glob]; exact I.mod.glob.keeps I.bk) hm h) hd
theorem ld_blt {E : Value → Shared → Prop} {pins : List (Addr × Obj)} {s : Shared} {σ : St} {H : Hp} {x : Str} {u : Value} {pos : Pos} {Q : Value → Shared → Prop} (I : Inv X pins σ H s) (hg : Gl X x) (hm : X.mg x = none) (hv : bootBuiltins x = some u) (h : Q u s)
    (hn : x ≠ "__name__" := by decide) (hd : (x == ("__debug__" : Str)) = false := by decide) : wpAny (model X.prog X.w) X.A (eval (.Name x pos) X.env) Q E s := by
  obtain ⟨mb, h1, h2⟩ := I.mod.blt
  exact Calls.Name_function_global I.ok.kind hg (Calls.loadGlobal_builtin (by rw [I.ok.glob]; exact I.mod.glob.keeps I.bk) hm (by rw [I.ok.blt]; exact h1.keeps I.bk) ((h2 x hn).trans hv) h) hd
theorem pe_glob {x : Str} {v : V} {u : Value} {pos : Pos} (hg : Gl X x) (hm : X.mg x = some u) (r : RelV v u) (hd : (x == ("__debug__" : Str)) = false := by decide) : PE X (.Name x pos) (tC v) :=
  fun _ _ _ H _ I h => ld_glob I hg hm ⟨v, H, I, r, h⟩ hd
theorem pe_bltn {x : Str} {v : V} {u : Value} {pos : Pos} (hg : Gl X x) (hm : X.mg x = none) (hv : bootBuiltins x = some u) (r : RelV v u) (hn : x ≠ "__name__" := by decide) (hd : (x == ("__debug__" : Str)) = false := by decide) : PE X (.Name x pos) (tC v) :=
  fun _ _ _ H _ I h => ld_blt I hg hm hv ⟨v, H, I, r, h⟩ hn hd
variable {a b : Expr} {ta tb : TE} {pos : Pos}
def tB (t : TE) : TT := fun σ H Q => t σ H fun x H1 => ∃ c, x = .bl c ∧ Q c H1
theorem pt_val {e : Expr} {t : TE} (h : PE X e t) (he : ∀ whole, isTrue e X.env whole = (do let v ← whole; standAt e.pos; holding [v] (truthy v)) := by intro _; rfl) : PT X e (tB t) := by
  intro pins s σ H Q I hw
  refine isTrue_plain (thn (h pins s σ H _ I hw) fun v s1 ⟨x, H1, I1, r1, q1⟩ => ?_) (he _)
  obtain ⟨d, rfl, q⟩ := q1
  cases r1
  exact wpAny_truthy_bool ⟨H1, I1, q⟩
variable {tA tB' : TT} {rest : List Expr}
def tAnd (t u : TT) : TT := fun σ H Q => t σ H fun c H1 => if c = true then u σ H1 Q else Q false H1
def tOr (t u : TT) : TT := fun σ H Q => t σ H fun c H1 => if c = true then Q true H1 else u σ H1 Q
def tNot (t : TT) : TT := fun σ H Q => t σ H fun c H1 => Q (!c) H1
theorem pw_and1 (ha : PT X a tA) : PW X (.BoolOp .And [a] pos) tA := by
  intro wh pins s σ H Q I h
  refine isTrue_and (thn (ha pins s σ H Q I h) fun c s1 e => ?_)
  cases c with
  | true => exact isTrue_and_nil e
  | false => exact e
theorem pw_or1 (ha : PT X a tA) : PW X (.BoolOp .Or [a] pos) tA := by
  intro wh pins s σ H Q I h
  refine isTrue_or (thn (ha pins s σ H Q I h) fun c s1 e => ?_)
  cases c with
  | false => exact isTrue_or_nil e
  | true => exact e
theorem pw_and (ha : PT X a tA) (hb : PW X (.BoolOp .And (b :: rest) pos) tB') : PW X (.BoolOp .And (a :: b :: rest) pos) (tAnd tA tB') := by
  intro wh pins s σ H Q I h
  refine isTrue_and (thn (ha pins s σ H _ I h) fun c s1 ⟨H1, I1, q1⟩ => ?_)
  cases c with
  | true => exact hb wh pins s1 σ H1 Q I1 q1
  | false => exact ⟨H1, I1, q1⟩
theorem pw_or (ha : PT X a tA) (hb : PW X (.BoolOp .Or (b :: rest) pos) tB') : PW X (.BoolOp .Or (a :: b :: rest) pos) (tOr tA tB') := by
  intro wh pins s σ H Q I h
  refine isTrue_or (thn (ha pins s σ H _ I h) fun c s1 ⟨H1, I1, q1⟩ => ?_)
  cases c with
  | true => exact ⟨H1, I1, q1⟩
  | false => exact hb wh pins s1 σ H1 Q I1 q1
theorem pt_not (ha : PT X a tA) : PT X (.UnaryOp .Not a pos) (tNot tA) := by
  intro pins s σ H Q I h
  exact isTrue_not (ha pins s σ H (fun c H1 => Q (!c) H1) I h)
def tAndV (ta tb : TE) : TE := fun σ H Q => ta σ H fun x H1 => ∃ c, x = .bl c ∧ if c = true then tb σ H1 Q else Q (.bl false) H1
def tOrV (ta tb : TE) : TE := fun σ H Q => ta σ H fun x H1 => ∃ c, x = .bl c ∧ if c = true then Q (.bl true) H1 else tb σ H1 Q
def tNotV (ta : TE) : TE := fun σ H Q => ta σ H fun x H1 => ∃ c, x = .bl c ∧ Q (.bl (!c)) H1
theorem pe_one {op} {t : TE} (h : PE X a t) : PE X (.BoolOp op [a] pos) t := fun pins s σ H Q I hw => BoolOp_one (h pins s σ H Q I hw)
theorem pe_and (ha : PE X a ta) (hb : PE X (.BoolOp .And (b :: rest) pos) tb) : PE X (.BoolOp .And (a :: b :: rest) pos) (tAndV ta tb) := by
  intro pins s σ H Q I h
  refine BoolOp_and (thn (ha pins s σ H _ I h) fun v s1 ⟨x, H1, I1, r1, q1⟩ => ?_)
  obtain ⟨c, rfl, q1⟩ := q1
  cases r1
  refine wpAny_truthy_bool ?_
  cases c with
  | true => exact hb pins s1 σ H1 Q I1 q1
  | false => exact ⟨.bl false, H1, I1, rfl, q1⟩
theorem pe_or (ha : PE X a ta) (hb : PE X (.BoolOp .Or (b :: rest) pos) tb) : PE X (.BoolOp .Or (a :: b :: rest) pos) (tOrV ta tb) := by
  intro pins s σ H Q I h
  refine BoolOp_or (thn (ha pins s σ H _ I h) fun v s1 ⟨x, H1, I1, r1, q1⟩ => ?_)
  obtain ⟨c, rfl, q1⟩ := q1
  cases r1
  refine wpAny_truthy_bool ?_
  cases c with
  | false => exact hb pins s1 σ H1 Q I1 q1
  | true => exact ⟨.bl true, H1, I1, rfl, q1⟩
theorem pe_not (ha : PE X a ta) : PE X (.UnaryOp .Not a pos) (tNotV ta) := by
  intro pins s σ H Q I h
  refine UnaryOp_ (thn (ha pins s σ H _ I h) fun v s1 ⟨x, H1, I1, r1, q1⟩ => ?_)
  obtain ⟨c, rfl, q1⟩ := q1
  cases r1
  exact not_of (wpAny_truthy_bool ⟨.bl (!c), H1, I1, rfl, q1⟩)
end
end L2
namespace L2
open PySem PySem.Spec PyProof.Rows
def SqL (K : PySem.W.Frag) (H : Hp) (a : Addr) (xs : List V) : Prop :=
  Rd H a (.lst xs) ∨
    ∃ (o : Obj) (its : Array Value) (n : Nat), K.lookup a = some o ∧ o.cls = .type "list" ∧ o.dict = none ∧ o.data = .seq its n ∧ its.size ≤ sizeLine ∧ Vals xs its.toList
def SqT (K : PySem.W.Frag) (H : Hp) (a : Addr) (xs : List V) : Prop :=
  Rd H a (.tup xs) ∨
    ∃ (o : Obj) (its : Array Value) (n : Nat), K.lookup a = some o ∧ o.cls = .type "tuple" ∧ o.data = .seq its n ∧ its.size ≤ sizeLine ∧ Vals xs its.toList
def absV : Value → Option V
  | .none => some .non
  | .bool b => some (.bl b)
  | .int i _ => some (.int i)
  | .str x _ => some (.str x)
  | .bytes b _ => some (.byt b)
  | .float b _ => some (.flt b)
  | .ref a => some (.ref a)
  | .type n => some (.ty n)
  | _ => none
theorem RelV.abs {x : V} {u : Value} (r : RelV x u) : absV u = some x := by
  cases x with
  | non => cases r; rfl
  | bl _ => cases r; rfl
  | int _ => obtain ⟨t, rfl⟩ := r; rfl
  | str _ => obtain ⟨t, rfl⟩ := r; rfl
  | byt _ => obtain ⟨t, rfl⟩ := r; rfl
  | flt _ => obtain ⟨t, rfl⟩ := r; rfl
  | ref _ => cases r; rfl
  | ty _ => cases r; rfl
theorem RelV.inj {x y : V} {u : Value} (r : RelV x u) (q : RelV y u) : x = y := Option.some.inj (r.abs.symm.trans q.abs)
theorem Vals.inj : ∀ {xs ys : List V} {us : List Value}, Vals xs us → Vals ys us → xs = ys
  | _, _, _, .nil, .nil => rfl
  | _, _, _, .cons r t, .cons r' t' => by rw [r.inj r', Vals.inj t t']
section
variable {X : Cx} {pins : List (Addr × Obj)} {σ : St} {H : Hp} {s : Shared} {a : Addr} {xs ys : List V}
theorem SqL.of {K : PySem.W.Frag} (h : H a = some (.lst xs)) : SqL K H a xs := .inl (.inl h)
theorem SqT.of {K : PySem.W.Frag} (h : H a = some (.tup xs)) : SqT K H a xs := .inl (.inl h)
theorem Inv.list (I : Inv X pins σ H s) (h : SqL X.K H a xs) : ∃ its : List Value, Vals xs its ∧ PlainL s.heap a its.toArray ∧ xs.length ≤ sizeLine := by
  rcases h with h | ⟨o, its, n, hk, hc, hd, hs, hz, r⟩
  · obtain ⟨z, its, n, r, e⟩ := h.ok I.hok
    exact ⟨its, r, ⟨_, n, e, rfl, rfl, rfl⟩, z⟩
  · refine ⟨its.toList, r, ⟨o, n, I.kIn a o hk, hc, hd, by simpa using hs⟩, ?_⟩
    have e := r.length
    simp only [Array.length_toList] at e
    omega
theorem Inv.tuple (I : Inv X pins σ H s) (h : SqT X.K H a xs) : ∃ its : List Value, Vals xs its ∧ IsTup s.heap a its.toArray ∧ xs.length ≤ sizeLine := by
  rcases h with h | ⟨o, its, n, hk, hc, hs, hz, r⟩
  · obtain ⟨z, its, r, p⟩ := h.ok I.hok
    exact ⟨its, r, p, z⟩
  · refine ⟨its.toList, r, ⟨o, I.kIn a o hk, hc, n, by simpa using hs⟩, ?_⟩
    have e := r.length
    simp only [Array.length_toList] at e
    omega
theorem Inv.list_inj (I : Inv X pins σ H s) (h : SqL X.K H a xs) (h' : SqL X.K H a ys) : xs = ys := by
  obtain ⟨its, r, ⟨o, n, e, _, _, d⟩, _⟩ := I.list h
  obtain ⟨its', r', ⟨o', n', e', _, _, d'⟩, _⟩ := I.list h'
  rw [e] at e'; cases e'
  rw [d] at d'
  injection d' with d1 _
  have : its = its' := by simpa using congrArg Array.toList d1
  subst this
  exact r.inj r'
theorem Inv.tuple_inj (I : Inv X pins σ H s) (h : SqT X.K H a xs) (h' : SqT X.K H a ys) : xs = ys := by
  obtain ⟨its, r, ⟨o, e, _, n, d⟩, _⟩ := I.tuple h
  obtain ⟨its', r', ⟨o', e', _, n', d'⟩, _⟩ := I.tuple h'
  rw [e] at e'; cases e'
  rw [d] at d'
  injection d' with d1 _
  have : its = its' := by simpa using congrArg Array.toList d1
  subst this
  exact r.inj r'
end
abbrev Cx.wish (X : Cx) (E : Value → Shared → Prop) : Cx := { X with xe := E }
abbrev Cx.nox (X : Cx) : Cx := X.wish fun _ _ => False
theorem Cx.Ok.wish {X : Cx} (ok : X.Ok) (E : Value → Shared → Prop) : (X.wish E).Ok :=
  ⟨ok.mod, ok.kind, ok.glob, ok.blt, ok.above, ok.inj, ok.has, ok.cab, ok.hd, ok.frames, ok.stk, ok.exf, ok.bs, ok.bsz, ok.noex, ok.exfs, ok.funs, ok.frf⟩
theorem Cx.Ok.unwish {X : Cx} {E : Value → Shared → Prop} (ok : (X.wish E).Ok) : X.Ok :=
  ⟨ok.mod, ok.kind, ok.glob, ok.blt, ok.above, ok.inj, ok.has, ok.cab, ok.hd, ok.frames, ok.stk, ok.exf, ok.bs, ok.bsz, ok.noex, ok.exfs, ok.funs, ok.frf⟩
section
variable {X : Cx} {pins : List (Addr × Obj)} {σ : St} {H : Hp} {s : Shared} {E : Value → Shared → Prop}
theorem Inv.wish (I : Inv X pins σ H s) (E : Value → Shared → Prop) : Inv (X.wish E) pins σ H s := ⟨I.ok.wish E, I.os, I.bare, I.base, I.loc, I.cell, I.free, I.freeC, I.pin, I.hok, I.len⟩
theorem Inv.unwish (I : Inv (X.wish E) pins σ H s) : Inv X pins σ H s := ⟨I.ok.unwish, I.os, I.bare, I.base, I.loc, I.cell, I.free, I.freeC, I.pin, I.hok, I.len⟩
theorem SP.unwish {D : Ends} {f : Flow} {s' : Shared} (h : SP (X.wish E) pins D f s') : SP X pins D f s' := by
  cases f with
  | next => obtain ⟨σ', H', I, q⟩ := h; exact ⟨σ', H', I.unwish, q⟩
  | brk => obtain ⟨σ', H', I, q⟩ := h; exact ⟨σ', H', I.unwish, q⟩
  | cont => obtain ⟨σ', H', I, q⟩ := h; exact ⟨σ', H', I.unwish, q⟩
  | ret u => obtain ⟨v, σ', H', I, r, q⟩ := h; exact ⟨v, σ', H', I.unwish, r, q⟩
theorem PSs.nox {st : List Stmt} {t : TS} (h : PSs X.nox st t) : PSs X st t := fun pins s σ H D I hw =>
  wpAny_mono (h pins s σ H D (I.wish _) hw) (fun _ _ q => q.unwish) fun _ _ z => False.elim z
end
section
variable {X : Cx} {st : Stmt} {rest : List Stmt} {t u : TS} {e : Expr} {te : TE} {pos : Pos}
def tNext : TS := fun D σ H => D.nx σ H
def tSeq (t u : TS) : TS := fun D σ H => t { D with nx := u D } σ H
theorem pss_nil : PSs X [] tNext := fun _ _ σ H _ I h => wpAny_execs_nil ⟨σ, H, I, h⟩
theorem pss_cons (h1 : PS X st t) (h2 : PSs X rest u) : PSs X (st :: rest) (tSeq t u) := by
  intro pins s σ H D I h
  refine wpAny_execs_cons (thn (h1 pins s σ H { D with nx := u D } I h) fun f s1 q => ?_)
  cases f with
  | next =>
    obtain ⟨σ', H', I', q⟩ := q
    exact h2 pins s1 σ' H' D I' q
  | ret v => exact q
  | brk => exact q
  | cont => exact q
theorem pss_one (h1 : PS X st t) : PSs X [st] t := by
  intro pins s σ H D I h
  refine wpAny_execs_cons (thn (h1 pins s σ H D I h) fun f s1 q => ?_)
  cases f with
  | next => exact wpAny_execs_nil q
  | ret v => exact q
  | brk => exact q
  | cont => exact q
theorem Inv.quiet {pins : List (Addr × Obj)} {σ : St} {H : Hp} {s : Shared} (I : Inv X pins σ H s) : interactive X.env = false := by simp [interactive, I.ok.kind]
def tDrop (te : TE) : TS := fun D σ H => te σ H fun _ H1 => D.nx σ H1
theorem ps_expr (he : PE X e te) (hs : swapsWith e none pos.line X.env = pure false := by rfl) : PS X (.Expr e pos) (tDrop te) := by
  intro pins s σ H D I h
  exact wpAny_Expr_any (thn (he pins s σ H _ I h) fun v s1 ⟨x, H1, I1, r1, q1⟩ => ⟨σ, H1, I1, q1⟩) I.quiet hs
def tRet (te : TE) : TS := fun D σ H => te σ H D.rt
theorem ps_ret (he : PE X e te) : PS X (.Return (some e) pos) (tRet te) := by
  intro pins s σ H D I h
  exact wpAny_Return_some (thn (he pins s σ H _ I h) fun v s1 ⟨x, H1, I1, r1, q1⟩ => ⟨x, σ, H1, I1, r1, q1⟩)
def tIfS (c : TT) (t u : TS) : TS := fun D σ H => c σ H fun b H1 => if b = true then t D σ H1 else u D σ H1
theorem ps_if {c : Expr} {a b : List Stmt} {tc : TT} (hc : PT X c tc) (ha : PSs X a t) (hb : PSs X b u) : PS X (.If c a b pos) (tIfS tc t u) := by
  intro pins s σ H D I h
  refine wpAny_If (thn (hc pins s σ H _ I h) fun d s1 ⟨H1, I1, q1⟩ => ?_)
  cases d with
  | true => exact ha pins s1 σ H1 D I1 q1
  | false => exact hb pins s1 σ H1 D I1 q1
def tNever : TS := fun _ _ _ => False
theorem pss_never {sts : List Stmt} : PSs X sts tNever := fun _ _ _ _ _ _ h => h.elim
end
abbrev TG := V → St → Hp → (St → Hp → Prop) → Prop
abbrev TGs := List V → St → Hp → (St → Hp → Prop) → Prop
def PG (X : Cx) (target : Expr) (t : TG) : Prop :=
  ∀ (pins : List (Addr × Obj)) (s : Shared) (σ : St) (H : Hp) (v : V) (u : Value) (Q : St → Hp → Prop), Inv X pins σ H s → RelV v u → t v σ H Q →
    wpAny (model X.prog X.w) X.A (assign target X.env u) (fun _ s' => ∃ σ' H', Inv X pins σ' H' s' ∧ Q σ' H') X.xe s
def PGs (X : Cx) (ts : List Expr) (t : TGs) : Prop :=
  ∀ (pins : List (Addr × Obj)) (s : Shared) (σ : St) (H : Hp) (vs : List V) (us : List Value) (Q : St → Hp → Prop), Inv X pins σ H s → Vals vs us → t vs σ H Q →
    wpAny (model X.prog X.w) X.A (assignInOrder ((assignEach ts X.env).map (·.2)) us) (fun _ s' => ∃ σ' H', Inv X pins σ' H' s' ∧ Q σ' H') X.xe s
abbrev TSet := V → V → V → Hp → (Hp → Prop) → Prop
def PSet (X : Cx) (t : TSet) : Prop :=
  ∀ (pins : List (Addr × Obj)) (s : Shared) (σ : St) (H : Hp) (o i v : V) (ov iv u : Value) (Q : Hp → Prop), Inv X pins σ H s → RelV o ov → RelV i iv → RelV v u → t o i v H Q →
    wpAny (model X.prog X.w) X.A (setItem ov iv u) (fun _ s' => ∃ H', Inv X pins σ H' s' ∧ Q H') X.xe s
section
variable {X : Cx} {pos : Pos}
def gName (i : Nat) : TG := fun v σ H Q => Q (σ.set i (some v)) H
theorem pg_name {i : Nat} {x : Str} (hN : X.N.Nodup) (hi : X.N[i]? = some x) (hx : Loc X.env.scope x) (hf : X.fn x = true ∨ X.env.scope.names.lookup x = some .local := by first | exact .inl rfl | exact .inr rfl | assumption) : PG X (.Name x pos) (gName i) := by
  intro pins s σ H v u Q I r h
  exact wpAny_assign_Name (store_ok I hN hi hx r (fun s' I' => ⟨_, H, I', h⟩) hf)
def gNil : TGs := fun vs σ H Q => vs = [] ∧ Q σ H
def gCons (t : TG) (u : TGs) : TGs := fun vs σ H Q => ∃ v r, vs = v :: r ∧ t v σ H fun σ' H' => u r σ' H' Q
theorem pgs_nil : PGs X [] gNil := by
  intro pins s σ H vs us Q I r h
  obtain ⟨e, h⟩ := h
  subst e
  cases r
  exact assignInOrder_nil ⟨σ, H, I, h⟩
theorem pgs_cons {e : Expr} {es : List Expr} {t : TG} {u : TGs} (h1 : PG X e t) (h2 : PGs X es u)
    (hs : (assignEach (e :: es) X.env).map (·.2) = assign e X.env :: (assignEach es X.env).map (·.2) := by rfl) : PGs X (e :: es) (gCons t u) := by
  intro pins s σ H vs us Q I r h
  obtain ⟨v, vr, e1, h⟩ := h
  subst e1
  cases r with
  | cons r rr =>
    rw [hs]
    refine assignInOrder_cons (thn (h1 pins s σ H _ _ _ I r h) fun _ s1 ⟨σ1, H1, I1, q1⟩ => ?_)
    exact h2 pins s1 σ1 H1 _ _ Q I1 rr q1
def gTup (K : PySem.W.Frag) (n : Nat) (t : TGs) : TG := fun v σ H Q => ∃ a xs, v = .ref a ∧ SqT K H a xs ∧ xs.length = n ∧ t xs σ H Q
theorem pg_tup {es : List Expr} {k : Nat} {t : TGs} {n : Nat} (hc : X.calm = true) (h : PGs X es t)
    (hn : (assignEach es X.env).length = n := by rfl) (hst : (assignEach es X.env).findIdx? (·.1) = none := by rfl) : PG X (.Tuple es k pos) (gTup X.K n t) := by
  intro pins s σ H v u Q I r hw
  obtain ⟨a, xs, e1, hq, hl, hw⟩ := hw
  subst e1
  cases r
  obtain ⟨its, rv, ht, hz⟩ := I.tuple hq
  refine assign_Tuple_tuple (I.ok.hd hc) ht (by simp [hn, ← hl, rv.length]) hst fun h' hx => ?_
  have I1 : Inv X pins σ H { s with heap := h' } := I.kept (t' := s.toks) fun b o e => hx b o (Nat.ne_of_lt (Heap.lt_size e)) e
  exact h pins _ σ H xs _ Q I1 (by simpa using rv) hw
def gSub (to ti : TE) (t : TSet) : TG := fun v σ H Q => to σ H fun o H1 => ti σ H1 fun i H2 => t o i v H2 fun H3 => Q σ H3
theorem pg_sub {o i : Expr} {to ti : TE} {t : TSet} (ho : PE X o to) (hi : PE X i ti) (hs : PSet X t)
    (ha : ∀ v, assign (.Subscript o i pos) X.env v = (do
      let ov ← holding [v] (eval o X.env)
      let iv ← holding [v, ov] (eval i X.env)
      standAt pos
      holding [v, ov, iv] (setItem ov iv v)
      release [v, ov, iv] []) := by intro _; rfl) : PG X (.Subscript o i pos) (gSub to ti t) := by
  intro pins s σ H v u Q I r h
  rw [ha]
  refine wpAny_bind (wpAny_holding (thn (ho pins s σ H _ I h) fun ov s1 ⟨x, H1, I1, r1, q1⟩ => ?_))
  refine wpAny_bind (wpAny_holding (thn (hi pins s1 σ H1 _ I1 q1) fun iv s2 ⟨y, H2, I2, r2, q2⟩ => ?_))
  refine wpAny_bind (wpAny_standAt (wpAny_bind (wpAny_holding (thn (hs pins s2 σ H2 x y v ov iv u _ I2 r1 r2 r q2) fun _ s3 ⟨H3, I3, q3⟩ => ?_))))
  exact wpAny_release ⟨σ, H3, I3, q3⟩
def tAsg (te : TE) (g : TG) : TS := fun D σ H => te σ H fun x H1 => g x σ H1 D.nx
theorem ps_asg {tg e : Expr} {te : TE} {g : TG} (he : PE X e te) (hg : PG X tg g) (hs : swapsWithSole [tg] e pos.line X.env = pure false := by rfl) (hw : swappedStores [tg] e X.env = pure none := by rfl)
    (h1 : (assignEach [tg] X.env).map (·.2) = [assign tg X.env] := by rfl) : PS X (.Assign [tg] e pos) (tAsg te g) := by
  intro pins s σ H D I h
  refine wpAny_Assign_stores (thn (he pins s σ H _ I h) fun v s1 ⟨x, H1, I1, r1, q1⟩ => ?_) hs hw
  rw [h1]
  exact thn (hg pins s1 σ H1 x v _ I1 r1 q1) fun _ s2 q => q
theorem ps_set {i : Nat} {x : Str} {e : Expr} {te : TE} {pos' : Pos} (hN : X.N.Nodup) (hi : X.N[i]? = some x) (hx : Loc X.env.scope x) (he : PE X e te) (hs : swapsWith e (some (.Name x pos')) pos.line X.env = pure false := by rfl) (hf : X.fn x = true ∨ X.env.scope.names.lookup x = some .local := by first | exact .inl rfl | exact .inr rfl | assumption) :
    PS X (.Assign [.Name x pos'] e pos) (tAsg te (gName i)) := by
  intro pins s σ H D I h
  refine wpAny_Assign_Name (thn (he pins s σ H _ I h) fun v s1 ⟨y, H1, I1, r1, q1⟩ => ?_) hs
  exact store_ok I1 hN hi hx r1 (fun s2 I2 => ⟨_, H1, I2, q1⟩) hf
def tPar (i j : Nat) (ta : TA) : TS := fun D σ H => ta σ H fun vs H1 => ∃ v w, vs = [v, w] ∧ D.nx ((σ.set i (some v)).set j (some w)) H1
theorem ps_par {i j : Nat} {x y : Str} {a b : Expr} {ta : TA} {px py pt : Pos} {kt k2 pt2} (hc : X.calm = true) (hN : X.N.Nodup) (hi : X.N[i]? = some x) (hj : X.N[j]? = some y) (hij : i ≠ j)
    (hx : X.env.scope.names.lookup x = some .local) (hy : X.env.scope.names.lookup y = some .local) (ha : PA X [a, b] ta)
    (hw : swappedStores [.Tuple [.Name x px, .Name y py] kt pt] (.Tuple [a, b] k2 pt2) X.env = pure (some [x, y]))
    (hs : swapsWithSole [.Tuple [.Name x px, .Name y py] kt pt] (.Tuple [a, b] k2 pt2) pos.line X.env = pure false := by rfl) :
    PS X (.Assign [.Tuple [.Name x px, .Name y py] kt pt] (.Tuple [a, b] k2 pt2) pos) (tPar i j ta) := by
  intro pins s σ H D I h
  rw [exec_Assign_arm]
  refine wpAny_bind (wpAny_standAt ?_)
  rw [hs]
  refine wpAny_bind (wpAny_pure ?_)
  rw [if_neg (by decide)]
  refine wpAny_bind (Tuple_ (thn (ha _ pins s σ H _ I h) fun us s1 ⟨vs, H1, I1, r1, q1⟩ => ?_))
  obtain ⟨v, w, e1, q1⟩ := q1
  subst e1
  obtain ⟨u1, u2, rfl, rv, rw'⟩ : ∃ u1 u2, us = [u1, u2] ∧ RelV v u1 ∧ RelV w u2 := by
    cases r1 with
    | cons p q =>
      cases q with
      | cons p' q' =>
        cases q'
        exact ⟨_, _, rfl, p, p'⟩
  refine wpAny_newObj_type ?_ (by show 2 ≤ sizeLine; decide)
  have I2 : Inv X pins σ H1 { s1 with heap := s1.heap.push { cls := .type "tuple", data := .seq [u1, u2].toArray } } := I1.kept (t' := s1.toks) fun b o e => Heap.get?_push_of_some _ e
  rw [hw]
  refine wpAny_bind (wpAny_pure ?_)
  show wpAny (model X.prog X.w) X.A (do rule "assign.swapped-stores"; let items ← unpackItems (.ref s1.heap.objs.size) 2 none; assignInOrder [fun v => bindName X.env y v, fun v => bindName X.env x v] items.reverse; pure Flow.next) _ _ _
  refine wpAny_bind (wpAny_rule (wpAny_bind (unpackItems_tuple (items := #[u1, u2]) (I.ok.hd hc) (IsTup.new s1.heap _) fun h' hx' => ?_)))
  have I3 := I2.kept (h' := h') (t' := s1.toks) fun b o e => hx' b o (Nat.ne_of_lt (Heap.lt_size e)) e
  show wpAny _ _ (assignInOrder [fun v => bindName X.env y v, fun v => bindName X.env x v] [u2, u1] >>= fun _ => pure Flow.next) _ _ _
  refine wpAny_bind (assignInOrder_cons (wpAny_bindName (store_ok I3 hN hj (.inl hy) rw' (fun s2 I4 => ?_) (.inr hy))))
  refine assignInOrder_cons (wpAny_bindName (store_ok I4 hN hi (.inl hx) rv (fun s3 I5 => assignInOrder_nil (wpAny_pure ?_)) (.inr hx)))
  rw [List.set_comm _ _ (Ne.symm hij)] at I5
  exact ⟨_, H1, I5, q1⟩
end
section
variable {X : Cx} {pos : Pos}
def tWhile (c : TT) (tb : TS) : TS := fun D σ H => ∃ W : Nat → St → Hp → Prop, (∃ m, W m σ H) ∧ ∀ m σ H, W m σ H →
  c σ H fun b H1 => if b = true then ∃ N : St → Hp → Prop, (∀ σ' H', N σ' H' → ∃ m', m' < m ∧ W m' σ' H') ∧ tb { D with nx := N, ct := N, bk := D.nx } σ H1 else D.nx σ H1
theorem ps_while {c : Expr} {body : List Stmt} {tc : TT} {tb : TS} (hp : PassesOwn (model X.prog X.w) X.A X.env X.xe) (hc : PT X c tc) (hb : PSs X body tb) : PS X (.While c body [] pos) (tWhile tc tb) := by
  intro pins s σ H D I h
  obtain ⟨W, ⟨m0, w0⟩, turn⟩ := h
  refine wpAny_While (codeAny_whileLoop (fun n s' => ∃ σ' H', Inv X pins σ' H' s' ∧ W n σ' H') ?_ m0 ⟨σ, H, I, w0⟩)
  rintro n s1 ⟨σ1, H1, I1, w1⟩
  refine wpAny_passesOwn hp (thn (hc pins s1 σ1 H1 _ I1 (turn n σ1 H1 w1)) fun b s2 ⟨H2, I2, q2⟩ => ?_)
  cases b with
  | true =>
    obtain ⟨N, hN, q2⟩ := q2
    rw [if_pos rfl]
    refine wpAny_passesOwn hp (thn (hb pins s2 σ1 H2 _ I2 q2) fun f s3 q3 => ?_)
    cases f with
    | next =>
      obtain ⟨σ3, H3, I3, n3⟩ := q3
      obtain ⟨m', hm, w3⟩ := hN σ3 H3 n3
      exact ⟨m', hm, σ3, H3, I3, w3⟩
    | cont =>
      obtain ⟨σ3, H3, I3, n3⟩ := q3
      obtain ⟨m', hm, w3⟩ := hN σ3 H3 n3
      exact ⟨m', hm, σ3, H3, I3, w3⟩
    | brk => exact q3
    | ret v => exact q3
  | false =>
    rw [if_neg Bool.false_ne_true]
    exact wpAny_execs_nil ⟨σ1, H2, I2, q2⟩
end
structure It where
  go : Nat → Hp → Prop
  yld : Nat → Hp → V → Hp → Prop
  stop : Nat → Hp → Prop
def FpOk (X : Cx) (pins : List (Addr × Obj)) (H : Hp) (b : Addr) : Prop :=
  H b = none ∧ b ≠ X.env.locals ∧ b ∉ X.fs ∧ (b ∈ X.ex ∨ X.s₀.heap.objs.size ≤ b) ∧ (∀ x c, X.env.cells.lookup x = some c → c ≠ b) ∧ ∀ p ∈ X.pn ++ pins, p.1 ≠ b
theorem Inv.fpOk {X : Cx} {pins : List (Addr × Obj)} {σ : St} {H H' : Hp} {s : Shared} {b : Addr} (I : Inv X pins σ H s) (hb : s.heap.objs.size ≤ b) (hn : H' b = none) : FpOk X pins H' b := by
  refine ⟨hn, Nat.ne_of_gt (Nat.lt_of_lt_of_le I.lt hb), I.nofs hb, .inr (Nat.le_trans I.sz hb), fun x c e z => ?_, fun p hp z => ?_⟩
  · obtain ⟨v, q⟩ := I.cell x c e
    exact absurd (Nat.lt_of_lt_of_le q.lt (by rw [z]; exact hb)) (Nat.lt_irrefl _)
  · exact absurd (Nat.lt_of_lt_of_le (Heap.lt_size (I.pin p hp).1) (by rw [z]; exact hb)) (Nat.lt_irrefl _)
structure Turn (P : Program) (w : World) (K : PySem.W.Frag) (tg : Expr) (J : It) (fp : List Addr) (it : Addr) (tn : Nat → Heap → Prop) : Prop where
  mem : it ∈ fp
  obj : ∀ i h, tn i h → ∀ b ∈ fp, ∃ o, h.get? b = some o ∧ ∀ v, o.data ≠ .cell v
  keep : ∀ i h h', tn i h → (∀ b ∈ fp, ∀ o, h.get? b = some o → h'.get? b = some o) → tn i h'
  item : ∀ (X : Cx), X.prog = P → X.w = w → X.K = K → X.calm = true → ∀ (i : Nat) (pins : List (Addr × Obj)) (s : Shared) (σ : St) (H : Hp) (E : Value → Shared → Prop), Inv X pins σ H s → (∀ b ∈ fp, FpOk X pins H b) → tn i s.heap → J.go i H →
    wpAny (model P w) X.A (pyNext (.ref it)) (fun r s1 => ∃ u, r = some u ∧
      wpAny (model P w) X.A (letOwnedTupleGo tg (.ref it) u) (fun _ s2 => ∃ x H', Inv X pins σ H' s2 ∧ RelV x u ∧ J.yld i H x H' ∧ tn (i + 1) s2.heap ∧ ∀ b ∈ fp, H' b = none) E s1) E s
  done : ∀ (X : Cx), X.prog = P → X.w = w → X.K = K → X.calm = true → ∀ (i : Nat) (pins : List (Addr × Obj)) (s : Shared) (σ : St) (H : Hp) (E : Value → Shared → Prop), Inv X pins σ H s → (∀ b ∈ fp, FpOk X pins H b) → tn i s.heap → J.stop i H →
    wpAny (model P w) X.A (pyNext (.ref it)) (fun r s1 => r = none ∧ Inv X pins σ H s1) E s
  self : ∀ (A : Around) (i : Nat) (s : Shared) (Q : Value → Shared → Prop) (E : Value → Shared → Prop), tn i s.heap → Q (.ref it) s → wpAny (model P w) A (pyIter (.ref it)) Q E s
abbrev TI := St → Hp → (It → Hp → Prop) → Prop
def PIE (X : Cx) (pins : List (Addr × Obj)) (σ : St) (tg : Expr) (R : It → Hp → Prop) (itv : Value) (s2 : Shared) : Prop :=
  ∃ (it : Addr) (fp : List Addr) (tn : Nat → Heap → Prop) (J : It) (H' : Hp), itv = .ref it ∧ Inv X pins σ H' s2 ∧ Turn X.prog X.w X.K tg J fp it tn ∧ tn 0 s2.heap ∧ (∀ b ∈ fp, FpOk X pins H' b) ∧ R J H'
def PI (X : Cx) (tg iter : Expr) (wi : TI) : Prop :=
  ∀ (pins : List (Addr × Obj)) (s : Shared) (σ : St) (H : Hp) (R : It → Hp → Prop), Inv X pins σ H s → wi σ H R →
    wpAny (model X.prog X.w) X.A (eval iter X.env) (fun v s1 => wpAny (model X.prog X.w) X.A (pyIter v) (PIE X pins σ tg R) X.xe s1) X.xe s
theorem go_of {M : Model} {A : Around} {E : Value → Shared → Prop} {s : Shared} {tg : Expr} {it : Addr} {u : Value} {o : Obj} {n : String} {vs : Array Value} {Q : Unit → Shared → Prop} (ho : s.heap.get? it = some o) (hc : o.cls = .type n) (hd : o.data = .fields vs)
    (hn : ["enumerate", "zip", "dict_itemiterator", "dict_reverseitemiterator", "odict_iterator", "itertools.zip_longest", "itertools.pairwise"].contains n = false) (hQ : Q () s) : wpAny M A (letOwnedTupleGo tg (.ref it) u) Q E s := by
  unfold letOwnedTupleGo
  cases tg <;> first
    | exact wpAny_pure hQ
    | (cases u <;> first
        | exact wpAny_pure hQ
        | (refine wpAny_bind (wpAny_load ho ?_)
           rw [hc, hd]
           show wpAny M A (if (["enumerate", "zip", "dict_itemiterator", "dict_reverseitemiterator", "odict_iterator", "itertools.zip_longest", "itertools.pairwise"].contains n && vs[0]? == some (rawInt _)) = true then _ else _) Q E s
           rw [if_neg (by intro h; rw [hn, Bool.false_and] at h; cases h)]
           exact wpAny_pure hQ))
def Itl (K : PySem.W.Frag) (a : Addr) : It :=
  ⟨fun i H => ∃ xs x, SqL K H a xs ∧ xs[i]? = some x, fun i H x H' => H' = H ∧ ∀ xs, SqL K H a xs → xs[i]? = some x, fun i H => ∃ xs, SqL K H a xs ∧ xs.length ≤ i⟩
def Itr (lo : Int) (n : Nat) : It := ⟨fun i _ => i < n, fun i H x H' => H' = H ∧ x = .int (lo + i), fun i _ => n ≤ i⟩
theorem turn_list {P : Program} {w : World} {K : PySem.W.Frag} {tg : Expr} (a it : Addr) : Turn P w K tg (Itl K a) [it] it (fun i h => h.IsListIter it a i) where
  mem := by simp
  obj := fun i h st b hb => by
    have e : b = it := by simpa using hb
    subst e
    obtain ⟨o, e, c, d⟩ := st
    exact ⟨o, e, fun v z => by rw [d] at z; cases z⟩
  keep := fun i h h' st k => st.at fun o e => k it (by simp) o e
  item := by
    intro X hP hw hK hc i pins s σ H E I hf st hg
    subst hP hw hK
    obtain ⟨xs, x, hq, hx⟩ := hg
    obtain ⟨its, rv, p, hz⟩ := I.list hq
    obtain ⟨u, hu, ru⟩ := rv.get hx
    obtain ⟨f0, f1, f2, f3, f4, f5⟩ := hf it (by simp)
    refine wpAny_pyNext_list_item st p.isList (x := u) (by simpa using hu) fun h' st' sb => ?_
    have I1 : Inv X pins σ H { s with heap := h' } := I.turned (t' := s.toks) (fun b o hb e => (sb.2 b hb).trans e) f0 f1 f3 f4 f5
    obtain ⟨o, e, c, d⟩ := id st'
    exact ⟨u, rfl, go_of (s := { s with heap := h' }) e c d (by decide) ⟨x, H, I1, ru, ⟨rfl, fun ys hy => by rw [I.list_inj hy hq]; exact hx⟩, st', fun b hb => (hf b hb).1⟩⟩
  done := by
    intro X hP hw hK hc i pins s σ H E I hf st hg
    subst hP hw hK
    obtain ⟨xs, hq, hx⟩ := hg
    obtain ⟨its, rv, p, hz⟩ := I.list hq
    obtain ⟨f0, f1, f2, f3, f4, f5⟩ := hf it (by simp)
    have hl := rv.length
    exact wpAny_pyNext_list_end (I.ok.hd hc) st p.isList (by simp; omega) fun h' eb => ⟨rfl, I.turned (t' := s.toks) (fun b o hb e => eb b o hb e) f0 f1 f3 f4 f5⟩
  self := fun _ _ _ _ _ st h => wpAny_pyIter_listiter st h
theorem turn_range {P : Program} {w : World} {K : PySem.W.Frag} {tg : Expr} (it : Addr) (lo : Int) (n : Nat) : Turn P w K tg (Itr lo n) [it] it (fun i h => IsRangeIter h it (lo + (i : Nat) * 1) ((n : Int) - (i : Nat)) 1) where
  mem := by simp
  obj := fun i h st b hb => by
    have e : b = it := by simpa using hb
    subst e
    exact ⟨_, st, fun v z => by
      have z' : Data.fields _ = Data.cell v := z
      cases z'⟩
  keep := fun i h h' st k => k it (by simp) _ st
  item := by
    intro X hP hw hK hc i pins s σ H E I hf st hg
    subst hP hw hK
    obtain ⟨f0, f1, f2, f3, f4, f5⟩ := hf it (by simp)
    have W := Walks.range (prog := X.prog) (w := X.w) (I.ok.hd hc) it lo 1 n
    refine W.item i s _ _ hg st fun v h' tk hv st' kk => ?_
    obtain ⟨t, rfl⟩ := hv
    have I1 : Inv X pins σ H { s with heap := h', toks := tk } := I.turned (fun b o hb e => kk b o (by simpa using hb) e) f0 f1 f3 f4 f5
    refine ⟨_, rfl, go_of (s := { s with heap := h', toks := tk }) (n := "range_iterator") st' rfl rfl (by decide) ⟨.int (lo + i), H, I1, ⟨t, ?_⟩, ⟨rfl, rfl⟩, st', fun b hb => (hf b hb).1⟩⟩
    rw [Int.mul_one]
  done := by
    intro X hP hw hK hc i pins s σ H E I hf st hg
    subst hP hw hK
    obtain ⟨f0, f1, f2, f3, f4, f5⟩ := hf it (by simp)
    exact wpAny_pyNext_range_end (I.ok.hd hc) st (by have : n ≤ i := hg; omega) fun h' eb => ⟨rfl, I.turned (t' := s.toks) (fun b o hb e => eb b o hb e) f0 f1 f3 f4 f5⟩
  self := fun _ _ _ _ _ st h => wpAny_pyIter_rangeiter st h
end L2
namespace L2
open PySem PySem.Spec PyProof.Rows
section
variable {X : Cx} {tg : Expr}
def iList (K : PySem.W.Frag) (tl : TE) : TI := fun σ H R => tl σ H fun x H1 => ∃ a, x = .ref a ∧ (∃ xs, SqL K H1 a xs) ∧ R (Itl K a) H1
theorem pi_list {l : Expr} {tl : TE} (hl : PE X l tl) : PI X tg l (iList X.K tl) := by
  intro pins s σ H R I h
  refine thn (hl pins s σ H _ I h) fun v s1 ⟨x, H1, I1, r1, q1⟩ => ?_
  obtain ⟨a, e, ⟨xs, hq⟩, q⟩ := q1
  subst e
  cases r1
  obtain ⟨its, rv, p, hz⟩ := I1.list hq
  refine wpAny_pyIter_list p.isList ?_
  refine ⟨s1.heap.objs.size, [s1.heap.objs.size], _, _, H1, rfl, I1.kept (t' := s1.toks) fun b o e => Heap.get?_push_of_some _ e, turn_list a _, ⟨_, Heap.get?_push_size _ rfl, rfl, rfl⟩, fun b hb => ?_, q⟩
  have e : b = s1.heap.objs.size := by simpa using hb
  subst e
  exact I1.fpOk (Nat.le_refl _) (I1.hok.fresh (Nat.le_refl _))
theorem range_it {pins : List (Addr × Obj)} {σ : St} {H : Hp} {s : Shared} {R : It → Hp → Prop} {E : Value → Shared → Prop} {lo hi : Int} {t u v : Tok} {tk : Nat} (I : Inv X pins σ H s) (h1 : -(2 ^ 62) ≤ lo) (h2 : lo < 2 ^ 62) (h3 : -(2 ^ 62) ≤ hi) (h4 : hi < 2 ^ 62)
    (q : R (Itr lo (hi - lo).toNat) H) : wpAny (model X.prog X.w) X.A (pyIter (.ref s.heap.objs.size)) (PIE X pins σ tg R) E { s with heap := s.heap.push { cls := .type "range", data := .fields #[.int lo t, .int hi u, .int 1 v] }, toks := tk } := by
  refine wpAny_pyIter_range (IsRange.new ..) (small_one h1 h2 h3 h4) ?_
  have I1 : Inv X pins σ H { s with heap := s.heap.push { cls := .type "range", data := .fields #[.int lo t, .int hi u, .int 1 v] }, toks := tk } := I.kept fun b o e => Heap.get?_push_of_some _ e
  refine ⟨(s.heap.push { cls := .type "range", data := .fields #[.int lo t, .int hi u, .int 1 v] }).objs.size, [(s.heap.push { cls := .type "range", data := .fields #[.int lo t, .int hi u, .int 1 v] }).objs.size], _, _, H, rfl,
    I1.kept (t' := tk) fun b o e => Heap.get?_push_of_some _ e, turn_range _ lo (hi - lo).toNat, ?_, fun b hb => ?_, q⟩
  · have e1 : lo + ((0 : Nat) : Int) * 1 = lo := by simp
    have e2 : (((hi - lo).toNat : Nat) : Int) - ((0 : Nat) : Int) = Builtin.Range.rangeSize lo hi 1 := by rw [rangeSize_one]; split <;> omega
    show IsRangeIter _ _ (lo + ((0 : Nat) : Int) * 1) ((((hi - lo).toNat : Nat) : Int) - ((0 : Nat) : Int)) 1
    rw [e1, e2]
    exact Heap.get?_push_size _ rfl
  · have e : b = (s.heap.push { cls := .type "range", data := .fields #[.int lo t, .int hi u, .int 1 v] }).objs.size := by simpa using hb
    subst e
    exact I1.fpOk (Nat.le_refl _) (I1.hok.fresh (Nat.le_refl _))
def iRng1 (ta : TA) : TI := fun σ H R => ta σ H fun vs H1 => ∃ j : Int, vs = [.int j] ∧ -(2 ^ 62) ≤ j ∧ j < 2 ^ 62 ∧ R (Itr 0 j.toNat) H1
theorem pi_range1 {a : Expr} {ta : TA} {p pos : Pos} (hg : Gl X "range") (hm : X.mg "range" = none) (ha : PA X [a] ta) (hs : starEach [a] X.env = [(false, eval a X.env)] := by rfl) : PI X tg (.Call (.Name "range" p) [a] [] pos) (iRng1 ta) := by
  intro pins s σ H R I h
  refine Call_ (ld_blt I hg hm boot_range (PyProof.Rows.callWith_type1 (thn (ha pos pins s σ H _ I h) fun us s1 ⟨vs, H1, I1, r1, q1⟩ => ?_) hs rfl))
  obtain ⟨j, e, q1, q2, q⟩ := q1
  subst e
  cases r1 with
  | cons r rr =>
    cases rr
    obtain ⟨t, rfl⟩ := r
    exact call_range_1 (range_it I1 (by omega) (by omega) q1 q2 (by simpa using q))
def tFor (wi : TI) (g : TG) (tb : TS) : TS := fun D σ H => wi σ H fun J H1 => ∃ W : Nat → Nat → St → Hp → Prop, (∃ m, W 0 m σ H1) ∧ ∀ i m σ H, W i m σ H →
  (J.stop i H ∧ D.nx σ H) ∨ (J.go i H ∧ ∃ N : St → Hp → Prop, (∀ σ' H', N σ' H' → ∃ m', m' < m ∧ W (i + 1) m' σ' H') ∧ ∀ x H', J.yld i H x H' → g x σ H' fun σ2 H2 => tb { D with nx := N, ct := N, bk := D.nx } σ2 H2)
def pinsAt (fp : List Addr) (h : Heap) : List (Addr × Obj) := fp.filterMap fun b => (h.get? b).map fun o => (b, o)
theorem mem_pinsAt {fp : List Addr} {h : Heap} {b : Addr} {o : Obj} (hb : b ∈ fp) (e : h.get? b = some o) : (b, o) ∈ pinsAt fp h := List.mem_filterMap.mpr ⟨b, hb, by rw [e]; rfl⟩
theorem of_pinsAt {fp : List Addr} {h : Heap} {p : Addr × Obj} (hp : p ∈ pinsAt fp h) : p.1 ∈ fp ∧ h.get? p.1 = some p.2 := by
  obtain ⟨b, hb, e⟩ := List.mem_filterMap.mp hp
  cases q : h.get? b with
  | none => rw [q] at e; cases e
  | some o =>
    rw [q] at e
    have e' : (b, o) = p := Option.some.inj e
    subst e'
    exact ⟨hb, q⟩
theorem Inv.pinned {pins : List (Addr × Obj)} {σ : St} {H : Hp} {s : Shared} {fp : List Addr} (I : Inv X pins σ H s) (hf : ∀ b ∈ fp, FpOk X pins H b) (ho : ∀ b ∈ fp, ∃ o, s.heap.get? b = some o ∧ ∀ v, o.data ≠ .cell v) : Inv X (pins ++ pinsAt fp s.heap) σ H s :=
  I.pins_of fun p hp => (List.mem_append.mp hp).elim (fun z => I.pin p (List.mem_append_right _ z)) fun z => by
    obtain ⟨hb, e⟩ := of_pinsAt z
    obtain ⟨f0, f1, f2, _⟩ := hf p.1 hb
    obtain ⟨o, e', d⟩ := ho p.1 hb
    rw [e] at e'; cases e'
    exact ⟨e, f0, f1, f2, d⟩
theorem Inv.unpinned {pins pl : List (Addr × Obj)} {σ : St} {H : Hp} {s : Shared} (I : Inv X (pins ++ pl) σ H s) : Inv X pins σ H s := I.pins_of fun p hp => I.pin p (List.mem_append_right _ (List.mem_append_left _ hp))
theorem ps_for {iter : Expr} {body : List Stmt} {wi : TI} {g : TG} {tb : TS} {pos : Pos} (hp : PassesOwn (model X.prog X.w) X.A X.env X.xe) (hc : X.calm = true) (hi : PI X tg iter wi) (hg : PG X tg g) (hb : PSs X body tb)
    (hs : ∀ x, foldedSetIterable iter X.env x = pure x := by intro _; rfl) : PS X (.For tg iter body [] pos) (tFor wi g tb) := by
  intro pins s σ H D I h
  refine wpAny_For (thn (hi pins s σ H _ I h) fun v s1 h1 => thn h1 fun itv s2 h2 => ?_) hs
  obtain ⟨it, fp, tn, J, H2, e, I2, T, st2, f2, W, ⟨m0, w0⟩, turn⟩ := h2
  subst e
  have stat : ∀ {H' : Hp}, (∀ b ∈ fp, H' b = none) → ∀ b ∈ fp, FpOk X pins H' b := fun hn b hb => ⟨hn b hb, (f2 b hb).2⟩
  refine codeAny_forLoop_any (fun n s' => ∃ i σ' H', Inv X pins σ' H' s' ∧ tn i s'.heap ∧ (∀ b ∈ fp, H' b = none) ∧ W i n σ' H') ?_ m0 ⟨0, σ, H2, I2, st2, fun b hb => (f2 b hb).1, w0⟩
  rintro n s3 ⟨i, σ3, H3, I3, st3, fr3, w3⟩
  rcases turn i n σ3 H3 w3 with ⟨stop, qn⟩ | ⟨go, N, hN, step⟩
  · refine wpAny_passesOwn hp (thn (T.done X rfl rfl rfl hc i pins s3 σ3 H3 X.xe I3 (stat fr3) st3 stop) fun r s4 ⟨hr, I4⟩ => ?_)
    subst hr
    exact wpAny_execs_nil ⟨σ3, H3, I4, qn⟩
  · refine wpAny_passesOwn hp (thn (T.item X rfl rfl rfl hc i pins s3 σ3 H3 X.xe I3 (stat fr3) st3 go) fun r s4 ⟨u, hr, h4⟩ => ?_)
    subst hr
    refine wpAny_passesOwn hp (thn h4 fun _ s5 ⟨x, H5, I5, r5, y5, st5, fr5⟩ => ?_)
    have I5' := I5.pinned (stat fr5) (T.obj _ _ st5)
    refine wpAny_passesOwn hp (thn (hg _ s5 σ3 H5 x u _ I5' r5 (step x H5 y5)) fun _ s6 ⟨σ6, H6, I6, q6⟩ => ?_)
    refine wpAny_passesOwn hp (thn (hb _ s6 σ6 H6 _ I6 q6) fun f s7 q7 => ?_)
    have again : ∀ {σ7 : St} {H7 : Hp}, Inv X (pins ++ pinsAt fp s5.heap) σ7 H7 s7 → N σ7 H7 → ∃ m, m < n ∧ ∃ i σ' H', Inv X pins σ' H' s7 ∧ tn i s7.heap ∧ (∀ b ∈ fp, H' b = none) ∧ W i m σ' H' := fun {σ7 H7} I7 n7 => by
      obtain ⟨m', hm, w7⟩ := hN σ7 H7 n7
      refine ⟨m', hm, i + 1, σ7, H7, I7.unpinned, T.keep _ _ _ st5 fun b hb o e => (I7.pin (b, o) (List.mem_append_right _ (List.mem_append_right _ (mem_pinsAt hb e)))).1, fun b hb => ?_, w7⟩
      obtain ⟨o, e, d⟩ := T.obj _ _ st5 b hb
      exact (I7.pin (b, o) (List.mem_append_right _ (List.mem_append_right _ (mem_pinsAt hb e)))).2.1
    cases f with
    | next => obtain ⟨σ7, H7, I7, n7⟩ := q7; exact again I7 n7
    | cont => obtain ⟨σ7, H7, I7, n7⟩ := q7; exact again I7 n7
    | brk => obtain ⟨σ7, H7, I7, q7⟩ := q7; exact ⟨σ7, H7, I7.unpinned, q7⟩
    | ret v => obtain ⟨x7, σ7, H7, I7, r7, q7⟩ := q7; exact ⟨x7, σ7, H7, I7.unpinned, r7, q7⟩
end
end L2
namespace L2
open PySem PySem.Spec PyProof.Rows
abbrev R2 := V → V → Hp → VK → Prop
def OpR (X : Cx) (f : Value → Value → Sem Value) (r : R2) : Prop :=
  ∀ (pins : List (Addr × Obj)) (s : Shared) (σ : St) (H : Hp) (x y : V) (v u : Value) (Q : VK), Inv X pins σ H s → RelV x v → RelV y u → r x y H Q →
    wpAny (model X.prog X.w) X.A (f v u) (EP X pins σ Q) X.xe s
def UnR (X : Cx) (f : Value → Sem Value) (r : V → Hp → VK → Prop) : Prop :=
  ∀ (pins : List (Addr × Obj)) (s : Shared) (σ : St) (H : Hp) (x : V) (v : Value) (Q : VK), Inv X pins σ H s → RelV x v → r x H Q →
    wpAny (model X.prog X.w) X.A (f v) (EP X pins σ Q) X.xe s
def CallR (X : Cx) (f : Value) (r : List V → Hp → VK → Prop) : Prop :=
  ∀ (pins : List (Addr × Obj)) (s : Shared) (σ : St) (H : Hp) (xs : List V) (us : List Value) (Q : VK), Inv X pins σ H s → Vals xs us → r xs H Q →
    wpAny (model X.prog X.w) X.A (call f us) (EP X pins σ Q) X.xe s
def tOp (r : R2) (ta tb : TE) : TE := fun σ H Q => ta σ H fun x H1 => tb σ H1 fun y H2 => r x y H2 Q
def tUn (r : V → Hp → VK → Prop) (ta : TE) : TE := fun σ H Q => ta σ H fun x H1 => r x H1 Q
def rI (C : Int → Int → Prop) (g : Int → Int → V) : R2 := fun x y H Q => ∃ i j, x = .int i ∧ y = .int j ∧ C i j ∧ Q (g i j) H
def rI0 (g : Int → Int → V) : R2 := fun x y H Q => ∃ i j, x = .int i ∧ y = .int j ∧ Q (g i j) H
def rU (g : Int → V) : V → Hp → VK → Prop := fun x H Q => ∃ i, x = .int i ∧ Q (g i) H
section
variable {X : Cx} {a b c : Expr} {ta tb tc : TE} {pos : Pos}
theorem binT (ha : PE X a ta) (hb : PE X b tb) {pins : List (Addr × Obj)} {s : Shared} {σ : St} {H : Hp} {R : V → V → Hp → Prop} (I : Inv X pins σ H s)
    (h : ta σ H fun x H1 => tb σ H1 fun y H2 => R x y H2) {Q : Value → Shared → Prop} {f : Value → Value → Sem Value}
    (hf : ∀ v u s2 x y H2, Inv X pins σ H2 s2 → RelV x v → RelV y u → R x y H2 → wpAny (model X.prog X.w) X.A (f v u) Q X.xe s2) :
    wpAny (model X.prog X.w) X.A (eval a X.env) (fun v s₁ => wpAny (model X.prog X.w) X.A (eval b X.env) (fun u s₂ => wpAny (model X.prog X.w) X.A (f v u) Q X.xe s₂) X.xe s₁) X.xe s := by
  refine thn (ha pins s σ H _ I h) fun v s1 ⟨x, H1, I1, r1, q1⟩ => ?_
  refine thn (hb pins s1 σ H1 _ I1 q1) fun u s2 ⟨y, H2, I2, r2, q2⟩ => ?_
  exact hf v u s2 x y H2 I2 r1 r2 q2
theorem pe_op {op : Operator} {r : R2} (ho : OpR X (binaryOp op) r) (ha : PE X a ta) (hb : PE X b tb) : PE X (.BinOp a op b pos) (tOp r ta tb) := by
  intro pins s σ H Q I h
  exact wpAny_BinOp (binT ha hb I h fun v u s2 x y H2 I2 rx ry q => ho pins s2 σ H2 x y v u Q I2 rx ry q)
theorem pe_un {op : UnaryOp} {r : V → Hp → VK → Prop} (ho : UnR X (unaryOp op) r) (ha : PE X a ta) : PE X (.UnaryOp op a pos) (tUn r ta) := by
  intro pins s σ H Q I h
  exact UnaryOp_ (thn (ha pins s σ H _ I h) fun v s1 ⟨x, H1, I1, r1, q1⟩ => ho pins s1 σ H1 x v Q I1 r1 q1)
theorem opI {f : Value → Value → Sem Value} {C : Int → Int → Prop} {g : Int → Int → Int}
    (rule : ∀ (i j : Int) (t u : Tok) (s : Shared) (Q : Value → Shared → Prop) (E : Value → Shared → Prop), C i j → Q (.int (g i j) s.toks) { s with toks := s.toks + 1 } → wpAny (model X.prog X.w) X.A (f (.int i t) (.int j u)) Q E s) :
    OpR X f (rI C fun i j => .int (g i j)) := by
  intro pins s σ H x y v u Q I rx ry h
  obtain ⟨i, j, rfl, rfl, hc, q⟩ := h
  obtain ⟨t, rfl⟩ := rx
  obtain ⟨t', rfl⟩ := ry
  exact rule i j t t' s _ _ hc ⟨.int (g i j), H, I.tok _, ⟨_, rfl⟩, q⟩
theorem opI0 {f : Value → Value → Sem Value} {g : Int → Int → Int}
    (rule : ∀ (i j : Int) (t u : Tok) (s : Shared) (Q : Value → Shared → Prop) (E : Value → Shared → Prop), Q (.int (g i j) s.toks) { s with toks := s.toks + 1 } → wpAny (model X.prog X.w) X.A (f (.int i t) (.int j u)) Q E s) :
    OpR X f (rI0 fun i j => .int (g i j)) := by
  intro pins s σ H x y v u Q I rx ry h
  obtain ⟨i, j, rfl, rfl, q⟩ := h
  obtain ⟨t, rfl⟩ := rx
  obtain ⟨t', rfl⟩ := ry
  exact rule i j t t' s _ _ ⟨.int (g i j), H, I.tok _, ⟨_, rfl⟩, q⟩
theorem opB0 {f : Value → Value → Sem Value} {g : Int → Int → Bool}
    (rule : ∀ (i j : Int) (t u : Tok) (s : Shared) (Q : Value → Shared → Prop) (E : Value → Shared → Prop), Q (.bool (g i j)) s → wpAny (model X.prog X.w) X.A (f (.int i t) (.int j u)) Q E s) :
    OpR X f (rI0 fun i j => .bl (g i j)) := by
  intro pins s σ H x y v u Q I rx ry h
  obtain ⟨i, j, rfl, rfl, q⟩ := h
  obtain ⟨t, rfl⟩ := rx
  obtain ⟨t', rfl⟩ := ry
  exact rule i j t t' s _ _ ⟨.bl (g i j), H, I, rfl, q⟩
def CPow (i j : Int) : Prop := 0 ≤ j ∧ j ≤ 1000000 ∧ i.natAbs < 2 ^ 64
def CMul (i j : Int) : Prop := (-(2 ^ 64) < i ∧ i < 2 ^ 64) ∨ (-(2 ^ 64) < j ∧ j < 2 ^ 64)
theorem CMul.ok {i j : Int} (h : CMul i j) : IntMulOk i j := by
  rcases h with ⟨h1, h2⟩ | ⟨h1, h2⟩
  · exact .of_left (intBits_le_64 h1 h2)
  · exact .of_right (intBits_le_64 h1 h2)
theorem op_add : OpR X (binaryOp .Add) (rI0 fun i j => .int (i + j)) := opI0 fun _ _ _ _ _ _ _ q => add_int q
theorem op_sub : OpR X (binaryOp .Sub) (rI0 fun i j => .int (i - j)) := opI0 fun _ _ _ _ _ _ _ q => sub_int q
theorem op_mul : OpR X (binaryOp .Mult) (rI CMul fun i j => .int (i * j)) := opI fun _ _ _ _ _ _ _ hc q => mul_int q hc.ok
theorem op_mod : OpR X (binaryOp .Mod) (rI (fun _ j => 0 < j) fun i j => .int (i % j)) := opI fun i j _ _ _ _ _ hc q => by
  have h1 : (0 : Int) < j := hc
  exact mod_int' (by omega) (by rw [Int.fmod_eq_emod_of_nonneg i (by omega)]; exact q)
theorem op_pow : OpR X (binaryOp .Pow) (rI CPow fun i j => .int (i ^ j.toNat)) := opI fun _ _ _ _ _ _ _ hc q => pow_int_small hc.1 hc.2.1 hc.2.2 q
theorem unI {f : Value → Sem Value} {g : Int → Int}
    (rule : ∀ (i : Int) (t : Tok) (s : Shared) (Q : Value → Shared → Prop) (E : Value → Shared → Prop), Q (.int (g i) s.toks) { s with toks := s.toks + 1 } → wpAny (model X.prog X.w) X.A (f (.int i t)) Q E s) :
    UnR X f (rU fun i => .int (g i)) := by
  intro pins s σ H x v Q I rx h
  obtain ⟨i, rfl, q⟩ := h
  obtain ⟨t, rfl⟩ := rx
  exact rule i t s _ _ ⟨.int (g i), H, I.tok _, ⟨_, rfl⟩, q⟩
theorem un_neg : UnR X (unaryOp .USub) (rU fun i => .int (-i)) := unI fun _ _ _ _ _ q => neg_int q
end
def scal : V → V → Bool
  | .non, .non => true | .non, .int _ => true | .int _, .non => true | .non, .bl _ => true | .bl _, .non => true | .non, .str _ => true | .str _, .non => true
  | .int _, .int _ => true | .bl _, .bl _ => true | .str _, .str _ => true | .byt _, .byt _ => true
  | .int _, .str _ => true | .str _, .int _ => true | .bl _, .str _ => true | .str _, .bl _ => true
  | _, _ => false
def rEq : R2 := fun x y H Q => scal x y = true ∧ Q (.bl (decide (x = y))) H
def rNe : R2 := fun x y H Q => scal x y = true ∧ Q (.bl (!decide (x = y))) H
theorem dec_int {i j : Int} : decide (V.int i = V.int j) = (i == j) := by
  rw [Bool.eq_iff_iff]
  simp
theorem dec_bl {i j : Bool} : decide (V.bl i = V.bl j) = (i == j) := by
  rw [Bool.eq_iff_iff]
  simp
theorem dec_str {i j : Str} : decide (V.str i = V.str j) = (i == j) := by
  rw [Bool.eq_iff_iff]
  simp
theorem dec_byt {i j : Array UInt8} : decide (V.byt i = V.byt j) = (i.toList == j.toList) := by
  rw [Bool.eq_iff_iff]
  cases i
  cases j
  simp
section
variable {X : Cx} {a b c : Expr} {ta tb tc : TE} {pos : Pos}
theorem fin_bl {pins : List (Addr × Obj)} {σ : St} {H : Hp} {s : Shared} {Q : VK} {k k' : Bool} (I : Inv X pins σ H s) (q : Q (.bl k) H) (e : k = k') : EP X pins σ Q (.bool k') s := by
  subst e
  exact ⟨.bl k, H, I, rfl, q⟩
theorem op_eq : OpR X (compareOp .Eq) rEq := by
  intro pins s σ H x y v u Q I rx ry h
  obtain ⟨hs, q⟩ := h
  cases x with
  | non =>
    cases rx
    cases y with
    | non => cases ry; exact PySem.EqNone.eq_none_none (fin_bl I q (by simp))
    | bl j => cases ry; exact PySem.EqNone.eq_none_bool (fin_bl I q (by simp))
    | int j => obtain ⟨t', rfl⟩ := ry; exact PySem.EqNone.eq_none_int (fin_bl I q (by simp))
    | str j => obtain ⟨t', rfl⟩ := ry; exact PySem.EqNone.eq_none_str (fin_bl I q (by simp))
    | _ => exact absurd (show false = true from hs) Bool.false_ne_true
  | bl i =>
    cases rx
    cases y with
    | non => cases ry; exact PySem.EqNone.eq_bool_none (fin_bl I q (by simp))
    | bl j => cases ry; exact eq_bool (fin_bl I q dec_bl)
    | str j => obtain ⟨t', rfl⟩ := ry; exact PySem.EqMixed.eq_bool_str (fin_bl I q (by simp))
    | _ => exact absurd (show false = true from hs) Bool.false_ne_true
  | int i =>
    obtain ⟨t, rfl⟩ := rx
    cases y with
    | non => cases ry; exact PySem.EqNone.eq_int_none (fin_bl I q (by simp))
    | int j => obtain ⟨t', rfl⟩ := ry; exact eq_int (fin_bl I q dec_int)
    | str j => obtain ⟨t', rfl⟩ := ry; exact PySem.EqMixed.eq_int_str (fin_bl I q (by simp))
    | _ => exact absurd (show false = true from hs) Bool.false_ne_true
  | str i =>
    obtain ⟨t, rfl⟩ := rx
    cases y with
    | non => cases ry; exact PySem.EqNone.eq_str_none (fin_bl I q (by simp))
    | bl j => cases ry; exact PySem.EqMixed.eq_str_bool (fin_bl I q (by simp))
    | int j => obtain ⟨t', rfl⟩ := ry; exact PySem.EqMixed.eq_str_int (fin_bl I q (by simp))
    | str j => obtain ⟨t', rfl⟩ := ry; exact eq_str (fin_bl I q dec_str)
    | _ => exact absurd (show false = true from hs) Bool.false_ne_true
  | byt i =>
    obtain ⟨t, rfl⟩ := rx
    cases y with
    | byt j => obtain ⟨t', rfl⟩ := ry; exact PySem.W.eq_bytes (fin_bl I q dec_byt)
    | _ => exact absurd (show false = true from hs) Bool.false_ne_true
  | _ => cases y <;> exact absurd (show false = true from hs) Bool.false_ne_true
theorem op_ne : OpR X (compareOp .NotEq) rNe := by
  intro pins s σ H x y v u Q I rx ry h
  obtain ⟨hs, q⟩ := h
  cases x with
  | non =>
    cases rx
    cases y with
    | non => cases ry; exact PySem.EqNone.ne_none_none (fin_bl I q (by simp))
    | bl j => cases ry; exact PySem.EqNone.ne_none_bool (fin_bl I q (by simp))
    | int j => obtain ⟨t', rfl⟩ := ry; exact PySem.EqNone.ne_none_int (fin_bl I q (by simp))
    | str j => obtain ⟨t', rfl⟩ := ry; exact PySem.EqNone.ne_none_str (fin_bl I q (by simp))
    | _ => exact absurd (show false = true from hs) Bool.false_ne_true
  | bl i =>
    cases rx
    cases y with
    | non => cases ry; exact PySem.EqNone.ne_bool_none (fin_bl I q (by simp))
    | bl j => cases ry; exact ne_bool (fin_bl I q (congrArg not dec_bl))
    | str j => obtain ⟨t', rfl⟩ := ry; exact PySem.EqMixed.ne_bool_str (fin_bl I q (by simp))
    | _ => exact absurd (show false = true from hs) Bool.false_ne_true
  | int i =>
    obtain ⟨t, rfl⟩ := rx
    cases y with
    | non => cases ry; exact PySem.EqNone.ne_int_none (fin_bl I q (by simp))
    | int j => obtain ⟨t', rfl⟩ := ry; exact ne_int (fin_bl I q (congrArg not dec_int))
    | str j => obtain ⟨t', rfl⟩ := ry; exact PySem.EqMixed.ne_int_str (fin_bl I q (by simp))
    | _ => exact absurd (show false = true from hs) Bool.false_ne_true
  | str i =>
    obtain ⟨t, rfl⟩ := rx
    cases y with
    | non => cases ry; exact PySem.EqNone.ne_str_none (fin_bl I q (by simp))
    | bl j => cases ry; exact PySem.EqMixed.ne_str_bool (fin_bl I q (by simp))
    | int j => obtain ⟨t', rfl⟩ := ry; exact PySem.EqMixed.ne_str_int (fin_bl I q (by simp))
    | str j => obtain ⟨t', rfl⟩ := ry; exact ne_str (fin_bl I q (congrArg not dec_str))
    | _ => exact absurd (show false = true from hs) Bool.false_ne_true
  | byt i =>
    obtain ⟨t, rfl⟩ := rx
    cases y with
    | byt j => obtain ⟨t', rfl⟩ := ry; exact PySem.W.ne_bytes (fin_bl I q (congrArg not dec_byt))
    | _ => exact absurd (show false = true from hs) Bool.false_ne_true
  | _ => cases y <;> exact absurd (show false = true from hs) Bool.false_ne_true
theorem op_lt : OpR X (compareOp .Lt) (rI0 fun i j => .bl (decide (i < j))) := opB0 fun _ _ _ _ _ _ _ q => lt_int q
theorem op_gt : OpR X (compareOp .Gt) (rI0 fun i j => .bl (decide (j < i))) := opB0 fun _ _ _ _ _ _ _ q => gt_int q
theorem op_ge : OpR X (compareOp .GtE) (rI0 fun i j => .bl (decide (j ≤ i))) := opB0 fun _ _ _ _ _ _ _ q => ge_int q
theorem nomark (b : Expr) {op : CmpOp} (h : op ≠ .In := by decide) (h2 : op ≠ .NotIn := by decide) : behindInMarks op b = false := by
  have e1 : (op == CmpOp.In) = false := by cases op <;> first | rfl | exact absurd rfl h
  have e2 : (op == CmpOp.NotIn) = false := by cases op <;> first | rfl | exact absurd rfl h2
  cases b <;> simp [behindInMarks, e1, e2]
theorem pe_cmpR {op : CmpOp} {r : R2} (ho : OpR X (compareOp op) r) (ha : PE X a ta) (hb : PE X b tb) (hm : behindInMarks op b = false) : PE X (.Compare a [op] [b] pos) (tOp r ta tb) := by
  intro pins s σ H Q I h
  exact wpAny_Compare1 (binT ha hb I h fun v u s2 x y H2 I2 rx ry q => ho pins s2 σ H2 x y v u Q I2 rx ry q) hm
def tTest (t : TE) : TT := fun σ H Q => t σ H fun x H' => ∃ k, x = .bl k ∧ Q k H'
theorem pt_cmpR {op : CmpOp} {r : R2} (ho : OpR X (compareOp op) r) (ha : PE X a ta) (hb : PE X b tb) (hm : behindInMarks op b = false) : PT X (.Compare a [op] [b] pos) (tTest (tOp r ta tb)) := by
  intro pins s σ H Q I h
  refine wpAny_isTrue_Compare1 (thn (ha pins s σ H _ I h) fun v s1 ⟨x, H1, I1, r1, q1⟩ => thn (hb pins s1 σ H1 _ I1 q1) fun u s2 ⟨y, H2, I2, r2, q2⟩ =>
    thn (ho pins s2 σ H2 x y v u _ I2 r1 r2 q2) fun c s3 ⟨z, H3, I3, r3, k, e, q3⟩ => ?_) hm
  subst e
  cases r3
  exact wpAny_truthy_bool ⟨H3, I3, q3⟩
theorem line63 : (sizeLine : Nat) < 2 ^ 63 := by rw [sizeLine_eq]; decide
theorem vals1 {x : V} {us : List Value} (r : Vals [x] us) : ∃ u, us = [u] ∧ RelV x u := by
  cases r with
  | cons r1 r2 => cases r2; exact ⟨_, rfl, r1⟩
theorem call_abs : CallR X (.builtin "abs") (fun xs H Q => ∃ i, xs = [.int i] ∧ Q (.int (if i < 0 then -i else i)) H) := by
  intro pins s σ H xs us Q I r h
  obtain ⟨i, rfl, q⟩ := h
  obtain ⟨u, rfl, t, rfl⟩ := vals1 r
  exact call_abs_int fun u tk => ⟨.int (if i < 0 then -i else i), H, I.tok _, ⟨_, rfl⟩, q⟩
theorem call_int1 : CallR X (.type "int") (fun xs H Q => (∃ i, xs = [.int i] ∧ Q (.int i) H) ∨ ∃ k, xs = [.bl k] ∧ Q (.int (if k then 1 else 0)) H) := by
  intro pins s σ H xs us Q I r h
  rcases h with ⟨i, rfl, q⟩ | ⟨k, rfl, q⟩
  · obtain ⟨u, rfl, t, rfl⟩ := vals1 r
    exact call_int_int ⟨.int i, H, I, ⟨_, rfl⟩, q⟩
  · obtain ⟨u, rfl, r1⟩ := vals1 r
    cases r1
    exact call_int_bool ⟨.int (if k then 1 else 0), H, I.tok _, ⟨_, rfl⟩, q⟩
end
end L2
namespace L2
open PySem PySem.Spec PyProof.Rows
structure ObjM (h : Heap) (x dx C : Addr) (mA : Str → Option Value) : Prop where
  obj : h.get? x = some (PySem.W.instObj C dx)
  ns : h.Ns1 dx mA
  ne : dx ≠ x
theorem lookIn_ns {h : Heap} {dx : Addr} {mA : Str → Option Value} (n : h.Ns1 dx mA) : ∃ od, h.get? dx = some od ∧ ∀ name, PySem.W.lookIn name od = some (mA name) := by
  obtain ⟨o, es, ep, ho, hd, hk, _, hm⟩ := n
  refine ⟨o, ho, fun name => ?_⟩
  have e := hm name
  unfold nsFind findBy at e
  rw [← Array.find?_toList] at e
  unfold PySem.W.lookIn
  rw [hd]
  dsimp only
  split
  · rename_i y q
    rw [q] at e
    exact congrArg some e
  · rename_i q
    rw [q] at e
    have a : es.toList.any (·.refKey) = false := by
      rw [List.any_eq_false]
      intro y hy
      obtain ⟨z, t, hkey⟩ := hk y (Array.mem_toList_iff.mp hy)
      simp [DictEntry.refKey, hkey]
    have a' : ¬ es.toList.any (·.refKey) = true := by rw [a]; exact Bool.false_ne_true
    rw [if_neg a']
    exact congrArg some e
theorem ObjM.look {h : Heap} {x dx C : Addr} {mA : Str → Option Value} (I : ObjM h x dx C mA) : ∃ od, PySem.W.InstAt h x (PySem.W.instObj C dx) C (some od) ∧ ∀ name, PySem.W.lookIn name od = some (mA name) :=
  let ⟨od, ho, hl⟩ := lookIn_ns I.ns
  ⟨od, ⟨I.obj, rfl, rfl, ho⟩, hl⟩
section
variable {P : Program} {w : World} {H H' : Hp} {h h' : Heap} {a C dx : Addr} {fs fs' : List (Str × V)}
theorem ins_get (hok : HOk P w H h) (e : H a = some (.ins C dx fs)) : ∃ mA, ObjM h a dx C mA ∧ (∀ f, RelO (fs.lookup f) (mA f)) ∧ PySem.Within mA (fs.map (·.1)) ∧ fs.length ≤ 1000 ∧ H dx = some (.own a) := by
  obtain ⟨d, z, ne, ob, mA, n, r, q⟩ := (show ObjOk P w H h a (.ins C dx fs) from hok a _ e)
  exact ⟨mA, ⟨ob, n, ne⟩, r, q, z, d⟩
end
structure Cls (K : PySem.W.Frag) (C : Addr) : Prop where
  pg : PySem.W.plainGet K C Str.empty = true
  hd : PySem.W.hasDictIn K C = true
  po : PySem.W.plainOver K C = true
  sa : PySem.W.findIn K (.ref C) "__setattr__" = some (some (.builtin "object.__setattr__"))
theorem Cls.get {K : PySem.W.Frag} {C : Addr} (c : Cls K C) (f : Str) : PySem.W.plainGet K C f = true := c.pg
section
variable {X : Cx} {pins : List (Addr × Obj)} {σ : St} {H : Hp} {s : Shared} {A : Around} {E : Value → Shared → Prop} {Q : Value → Shared → Prop} {c : Value} {b : Bool}
inductive TyOf (K : PySem.W.Frag) (H : Hp) : V → Value → Prop where
  | non : TyOf K H .non (.type "NoneType")
  | bl (x : Bool) : TyOf K H (.bl x) (.type "bool")
  | int (i : Int) : TyOf K H (.int i) (.type "int")
  | str (x : Str) : TyOf K H (.str x) (.type "str")
  | flt (x : UInt64) : TyOf K H (.flt x) (.type "float")
  | lst {a : Addr} {xs : List V} (e : H a = some (.lst xs)) : TyOf K H (.ref a) (.type "list")
  | frz {a : Addr} {o : Obj} {xs : List V} (e : H a = some (.frz o (.lst xs))) : TyOf K H (.ref a) (.type "list")
  | tup {a : Addr} {xs : List V} (e : H a = some (.tup xs)) : TyOf K H (.ref a) (.type "tuple")
  | dK {a : Addr} {kvs : List (Key × V)} (e : H a = some (.dK kvs)) : TyOf K H (.ref a) (.type "dict")
  | dT {a : Addr} {kvs : List (List Key × V)} (e : H a = some (.dT kvs)) : TyOf K H (.ref a) (.type "dict")
  | ins {a C dx : Addr} {fs : List (Str × V)} (e : H a = some (.ins C dx fs)) (cl : Cls K C) (ha : PySem.W.findIn K (.ref C) "__class__" = some (some (.builtin "object.__class__")))
      (hn : PySem.W.specialIn K (.builtin "object.__class__") "__get__" = some (some (.builtin "getset_descriptor.__get__"))) (htk : PySem.W.takesIn K (.builtin "object.__class__") = some true)
      (hm : PySem.W.mroIn K C (.type "object") = some true) : TyOf K H (.ref a) (.ref C)
theorem isinst_ok {x : V} {u t : Value} (I : Inv X pins σ H s) (rx : RelV x u) (ty : TyOf X.K H x t) (e : PySem.W.kitOne X.K t c = some b) (h : ∀ tk, Q (.bool b) { s with toks := tk }) :
    wpAny (model X.prog X.w) A (call (.builtin "isinstance") [u, c]) Q E s := by
  cases ty with
  | non => cases (show u = Value.none from rx); exact PySem.W.kia_one PySem.W.kitx_none I.kIn True.intro e (fun z => nomatch z) h
  | bl y => cases (show u = Value.bool y from rx); exact PySem.W.kia_one PySem.W.kitx_bool I.kIn True.intro e (fun z => nomatch z) h
  | int i => obtain ⟨t, q⟩ := (show ∃ t, u = Value.int i t from rx); cases q; exact PySem.W.kia_one PySem.W.kitx_int I.kIn True.intro e (fun z => nomatch z) h
  | str y => obtain ⟨t, q⟩ := (show ∃ t, u = Value.str y t from rx); cases q; exact PySem.W.kia_one PySem.W.kitx_str I.kIn True.intro e (fun z => nomatch z) h
  | flt y => obtain ⟨t, q⟩ := (show ∃ t, u = Value.float y t from rx); cases q; exact PySem.W.kia_one PySem.W.kitx_float I.kIn True.intro e (fun z => nomatch z) h
  | @lst a xs ea =>
    cases (show u = Value.ref a from rx)
    obtain ⟨_, _, n, _, h1⟩ := (show ObjOk X.prog X.w H s.heap a (.lst xs) from I.hok a _ ea)
    exact PySem.W.kia_one PySem.W.kitx_list I.kIn ⟨_, h1, rfl⟩ e (fun z => nomatch z) h
  | @frz a ob xs ea =>
    cases (show u = Value.ref a from rx)
    obtain ⟨_, _, _, n, _, h1⟩ := (show ObjOk X.prog X.w H s.heap a (.frz ob (.lst xs)) from I.hok a _ ea)
    exact PySem.W.kia_one PySem.W.kitx_list I.kIn ⟨_, h1, rfl⟩ e (fun z => nomatch z) h
  | @tup a xs ea =>
    cases (show u = Value.ref a from rx)
    obtain ⟨_, _, _, p⟩ := (show ObjOk X.prog X.w H s.heap a (.tup xs) from I.hok a _ ea)
    obtain ⟨o, h1, h2, _⟩ := p
    exact PySem.W.kia_one PySem.W.kitx_tuple I.kIn ⟨o, h1, h2⟩ e (fun z => nomatch z) h
  | @dK a kvs ea =>
    cases (show u = Value.ref a from rx)
    obtain ⟨_, _, vs, _, p⟩ := (show ObjOk X.prog X.w H s.heap a (.dK kvs) from I.hok a _ ea)
    obtain ⟨o, es, ep, h1, h2, _⟩ := p
    exact PySem.W.kia_one PySem.W.kitx_dict I.kIn ⟨o, h1, h2.1⟩ e (fun z => nomatch z) h
  | @dT a kvs ea =>
    cases (show u = Value.ref a from rx)
    obtain ⟨_, _, xs, _, o, es, ep, h1, h2, _⟩ := (show ObjOk X.prog X.w H s.heap a (.dT kvs) from I.hok a _ ea)
    exact PySem.W.kia_one PySem.W.kitx_dict I.kIn ⟨o, h1, h2.1⟩ e (fun z => nomatch z) h
  | @ins a C dx fs ea cl ha hn htk hm =>
    cases (show u = Value.ref a from rx)
    obtain ⟨mA, O, _⟩ := ins_get I.hok ea
    obtain ⟨od, J, _⟩ := O.look
    exact PySem.W.kia_one (PySem.W.kitx_own (cl.get _) cl.hd ha hn htk hm) I.kIn J e (fun z => nomatch z) h
end
end L2
namespace L2
open PySem PySem.Spec PyProof.Rows
structure Room (k : Nat) (A : Around) : Prop where
  hd : A.handled = none
  dp : A.depth + 3 * k + 5 < recursionLimit
  un : A.units + 16 * k + 200 < cLine
theorem Room.mono {j k : Nat} {A : Around} (r : Room k A) (h : j ≤ k) : Room j A := ⟨r.hd, by have := r.dp; omega, by have := r.un; omega⟩
theorem Room.deeper {k : Nat} {A : Around} (r : Room (k + 1) A) (env : Env) : Room k (A.deeper env) :=
  ⟨r.hd, by have := r.dp; show A.depth + 1 + 3 * k + 5 < _; omega, by have := r.un; show A.units + 3 + 16 * k + 200 < _; omega⟩
theorem Room.depth {k : Nat} {A : Around} (r : Room k A) : A.depth < recursionLimit := by have := r.dp; omega
theorem Room.units {k : Nat} {A : Around} (r : Room k A) : A.units + 64 < cLine := by have := r.un; omega
def tNil : TA := fun _ H Q => Q [] H
def tCons (ta : TE) (tr : TA) : TA := fun σ H Q => ta σ H fun x H1 => tr σ H1 fun xs H2 => Q (x :: xs) H2
section
variable {X : Cx} {e : Expr} {es : List Expr} {te : TE} {t : TA} {pos : Pos}
theorem pa_nil : PA X [] tNil := fun _ _ _ _ H Q I h => Calls.spliced_nil ⟨[], H, I, .nil, h⟩
theorem pa_cons (ha : PE X e te) (hr : PA X es t) (hs : starEach (e :: es) X.env = (false, eval e X.env) :: starEach es X.env := by rfl) : PA X (e :: es) (tCons te t) := by
  intro pos pins s σ H Q I h
  rw [hs]
  show wpAny _ _ (spliced ((false, eval e X.env) :: backTo pos (starEach es X.env))) _ _ s
  refine Calls.spliced_cons (thn (ha pins s σ H _ I h) fun u s1 ⟨x, H1, I1, r1, q1⟩ => ?_)
  exact thn (hr pos pins s1 σ H1 _ I1 q1) fun us s2 ⟨xs, H2, I2, r2, q2⟩ => ⟨x :: xs, H2, I2, .cons r1 r2, q2⟩
def tTup (t : TA) : TE := fun σ H Q => t σ H fun xs H1 => xs.length ≤ sizeLine ∧ ∀ p, H1 p = none → Q (.ref p) (upd H1 p (.tup xs))
def tLst (t : TA) : TE := fun σ H Q => t σ H fun xs H1 => xs.length ≤ sizeLine ∧ ∀ p, H1 p = none → Q (.ref p) (upd H1 p (.lst xs))
theorem pe_tup {x1} (h : PA X es t) : PE X (.Tuple es x1 pos) (tTup t) := by
  intro pins s σ H Q I hq
  refine wpAny_Tuple_spliced (thn (h pos pins s σ H _ I hq) fun us s1 ⟨xs, H1, I1, r, z, q⟩ => ⟨by rw [← r.length]; exact z, ?_⟩)
  have hf : H1 s1.heap.objs.size = none := I1.hok.fresh (Nat.le_refl _)
  refine ⟨.ref s1.heap.objs.size, upd H1 s1.heap.objs.size (.tup xs), I1.laid (t' := s1.toks) (fun b u e => Heap.get?_push_of_some _ e) (Nat.le_refl _) ?_, rfl, q _ hf⟩
  exact ⟨z, us, r, ⟨_, Heap.get?_push_size _ rfl, rfl, _, rfl⟩⟩
theorem pe_lst (h : PA X es t) : PE X (.List es pos) (tLst t) := by
  intro pins s σ H Q I hq
  refine wpAny_List_spliced (thn (h pos pins s σ H _ I hq) fun us s1 ⟨xs, H1, I1, r, z, q⟩ => ⟨by rw [← r.length]; exact z, ?_⟩)
  have hf : H1 s1.heap.objs.size = none := I1.hok.fresh (Nat.le_refl _)
  refine ⟨.ref s1.heap.objs.size, upd H1 s1.heap.objs.size (.lst xs), I1.laid (t' := s1.toks) (fun b u e => Heap.get?_push_of_some _ e) (Nat.le_refl _) ?_, rfl, q _ hf⟩
  exact ⟨z, us, 0, r, Heap.get?_push_size _ rfl⟩
end
abbrev Sp := List V → Hp → VK → XK → Prop
abbrev CXT := List Env → Hp → Shared → XK → Value → Shared → Prop
structure Env0 (P : Program) (w : World) (K : PySem.W.Frag) (mg : Str → Option Value) (base : Heap) (A : Around) (outer : List Env) (s : Shared) (H : Hp) : Prop where
  frames : A.frames = some outer
  mod : Mod K mg base
  bs : ∀ b o, base.get? b = some o → s.heap.get? b = some o ∧ H b = none
  bsz : base.objs.size ≤ s.heap.objs.size
  funs : s.heap.FunFrames base outer
  frf : ∀ b ∈ frs outer, H b = none
  hok : HOk P w H s.heap
  bare : AllBare s.gens
def CE (outer : List Env) (P : Program) (w : World) (H : Hp) (s : Shared) (Q : VK) (u : Value) (s' : Shared) : Prop :=
  ∃ v H', s'.os = s.os ∧ AllBare s'.gens ∧ Un (frs outer) [] H H' s.heap s'.heap ∧ HOk P w H' s'.heap ∧ RelV v u ∧ Q v H'
def CR (CX : CXT) (outer : List Env) (P : Program) (w : World) (H : Hp) (s : Shared) (Q : VK) (E : XK) (r : Result) (s' : Shared) : Prop :=
  match r with
  | .ok (.ret u) => CE outer P w H s Q u s'
  | .ok _ => False
  | .error e => CX outer H s E e s'
structure FnOk (P : Program) (w : World) (K : PySem.W.Frag) (mg : Str → Option Value) (base : Heap) (CX : CXT) (k : Nat) (f : Addr) (fd : FuncData) (ps : List Str) (sp : Sp) : Prop where
  len : ∀ vs H Q E, sp vs H Q E → vs.length = ps.length
  run : ∀ (A : Around) (outer : List Env) (s : Shared) (H : Hp) (args : Args) (us : List Value) (vs : List V) (Q : VK) (E : XK), Room k A → Env0 P w K mg base A outer s H → BindsTo s fd args (ps.zip us) → Vals vs us → sp vs H Q E →
    codeAny (model P w) A (.call (.ref f) args) (CR CX outer P w H s Q E) s
theorem FnOk.imp {P : Program} {w : World} {K : PySem.W.Frag} {mg : Str → Option Value} {base : Heap} {CX : CXT} {k : Nat} {f : Addr} {fd : FuncData} {ps : List Str} {sp sp' : Sp} (F : FnOk P w K mg base CX k f fd ps sp)
    (h : ∀ vs H Q E, sp' vs H Q E → sp vs H Q E) : FnOk P w K mg base CX k f fd ps sp' :=
  ⟨fun vs H Q E q => F.len vs H Q E (h _ _ _ _ q), fun A outer s H args us vs Q E hr he hb hv hs => F.run A outer s H args us vs Q E hr he hb hv (h _ _ _ _ hs)⟩
section
variable {X : Cx} {pins : List (Addr × Obj)} {σ : St} {H : Hp} {s s' : Shared}
theorem Inv.env0 (I : Inv X pins σ H s) : Env0 X.prog X.w X.K X.mg X.base X.A X.stack s H :=
  ⟨I.ok.frames, I.ok.mod, I.bs, Nat.le_trans I.ok.bsz I.sz, I.stack, I.stkFree, I.hok, I.bare⟩
theorem Inv.after {Q : VK} {u : Value} (I : Inv X pins σ H s) (h : CE X.stack X.prog X.w H s Q u s') : EP X pins σ Q u s' := by
  obtain ⟨v, H', os, bare, un, hok, r, q⟩ := h
  obtain ⟨hh, g, d, t, os'⟩ := s'
  obtain rfl : os' = s.os := os
  exact ⟨v, H', I.call (h' := hh) (g' := g) (d' := d) (t' := t) (ch := []) un hok bare (fun b z => absurd z (by simp)), r, q⟩
end
def tCall (sp : Sp) (dvs : List V) (E : XK) (t : TA) : TE := fun σ H Q => t σ H fun vs H1 => sp (vs ++ dvs) H1 Q E
def Binds (K : PySem.W.Frag) (fd : FuncData) (ps : List Str) (ds : List Value) : Prop :=
  ∀ (s : Shared) (us : List Value), K.In s.heap → (us ++ ds).length = ps.length → BindsTo s fd ⟨us, []⟩ (ps.zip (us ++ ds))
theorem Binds.all {K : PySem.W.Frag} {fd : FuncData} {ps : List Str} (h : ∀ us : List Value, us.length = ps.length → bindArgs fd ⟨us, []⟩ = pure (ps.zip us)) : Binds K fd ps [] := fun s us _ hl => by
  rw [List.append_nil] at hl ⊢
  exact .of_eq (h us hl)
def Passes (CX : CXT) (X : Cx) (E : XK) : Prop := ∀ (pins : List (Addr × Obj)) (σ : St) (H : Hp) (s : Shared) (e : Value) (s' : Shared), Inv X pins σ H s → CX X.stack H s E e s' → X.xe e s'
section
variable {X : Cx} {CX : CXT} {k : Nat} {f C : Addr} {fd : FuncData} {ps : List Str} {sp : Sp} {dvs : List V} {ds : List Value} {E : XK} {x m : Str} {p pos apos : Pos} {e o : Expr} {es : List Expr} {ta : TE} {t : TA}
theorem run_fn {pins : List (Addr × Obj)} {σ : St} {H : Hp} {s : Shared} {Q : VK} {us : List Value} {vs : List V} (F : FnOk X.prog X.w X.K X.mg X.base CX k f fd ps sp) (hr : Room k X.A) (hb : Binds X.K fd ps ds) (hd : Vals dvs ds) (hx : Passes CX X E)
    (I : Inv X pins σ H s) (r : Vals vs us) (h : sp (vs ++ dvs) H Q E) : wpAny (model X.prog X.w) X.A (call (.ref f) us) (EP X pins σ Q) X.xe s := by
  have r2 : Vals (vs ++ dvs) (us ++ ds) := r.append hd
  have hl : (us ++ ds).length = ps.length := by rw [← r2.length]; exact F.len _ _ _ _ h
  refine wpAny_call (codeAny_mono (F.run X.A X.stack s H ⟨us, []⟩ (us ++ ds) (vs ++ dvs) Q E hr I.env0 (hb s us I.kIn hl) r2 h) fun r s' hq => ?_)
  cases r with
  | error e => exact hx pins σ H s e s' I hq
  | ok fl =>
    cases fl with
    | ret u => exact I.after hq
    | next => exact False.elim hq
    | brk => exact False.elim hq
    | cont => exact False.elim hq
theorem pe_call (F : FnOk X.prog X.w X.K X.mg X.base CX k f fd ps sp) (hr : Room k X.A) (hg : Gl X x) (hm : X.mg x = some (.ref f)) (hk : PySem.W.keepIn X.K (.ref f) = true) (hb : Binds X.K fd ps ds) (hd : Vals dvs ds) (hx : Passes CX X E)
    (ha : PA X (e :: es) t) (hdb : (x == ("__debug__" : Str)) = false := by decide) (he : starEach (e :: es) X.env = (false, eval e X.env) :: starEach es X.env := by rfl) (hpl : (backTo pos (starEach es X.env)).any (·.1) = false := by rfl) :
    PE X (.Call (.Name x p) (e :: es) [] pos) (tCall sp dvs E t) := by
  intro pins s σ H Q I h
  refine wpAny_Call_Name_kw (ld_glob I hg hm ?_ hdb)
  refine PySem.W.callWith_K (h₀ := X.base) I.ok.mod.kin hk (thn (ha pos pins s σ H _ I h) fun us s1 ⟨vs, H1, I1, r, q⟩ => ⟨I1.kIn, ?_⟩) he hpl
  exact run_fn F hr hb hd hx I1 r q
end
structure FnScope (N P : List Str) (sc : Scope) : Prop where
  kind : sc.kind = .function
  co : sc.isCoroutine = false
  gen : sc.isGenerator = false
  nd : N.Nodup
  pre : N.take P.length = P
  par : ∀ x ∈ P, sc.names.lookup x = some .local ∨ sc.names.lookup x = some .cell
  nofree : ∀ y ∈ sc.names, y.2 ≠ .free
theorem bindL_out {kindOf : Str → Option NameKind} {x : Str} : ∀ {binds : List (Str × Value)} {m : Str → Option Value}, (∀ v, (x, v) ∉ binds) → bindL kindOf binds m x = m x
  | [], _, _ => rfl
  | (n, v) :: r, m, h => by
    unfold bindL
    rw [bindL_out fun w hw => h w (List.mem_cons_of_mem _ hw)]
    split
    · have : x ≠ n := by rintro rfl; exact h v List.mem_cons_self
      simp [this]
    · rfl
theorem bindC_out {kindOf : Str → Option NameKind} {x : Str} : ∀ {binds : List (Str × Value)} {m : Str → Option Value}, (∀ v, (x, v) ∉ binds) → bindC kindOf binds m x = m x
  | [], _, _ => rfl
  | (n, v) :: r, m, h => by
    unfold bindC
    rw [bindC_out fun w hw => h w (List.mem_cons_of_mem _ hw)]
    split
    · rfl
    · have : x ≠ n := by rintro rfl; exact h v List.mem_cons_self
      simp [this]
theorem bindL_get {kindOf : Str → Option NameKind} {x : Str} {v : Value} : ∀ {P : List Str} {vs : List Value} {i : Nat} {m : Str → Option Value}, P.Nodup → P[i]? = some x → vs[i]? = some v → kindOf x = some .local →
    bindL kindOf (P.zip vs) m x = some v
  | [], _, _, _, _, h, _, _ => by simp at h
  | _ :: _, [], _, _, _, _, h, _ => by simp at h
  | p :: P, w :: vs, 0, m, nd, h1, h2, hk => by
    simp at h1 h2; subst h1; subst h2
    show bindL kindOf ((p, w) :: P.zip vs) m p = _
    unfold bindL
    rw [bindL_out fun v hv => (List.nodup_cons.mp nd).1 (List.of_mem_zip hv).1, if_pos hk]
    simp
  | p :: P, w :: vs, i + 1, m, nd, h1, h2, hk => by
    show bindL kindOf ((p, w) :: P.zip vs) m x = _
    unfold bindL
    exact bindL_get (i := i) (List.nodup_cons.mp nd).2 (by simpa using h1) (by simpa using h2) hk
theorem bindC_get {kindOf : Str → Option NameKind} {x : Str} {v : Value} : ∀ {P : List Str} {vs : List Value} {i : Nat} {m : Str → Option Value}, P.Nodup → P[i]? = some x → vs[i]? = some v → kindOf x ≠ some .local →
    bindC kindOf (P.zip vs) m x = some v
  | [], _, _, _, _, h, _, _ => by simp at h
  | _ :: _, [], _, _, _, _, h, _ => by simp at h
  | p :: P, w :: vs, 0, m, nd, h1, h2, hk => by
    simp at h1 h2; subst h1; subst h2
    show bindC kindOf ((p, w) :: P.zip vs) m p = _
    unfold bindC
    rw [bindC_out fun v hv => (List.nodup_cons.mp nd).1 (List.of_mem_zip hv).1, if_neg hk]
    simp
  | p :: P, w :: vs, i + 1, m, nd, h1, h2, hk => by
    show bindC kindOf ((p, w) :: P.zip vs) m x = _
    unfold bindC
    exact bindC_get (i := i) (List.nodup_cons.mp nd).2 (by simpa using h1) (by simpa using h2) hk
def start (N : List Str) (vs : List V) : St := vs.map some ++ List.replicate (N.length - vs.length) none
def cxOf (CX : CXT) (P : Program) (w : World) (K : PySem.W.Frag) (mg : Str → Option Value) (base : Heap) (N : List Str) (qual : Str) (scope : Scope) (f : Addr) (cd : Value) (A : Around) (outer : List Env) (s : Shared) (H : Hp) (E : XK) : Cx where
  prog := P
  w := w
  K := K
  mg := mg
  base := base
  A := A.deeper (envOfC qual scope s.heap.objs.size f cd)
  N := N
  s₀ := s
  H₀ := H
  env := envOfC qual scope s.heap.objs.size f cd
  outer := outer
  stack := envOfC qual scope s.heap.objs.size f cd :: outer
  ex := []
  calm := true
  fn := fun _ => true
  pn := []
  xe := fun e s' => wpAny (model P w) (A.deeper (envOfC qual scope s.heap.objs.size f cd)) (leaving (envOfC qual scope s.heap.objs.size f cd) e) (fun _ s'' => CX outer H s E e s'') (fun e' s'' => CX outer H s E e' s'') s'
theorem cell_has {sc : Scope} {n : Nat} {x : Str} (h : sc.names.lookup x = some .cell) : ∃ c, (cellsFrom n sc.names []).lookup x = some c := by
  have q := PySem.W.cellsFrom_some sc.names n [] (.inl h)
  exact Option.isSome_iff_exists.mp q
theorem inv_start {CX : CXT} {P : Program} {w : World} {K : PySem.W.Frag} {mg : Str → Option Value} {base : Heap} {N ps : List Str} {qual : Str} {scope : Scope} {f : Addr} {cd : Value} {A : Around} {outer : List Env} {s s1 : Shared} {H : Hp} {E : XK} {us : List Value} {vs : List V}
    (S : FnScope N ps scope) (hd : A.handled = none) (e0 : Env0 P w K mg base A outer s H) (hl : vs.length = ps.length) (r : Vals vs us)
    (x : InCallC s s.heap.objs.size (bindL (envOfC qual scope s.heap.objs.size f cd).kindOf (ps.zip us) fun _ => none) (cellsFrom (s.heap.objs.size + 1) scope.names []) (bindC (envOfC qual scope s.heap.objs.size f cd).kindOf (ps.zip us) fun _ => none) s1) :
    Inv (cxOf CX P w K mg base N qual scope f cd A outer s H E) [] (start N vs) H s1 := by
  have hpl : ps.length ≤ N.length := by have := congrArg List.length S.pre; rw [List.length_take] at this; omega
  obtain ⟨h1, tk, rfl, hk⟩ := x.done
  have noA : ∀ b : Addr, b ∉ (cxOf CX P w K mg base N qual scope f cd A outer s H E).ex := fun b z => absurd (show b ∈ ([] : List Addr) from z) (by simp)
  refine ⟨⟨e0.mod, S.kind, rfl, rfl, Nat.le_refl _, fun y z c h1 h2 => ?_, fun y hy => ?_, fun y c _ h => ?_, fun _ => hd, Around.frames_deeper e0.frames, .inr ⟨rfl, rfl⟩, fun b z => absurd z (noA b), e0.bs, e0.bsz, fun b _ _ => noA b, fun b z => absurd z (noA b), e0.funs, e0.frf⟩,
    rfl, e0.bare, Un.kept hk, ⟨_, x.toInCall.ns, fun i y v h1 h2 h3 => ?_⟩, fun y c h => ⟨_, x.cell y c h⟩, e0.hok.fresh (Nat.le_refl _), fun y c h => ?_, fun p hp => absurd (show p ∈ ([] : List (Addr × Obj)) from hp) (by simp), e0.hok.kept hk, ?_⟩
  · exact name_of_addr x.apart (PySem.mem_of_lookup h1) (PySem.mem_of_lookup h2)
  · have hy : scope.names.lookup y = some .cell ∨ scope.names.lookup y = some .free := hy
    rcases hy with hy | hy
    · exact cell_has hy
    · exact absurd rfl (S.nofree _ (PySem.mem_of_lookup hy))
  · exact Nat.le_of_lt (x.above y c (PySem.mem_of_lookup h))
  · have hi : i < vs.length := by
      unfold start at h2
      by_cases hi : i < vs.length
      · exact hi
      · rw [List.getElem?_append_right (by simpa using hi)] at h2
        rw [List.getElem?_replicate] at h2
        split at h2 <;> cases h2
    have ha : vs[i]? = some v := by
      unfold start at h2
      rw [List.getElem?_append_left (by simpa using hi), List.getElem?_map] at h2
      cases e : vs[i]? with
      | none => rw [e] at h2; cases h2
      | some a => rw [e] at h2; cases h2; rfl
    obtain ⟨u, hu, rv⟩ := r.get ha
    have hp : ps[i]? = some y := by
      rw [← S.pre, List.getElem?_take_of_lt (by omega)]; exact h1
    have ndP : ps.Nodup := by rw [← S.pre]; exact S.nd.sublist (List.take_sublist _ _)
    refine ⟨u, rv, ?_⟩
    rcases S.par y (List.mem_of_getElem? hp) with k | k
    · exact .inl ⟨k, bindL_get ndP hp hu k⟩
    · obtain ⟨c, e⟩ := cell_has (n := s.heap.objs.size + 1) k
      refine .inr ⟨.inl k, c, e, ?_⟩
      have q := x.cell y c e
      rw [bindC_get ndP hp hu (by show scope.names.lookup y ≠ _; rw [k]; decide)] at q
      exact q
  · exact e0.hok.fresh (Nat.le_of_lt (x.above y c (PySem.mem_of_lookup h)))
  · unfold start
    show _ = N.length
    rw [List.length_append, List.length_map, List.length_replicate]
    omega
theorem fn_of {CX : CXT} {P : Program} {w : World} {K : PySem.W.Frag} {mg : Str → Option Value} {base : Heap} {k : Nat} {f : Addr} {name qual : Str} {params : Arguments} {body : List Stmt} {scope : Scope} {dV kV doc pm cdv ct oc : Value} {an od : Option Addr}
    {osl : Array (Option Value)} {N ps : List Str} {sp : Sp} (lk : K.lookup f = some ⟨oc, od, .func (PySem.W.fnOf name qual params body scope dV kV doc pm an cdv ct), osl⟩) (hcd : PySem.W.codeIn K cdv qual = true) (S : FnScope N ps scope)
    (len : ∀ vs H Q E, sp vs H Q E → vs.length = ps.length)
    (hbody : ∀ (A : Around) (outer : List Env) (s : Shared) (H : Hp) (vs : List V) (Q : VK) (E : XK), Room k (A.deeper (envOfC qual scope s.heap.objs.size f cdv)) → sp vs H Q E →
      ∃ t, PSs (cxOf CX P w K mg base N qual scope f cdv A outer s H E) body t ∧ t { nx := fun _ H' => Q .non H', rt := Q } (start N vs) H) :
    FnOk P w K mg base CX (k + 1) f (PySem.W.fnOf name qual params body scope dV kV doc pm an cdv ct) ps sp := by
  refine ⟨len, fun A outer s H args us vs Q E hr e0 hb r hsp => ?_⟩
  have hl := len _ _ _ _ hsp
  have KX : K.In s.heap := e0.mod.kin.keeps fun b o e => (e0.bs b o e).1
  have lim : s.heap.NoLimit := e0.mod.nolimit.keeps fun b o e => (e0.bs b o e).1
  have hkind : ∀ y ∈ ps.zip us, scope.names.lookup y.1 = some .local ∨ (scope.names.lookup y.1 = some .cell ∧ ((cellsFrom (s.heap.objs.size + 1) scope.names []).lookup y.1).isSome = true) := fun ⟨n, v⟩ hy => by
    rcases S.par n (List.of_mem_zip hy).1 with q | q
    · exact .inl q
    · exact .inr ⟨q, PySem.W.cellsFrom_some _ _ _ (.inl q)⟩
  refine codeAny_call_function hr.depth (KX _ _ lk) rfl S.co S.gen rfl (PySem.W.codeRec_of KX hcd) (hb _ _ _ _ ?_)
  refine wpAny_newFunctionEnv_cells S.kind hkind fun env he s1 x => ?_
  subst he
  refine ⟨lim.keeps x.toInCall.keep, codeAny_func ?_⟩
  obtain ⟨t, ht, hq⟩ := hbody A outer s H vs Q E (hr.deeper _) hsp
  have I : Inv (cxOf CX P w K mg base N qual scope f cdv A outer s H E) [] (start N vs) H s1 := inv_start S hr.hd e0 hl r x
  refine wpAny_mono (ht [] s1 (start N vs) H _ I hq) (fun fl s' hs => ?_) fun e s' hs => hs
  have fin : ∀ {σ' : St} {H' : Hp} {v : V} {u : Value}, Inv (cxOf CX P w K mg base N qual scope f cdv A outer s H E) [] σ' H' s' → RelV v u → Q v H' → CE outer P w H s Q u s' :=
    fun {σ' H' v u} J rv q => ⟨v, H', J.os, J.bare, J.base, J.hok, rv, q⟩
  cases fl with
  | ret u =>
    obtain ⟨v, σ', H', J, rv, q⟩ := hs
    exact fin J rv q
  | next =>
    obtain ⟨σ', H', J, q⟩ := hs
    exact fin (v := V.non) (u := Value.none) J rfl q
  | brk =>
    obtain ⟨_, _, _, q⟩ := hs
    exact False.elim q
  | cont =>
    obtain ⟨_, _, _, q⟩ := hs
    exact False.elim q
end L2
namespace L2
open PySem PySem.Spec PyProof.Rows
section
variable {X : Cx} {x : Str} {p pos : Pos} {e : Expr} {es : List Expr} {t : TA} {id T : String} {r : List V → Hp → VK → Prop}
def tCB (r : List V → Hp → VK → Prop) (t : TA) : TE := fun σ H Q => t σ H fun vs H1 => r vs H1 Q
theorem pe_callB (hc : CallR X (.builtin id) r) (hg : Gl X x) (hm : X.mg x = none) (hv : bootBuiltins x = some (.builtin id)) (ha : PA X (e :: es) t) (hn : x ≠ "__name__" := by decide) (hdb : (x == ("__debug__" : Str)) = false := by decide)
    (he : starEach (e :: es) X.env = (false, eval e X.env) :: starEach es X.env := by rfl) (hpl : (backTo pos (starEach es X.env)).any (·.1) = false := by rfl) : PE X (.Call (.Name x p) (e :: es) [] pos) (tCB r t) := by
  intro pins s σ H Q I h
  refine wpAny_Call_Name_kw (ld_blt I hg hm hv ?_ hn hdb)
  exact PyProof.Rows.callWith_builtin1 (thn (ha pos pins s σ H _ I h) fun us s1 ⟨vs, H1, I1, r1, q1⟩ => hc pins s1 σ H1 vs us Q I1 r1 q1) he hpl
theorem pe_callTy (hc : CallR X (.type T) r) (hg : Gl X x) (hm : X.mg x = none) (hv : bootBuiltins x = some (.type T)) (ha : PA X (e :: es) t) (hn : x ≠ "__name__" := by decide) (hdb : (x == ("__debug__" : Str)) = false := by decide)
    (he : starEach (e :: es) X.env = (false, eval e X.env) :: starEach es X.env := by rfl) (hpl : (backTo pos (starEach es X.env)).any (·.1) = false := by rfl) : PE X (.Call (.Name x p) (e :: es) [] pos) (tCB r t) := by
  intro pins s σ H Q I h
  refine wpAny_Call_Name_kw (ld_blt I hg hm hv ?_ hn hdb)
  exact PyProof.Rows.callWith_type1 (thn (ha pos pins s σ H _ I h) fun us s1 ⟨vs, H1, I1, r1, q1⟩ => hc pins s1 σ H1 vs us Q I1 r1 q1) he hpl
end
end L2
namespace HT
open PySem PyProof.Rows
section
variable {prog : Program} {w : World} {A : Around} {E : Value → Shared → Prop} {s : Shared}
def sIx (n d : Nat) : Option Int → Nat
  | none => d
  | some v => if v < 0 then (v + (n : Int)).toNat else min v.toNat n
theorem sIx_nat (n d k : Nat) : sIx n d (some (k : Int)) = min k n := by
  show (if (k : Int) < 0 then ((k : Int) + (n : Int)).toNat else min (k : Int).toNat n) = min k n
  rw [if_neg (by omega), Int.toNat_natCast]
end
end HT
namespace L2
open PySem PySem.Spec PyProof.Rows
abbrev TO := St → Hp → (Option Int → Hp → Prop) → Prop
def PO (X : Cx) (e : Option Expr) (t : TO) : Prop :=
  ∀ (pins : List (Addr × Obj)) (s : Shared) (σ : St) (H : Hp) (Q : Option Int → Hp → Prop), Inv X pins σ H s → t σ H Q →
    wpAny (model X.prog X.w) X.A (evalPart e X.env) (fun u s' => ∃ o H', Inv X pins σ H' s' ∧ IsPart u o ∧ Q o H') X.xe s
def tNoPart : TO := fun _ H Q => Q none H
def tPart (t : TE) : TO := fun σ H Q => t σ H fun x H1 => ∃ i, x = .int i ∧ Q (some i) H1
theorem intsAre_of {ns : List Int} : ∀ {us : List Value}, Vals (ns.map V.int) us → IntsAre us ns := by
  induction ns with
  | nil => intro us r; rw [List.map_nil] at r; cases r; exact .nil
  | cons n ns ih =>
    intro us r
    rw [List.map_cons] at r
    cases r with
    | cons r1 r2 =>
      obtain ⟨t, e⟩ := r1
      subst e
      exact .cons n t (ih r2)
section
variable {X : Cx} {e : Expr} {te : TE} {lo hi : Option Expr} {tl th : TO} {pos p2 : Pos}
theorem po_none : PO X none tNoPart := by
  intro pins s σ H Q I h
  rw [evalPart_none]
  exact wpAny_pure ⟨none, H, I, .none, h⟩
theorem po_some (h : PE X e te) : PO X (some e) (tPart te) := by
  intro pins s σ H Q I hw
  rw [evalPart_some]
  refine thn (h pins s σ H _ I hw) fun u s1 ⟨x, H1, I1, r1, q1⟩ => ?_
  obtain ⟨i, rfl, q⟩ := q1
  obtain ⟨t, rfl⟩ := r1
  exact ⟨some i, H1, I1, .int i t, q⟩
def SlR (X : Cx) (r : V → Option Int → Option Int → Hp → VK → Prop) : Prop :=
  ∀ (pins : List (Addr × Obj)) (s : Shared) (σ : St) (H : Hp) (x : V) (v vl vu : Value) (lo hi : Option Int) (sl : Addr) (Q : VK), Inv X pins σ H s → RelV x v → s.heap.IsSliceOf sl vl vu .none → IsPart vl lo → IsPart vu hi → r x lo hi H Q →
    ∃ T id, typeLookup (.type T) "__getitem__" = pure (some (.builtin id)) ∧ s.TypeIs v T ∧ wpAny (model X.prog X.w) X.A (getItem v (.ref sl)) (EP X pins σ Q) X.xe s
def tSl (r : V → Option Int → Option Int → Hp → VK → Prop) (te : TE) (tl th : TO) : TE := fun σ H Q => te σ H fun x H1 => tl σ H1 fun l H2 => th σ H2 fun u H3 => r x l u H3 Q
theorem pe_slice {r : V → Option Int → Option Int → Hp → VK → Prop} (hr : SlR X r) (he : PE X e te) (hl : PO X lo tl) (hu : PO X hi th) : PE X (.Subscript e (.Slice lo hi none p2) pos) (tSl r te tl th) := by
  intro pins s σ H Q I h
  refine Subscript_ (thn (he pins s σ H _ I h) fun v s1 ⟨x, H1, I1, r1, q1⟩ => ?_)
  refine wpAny_Slice (thn (hl pins s1 σ H1 _ I1 q1) fun vl s2 ⟨l, H2, I2, pl, q2⟩ => thn (hu pins s2 σ H2 _ I2 q2) fun vu s3 ⟨u, H3, I3, pu, q3⟩ => ?_)
  rw [evalPart_none]
  refine wpAny_pure ?_
  have I4 : Inv X pins σ H3 { s3 with heap := s3.heap.push { cls := .type "slice", data := .fields #[vl, vu, .none] } } := I3.kept (t' := s3.toks) fun b ob q => Heap.get?_push_of_some _ q
  obtain ⟨T, id, hT, ht, hg⟩ := hr pins { s3 with heap := s3.heap.push { cls := .type "slice", data := .fields #[vl, vu, .none] } } σ H3 x v vl vu l u s3.heap.objs.size Q I4 r1 (Heap.IsSliceOf.new ..) pl pu q3
  show wpAny (model X.prog X.w) X.A (subscriptTail e (.Slice lo hi none p2) v (.ref s3.heap.objs.size)) (EP X pins σ Q) X.xe { s3 with heap := s3.heap.push { cls := .type "slice", data := .fields #[vl, vu, .none] } }
  exact tail_any (ops := [.ref s3.heap.objs.size, v]) ht hT hg (by with_unfolding_all rfl)
def cutV (xs : List V) (lo hi : Option Int) : List V := (xs.drop (HT.sIx xs.length 0 lo)).take (HT.sIx xs.length xs.length hi - HT.sIx xs.length 0 lo)
theorem cutV_length (xs : List V) (lo hi : Option Int) : (cutV xs lo hi).length ≤ xs.length := by
  unfold cutV
  rw [List.length_take, List.length_drop]
  omega
end
end L2
namespace L2
open PySem PySem.Spec PyProof.Rows
def ixN (n : Nat) (i : Int) : Option Nat := if 0 ≤ i then (if i < n then some i.toNat else none) else if -(n : Int) ≤ i then some (i + n).toNat else none
def atI {α : Type} (xs : List α) (i : Int) : Option α := (ixN xs.length i).bind fun j => xs[j]?
theorem ixN_seq {n : Nat} {i : Int} {j : Nat} (h : ixN n i = some j) : seqIndex? i n = some j ∧ j < n ∧ -(n : Int) ≤ i ∧ i < n := by
  unfold ixN at h
  by_cases h0 : 0 ≤ i
  · rw [if_pos h0] at h
    by_cases h1 : i < n
    · rw [if_pos h1] at h
      have e : i.toNat = j := Option.some.inj h
      exact ⟨by rw [seqIndex_of h0 h1, e], by omega, by omega, h1⟩
    · rw [if_neg h1] at h; cases h
  · rw [if_neg h0] at h
    by_cases h1 : -(n : Int) ≤ i
    · rw [if_pos h1] at h
      have e : (i + n).toNat = j := Option.some.inj h
      exact ⟨by rw [seqIndex_neg (by omega) h1, e], by omega, h1, by omega⟩
    · rw [if_neg h1] at h; cases h
theorem atI_get {α : Type} {xs : List α} {i : Int} {v : α} (h : atI xs i = some v) : ∃ j, seqIndex? i xs.length = some j ∧ xs[j]? = some v ∧ j < xs.length ∧ -(xs.length : Int) ≤ i ∧ i < xs.length := by
  unfold atI at h
  cases e : ixN xs.length i with
  | none => rw [e] at h; cases h
  | some j =>
    rw [e] at h
    obtain ⟨h1, h2, h3, h4⟩ := ixN_seq e
    exact ⟨j, h1, h, h2, h3, h4⟩
theorem atI_nat {α : Type} {xs : List α} {j : Nat} {v : α} (h : xs[j]? = some v) : atI xs (j : Int) = some v := by
  have hj : j < xs.length := (List.getElem?_eq_some_iff.mp h).1
  have e : ixN xs.length (j : Int) = some j := by
    unfold ixN
    rw [if_pos (by omega), if_pos (by omega)]; simp
  unfold atI; rw [e]; exact h
def PlainIx (b : Expr) : Prop := ∀ o i, subscripted b false o i = operate [o, i] (getItem o i)
def IxR (X : Cx) (r : R2) : Prop :=
  ∀ (value slice : Expr) (pins : List (Addr × Obj)) (s : Shared) (σ : St) (H : Hp) (x y : V) (v u : Value) (Q : VK), Inv X pins σ H s → RelV x v → RelV y u → r x y H Q →
    subscripted slice false v u = operate [v, u] (getItem v u) → wpAny (model X.prog X.w) X.A (subscriptTail value slice v u) (EP X pins σ Q) X.xe s
def MtR (X : Cx) (id : String) (r : V → List V → Hp → VK → Prop) : Prop :=
  ∀ (pins : List (Addr × Obj)) (s : Shared) (σ : St) (H : Hp) (x : V) (xs : List V) (v : Value) (us : List Value) (Q : VK), Inv X pins σ H s → RelV x v → Vals xs us → r x xs H Q →
    wpAny (model X.prog X.w) X.A (call (.builtin id) (v :: us)) (EP X pins σ Q) X.xe s
section
variable {X : Cx} {a b : Expr} {ta tb : TE} {pos : Pos}
theorem pe_ix {r : R2} (hr : IxR X r) (ha : PE X a ta) (hb : PE X b tb) (hs : PlainIx b) : PE X (.Subscript a b pos) (tOp r ta tb) := by
  intro pins s σ H Q I h
  exact Subscript_ (binT ha hb I h fun v u s2 x y H2 I2 rx ry q => hr a b pins s2 σ H2 x y v u Q I2 rx ry q (hs _ _))
def rIxL (K : PySem.W.Frag) : R2 := fun x y H Q => ∃ p xs i v, x = .ref p ∧ y = .int i ∧ SqL K H p xs ∧ atI xs i = some v ∧ Q v H
def rIxT (K : PySem.W.Frag) : R2 := fun x y H Q => ∃ p xs i v, x = .ref p ∧ y = .int i ∧ SqT K H p xs ∧ atI xs i = some v ∧ Q v H
theorem ix_list : IxR X (rIxL X.K) := by
  intro value slice pins s σ H x y v u Q I rx ry h hs
  obtain ⟨p, xs, i, z, rfl, rfl, hq, he, q⟩ := h
  cases rx
  obtain ⟨t, rfl⟩ := ry
  obtain ⟨its, r, pl, hz⟩ := I.list hq
  obtain ⟨j, h1, h2, h3, h4, h5⟩ := atI_get he
  obtain ⟨w, ew, rw'⟩ := r.get h2
  have hl := r.length
  have hn := line63
  have fin : EP X pins σ Q w s := ⟨z, H, I, rw', q⟩
  by_cases h0 : 0 ≤ i
  · have hj : i.toNat = j := by
      rw [seqIndex_of h0 h5] at h1
      exact Option.some.inj h1
    exact item_listR pl.isList h0 (by omega) (by rw [hj]; simpa using ew) fin hs
  · have hj : (i + (its.toArray.size : Int)).toNat = j := by
      rw [seqIndex_neg (by omega) h4] at h1
      rw [List.size_toArray, ← hl]
      exact Option.some.inj h1
    exact subscriptTail_builtinR (x := w) pl.isList.typeIs slot_list_getitem.lookup
      (wpAny_getItem_list_neg (Q := fun r s' => r = w ∧ EP X pins σ Q r s') pl.isList (by omega) (by rw [List.size_toArray] <;> omega) (by omega) (by rw [hj]; simpa using ew) ⟨rfl, fin⟩) hs
theorem ix_tup : IxR X (rIxT X.K) := by
  intro value slice pins s σ H x y v u Q I rx ry h hs
  obtain ⟨p, xs, i, z, rfl, rfl, hq, he, q⟩ := h
  cases rx
  obtain ⟨t, rfl⟩ := ry
  obtain ⟨its, r, pl, hz⟩ := I.tuple hq
  obtain ⟨j, h1, h2, h3, h4, h5⟩ := atI_get he
  obtain ⟨w, ew, rw'⟩ := r.get h2
  have hl := r.length
  have hn := line63
  have fin : EP X pins σ Q w s := ⟨z, H, I, rw', q⟩
  exact subscriptTail_builtinR (x := w) pl.typeIs slot_tuple_getitem.lookup
    (getItem_tuple (j := j) (Q := fun r s' => r = w ∧ EP X pins σ Q r s') pl (by omega) (by omega) (by rw [List.size_toArray, ← hl]; exact h1) (by simpa using ew) ⟨rfl, fin⟩) hs
theorem mapSeq_set (its : List Value) (n j : Nat) (u : Value) : Obj.mapSeq (·.setIfInBounds j u) { cls := .type "list", data := .seq its.toArray n } = { cls := .type "list", data := .seq (its.set j u).toArray n } := by
  simp [Obj.mapSeq]
theorem Inv.lst {pins : List (Addr × Obj)} {σ : St} {H : Hp} {s : Shared} {p : Addr} {xs : List V} (I : Inv X pins σ H s) (h : H p = some (.lst xs)) :
    ∃ (its : List Value) (n : Nat), Vals xs its ∧ s.heap.get? p = some { cls := .type "list", data := .seq its.toArray n } ∧ xs.length ≤ sizeLine := by
  obtain ⟨z, its, n, r, e⟩ := I.hok p _ h
  exact ⟨its, n, r, e, z⟩
theorem Inv.lstUpd {pins : List (Addr × Obj)} {σ : St} {H : Hp} {s : Shared} {p : Addr} {xs ys : List V} {its its' : List Value} {n n' : Nat} {f : Obj → Obj} (I : Inv X pins σ H s) (h : H p = some (.lst xs))
    (ho : s.heap.get? p = some { cls := .type "list", data := .seq its.toArray n }) (hf : f { cls := .type "list", data := .seq its.toArray n } = { cls := .type "list", data := .seq its'.toArray n' }) (r : Vals ys its') (hz : ys.length ≤ sizeLine) (t : Nat) :
    Inv X pins σ (upd H p (.lst ys)) { s with heap := s.heap.update p f, toks := t } := by
  have e : (s.heap.update p f).get? p = some { cls := .type "list", data := .seq its'.toArray n' } := by
    rw [Heap.get?_update_self f ho (by rw [hf] <;> rfl), hf]
  refine I.write (x := p) (e := p) (by rw [h]; trivial) (.inl rfl) (fun b u hb q => (Heap.get?_update_other _ _ (Ne.symm hb)).trans q) ⟨_, e⟩ ?_
  exact ⟨hz, its', n', r, e⟩
def rSetL : V → V → V → Hp → (Hp → Prop) → Prop := fun o i v H Q => ∃ p xs k j, o = .ref p ∧ i = .int k ∧ H p = some (.lst xs) ∧ ixN xs.length k = some j ∧ Q (upd H p (.lst (xs.set j v)))
theorem set_list : PSet X rSetL := by
  intro pins s σ H o i v ov iv u Q I ro ri rv h
  obtain ⟨p, xs, k, j, rfl, rfl, hp, hj, q⟩ := h
  cases ro
  obtain ⟨t, rfl⟩ := ri
  obtain ⟨its, n, r, ho, hz⟩ := I.lst hp
  obtain ⟨h1, h2, h3, h4⟩ := ixN_seq hj
  have hl := r.length
  have hn := line63
  have I' : Inv X pins σ (upd H p (.lst (xs.set j v))) { s with heap := s.heap.update p (Obj.mapSeq (·.setIfInBounds j u)) } :=
    I.lstUpd hp ho (mapSeq_set its n j u) (r.set rv j) (by rw [List.length_set]; exact hz) s.toks
  by_cases h0 : 0 ≤ k
  · have hk : k.toNat = j := by
      rw [seqIndex_of h0 h4] at h1
      exact Option.some.inj h1
    exact PySem.W.ki_setAt ho h0 (by omega) (by rw [List.size_toArray, ← hl]; exact h4) (by rw [hk]; exact ⟨_, I', q⟩)
  · have hk : (k + (its.toArray.size : Int)).toNat = j := by
      rw [seqIndex_neg (by omega) h3] at h1
      rw [List.size_toArray, ← hl]
      exact Option.some.inj h1
    exact PySem.W.ki_setBack ho (by omega) (by rw [List.size_toArray, ← hl]; exact h3) (by omega) (by rw [hk]; exact ⟨_, I', q⟩)
theorem slice_bounds (lo hi : Option Int) (n : Nat) : (sliceBounds lo hi none n).1 = ((HT.sIx n 0 lo : Nat) : Int) ∧ (sliceBounds lo hi none n).2.1 = ((HT.sIx n n hi : Nat) : Int) ∧ (sliceBounds lo hi none n).2.2 = 1 := by
  refine ⟨?_, ?_, rfl⟩
  · cases lo with
    | none => simp [sliceBounds, HT.sIx]
    | some i =>
      simp only [sliceBounds, HT.sIx, Option.getD_none, show (1 : Int) > 0 by decide, if_true]
      by_cases h : i < 0
      · simp only [h, if_true] <;> omega
      · simp only [h, if_false] <;> omega
  · cases hi with
    | none => simp [sliceBounds, HT.sIx]
    | some i =>
      simp only [sliceBounds, HT.sIx, Option.getD_none, show (1 : Int) > 0 by decide, if_true]
      by_cases h : i < 0
      · simp only [h, if_true] <;> omega
      · simp only [h, if_false] <;> omega
theorem slicePick_cut (its : List Value) (lo hi : Option Int) : slicePick its.toArray lo hi none = ((its.drop (HT.sIx its.length 0 lo)).take (HT.sIx its.length its.length hi - HT.sIx its.length 0 lo)).toArray := by
  obtain ⟨h1, h2, h3⟩ := slice_bounds lo hi its.toArray.size
  unfold slicePick
  rw [h1, h2, h3]
  simp only [sliceRange_one, pick_run, List.size_toArray] <;> rfl
def rSlL (K : PySem.W.Frag) : V → Option Int → Option Int → Hp → VK → Prop := fun x lo hi H Q => ∃ a xs, x = .ref a ∧ SqL K H a xs ∧ ∀ p, H p = none → Q (.ref p) (upd H p (.lst (cutV xs lo hi)))
theorem sl_list : SlR X (rSlL X.K) := by
  intro pins s σ H x v vl vu lo hi sl Q I rx hs pl pu h
  obtain ⟨a, xs, rfl, hx, q⟩ := h
  cases rx
  obtain ⟨its, r, ht, hz⟩ := I.list hx
  have hlen := r.length
  refine ⟨"list", _, slot_list_getitem.lookup, ht.isList.typeIs, ?_⟩
  refine wpAny_getItem_list_slice ht.isList hs pl pu .none (by simp) ?_ (by rw [List.size_toArray] <;> omega)
  rw [slicePick_cut, ← hlen]
  refine ⟨.ref s.heap.objs.size, _, I.laid (t' := s.toks) (o := .lst (cutV xs lo hi)) (fun b ob q => Heap.get?_push_of_some _ q) (Nat.le_refl _) ?_, rfl, q _ (I.hok.fresh (Nat.le_refl _))⟩
  exact ⟨Nat.le_trans (cutV_length xs lo hi) hz, _, 0, (r.drop (HT.sIx xs.length 0 lo)).take (HT.sIx xs.length xs.length hi - HT.sIx xs.length 0 lo), Heap.get?_push_size _ rfl⟩
def flatV : V → Bool
  | .non => true
  | .bl _ => true
  | .int _ => true
  | .str _ => true
  | _ => false
def eqV : V → V → Bool
  | .non, .non => true
  | .bl a, .bl b => a == b
  | .bl a, .int b => (if a then 1 else 0) == b
  | .int a, .bl b => a == (if b then 1 else 0)
  | .int a, .int b => a == b
  | .str a, .str b => a == b
  | _, _ => false
theorem eqAt_V {A : Around} {s : Shared} {y x : V} {u v : Value} (ry : RelV y u) (rx : RelV x v) (fy : flatV y = true) (fx : flatV x = true) : SeqAt.EqAt A s u v (eqV y x) := by
  cases y with
  | non =>
    cases ry
    cases x with
    | non => cases rx; exact SeqAt.EqAt.same _
    | bl b => cases rx; exact SeqAt.EqAt.none_bool b
    | int b => obtain ⟨t, rfl⟩ := rx; exact SeqAt.EqAt.none_int b t
    | str b => obtain ⟨t, rfl⟩ := rx; exact SeqAt.EqAt.none_str b t
    | _ => exact absurd (show false = true from fx) Bool.false_ne_true
  | bl a =>
    cases ry
    cases x with
    | non => cases rx; exact SeqAt.EqAt.bool_none a
    | bl b => cases rx; exact SeqAt.EqAt.bool_bool a b
    | int b => obtain ⟨t, rfl⟩ := rx; exact SeqAt.EqAt.bool_int a b t
    | str b => obtain ⟨t, rfl⟩ := rx; exact SeqAt.EqAt.bool_str a b t
    | _ => exact absurd (show false = true from fx) Bool.false_ne_true
  | int a =>
    obtain ⟨t', rfl⟩ := ry
    cases x with
    | non => cases rx; exact SeqAt.EqAt.int_none a t'
    | bl b => cases rx; exact SeqAt.EqAt.int_bool a t' b
    | int b => obtain ⟨t, rfl⟩ := rx; exact SeqAt.EqAt.int_int a t' b t
    | str b => obtain ⟨t, rfl⟩ := rx; exact SeqAt.EqAt.int_str a t' b t
    | _ => exact absurd (show false = true from fx) Bool.false_ne_true
  | str a =>
    obtain ⟨t', rfl⟩ := ry
    cases x with
    | non => cases rx; exact SeqAt.EqAt.str_none a t'
    | bl b => cases rx; exact SeqAt.EqAt.str_bool a t' b
    | int b => obtain ⟨t, rfl⟩ := rx; exact SeqAt.EqAt.str_int a t' b t
    | str b => obtain ⟨t, rfl⟩ := rx; exact SeqAt.EqAt.str_str a t' b t
    | _ => exact absurd (show false = true from fx) Bool.false_ne_true
  | _ => exact absurd (show false = true from fy) Bool.false_ne_true
def eqU (x : V) (u : Value) : Bool := match u with
  | .none => eqV .non x
  | .bool b => eqV (.bl b) x
  | .int i _ => eqV (.int i) x
  | .str z _ => eqV (.str z) x
  | _ => false
theorem eqU_of {x y : V} {u : Value} (r : RelV y u) (f : flatV y = true) : eqU x u = eqV y x := by
  cases y with
  | non => cases r; rfl
  | bl b => cases r; rfl
  | int i => obtain ⟨t, rfl⟩ := r; rfl
  | str z => obtain ⟨t, rfl⟩ := r; rfl
  | _ => exact absurd (show false = true from f) Bool.false_ne_true
theorem any_eqU {x : V} : ∀ {xs : List V} {us : List Value}, Vals xs us → xs.all flatV = true → us.any (eqU x) = xs.any fun y => eqV y x
  | _, _, .nil, _ => rfl
  | y :: xs, u :: us, .cons r t, f => by
    rw [List.all_cons, Bool.and_eq_true] at f
    rw [List.any_cons, List.any_cons, eqU_of r f.1, any_eqU t f.2]
theorem mem_eqAt {A : Around} {s : Shared} {x : V} {v : Value} (rx : RelV x v) (fx : flatV x = true) : ∀ {xs : List V} {us : List Value}, Vals xs us → xs.all flatV = true → ∀ u ∈ us, SeqAt.EqAt A s u v (eqU x u)
  | _, _, .nil, _ => fun u hu => by cases hu
  | y :: xs, u :: us, .cons r t, f => fun u' hu => by
    rw [List.all_cons, Bool.and_eq_true] at f
    rcases List.mem_cons.mp hu with rfl | hu
    · rw [eqU_of r f.1]; exact eqAt_V r rx f.1 fx
    · exact mem_eqAt rx fx t f.2 u' hu
def inV (x : V) (xs : List V) : Bool := xs.any fun y => eqV y x
def rIn (K : PySem.W.Frag) (neg : Bool) : R2 := fun x y H Q => ∃ p xs, y = .ref p ∧ (SqL K H p xs ∨ SqT K H p xs) ∧ flatV x = true ∧ xs.all flatV = true ∧ Q (.bl (if neg then !inV x xs else inV x xs)) H
theorem op_in_seq : OpR X (compareOp .In) (rIn X.K false) := by
  intro pins s σ H x y v u Q I rx ry h
  obtain ⟨p, xs, rfl, hq, fx, fs, q⟩ := h
  cases ry
  rcases hq with hq | hq
  · obtain ⟨its, r, pl, hz⟩ := I.list hq
    refine SeqAt.in_listAt (eqU x) pl.isList (fun w hw => mem_eqAt rx fx r fs w (by simpa using hw)) ⟨.bl _, H, I, rfl, ?_⟩
    rw [show its.toArray.any (eqU x) = its.any (eqU x) by simp, any_eqU r fs]
    exact q
  · obtain ⟨its, r, pl, hz⟩ := I.tuple hq
    refine SeqAt.in_tupleAt (eqU x) pl (fun w hw => mem_eqAt rx fx r fs w (by simpa using hw)) ⟨.bl _, H, I, rfl, ?_⟩
    rw [show its.toArray.any (eqU x) = its.any (eqU x) by simp, any_eqU r fs]
    exact q
theorem op_notIn_seq : OpR X (compareOp .NotIn) (rIn X.K true) := by
  intro pins s σ H x y v u Q I rx ry h
  obtain ⟨p, xs, rfl, hq, fx, fs, q⟩ := h
  cases ry
  rcases hq with hq | hq
  · obtain ⟨its, r, pl, hz⟩ := I.list hq
    refine SeqAt.notIn_listAt (eqU x) pl.isList (fun w hw => mem_eqAt rx fx r fs w (by simpa using hw)) ⟨.bl _, H, I, rfl, ?_⟩
    rw [show its.toArray.any (eqU x) = its.any (eqU x) by simp, any_eqU r fs]
    exact q
  · obtain ⟨its, r, pl, hz⟩ := I.tuple hq
    refine SeqAt.notIn_tupleAt (eqU x) pl (fun w hw => mem_eqAt rx fx r fs w (by simpa using hw)) ⟨.bl _, H, I, rfl, ?_⟩
    rw [show its.toArray.any (eqU x) = its.any (eqU x) by simp, any_eqU r fs]
    exact q
theorem call_len_seq : CallR X (.builtin "len") (fun xs H Q => ∃ p ys, xs = [.ref p] ∧ (SqL X.K H p ys ∨ SqT X.K H p ys) ∧ Q (.int ys.length) H) := by
  intro pins s σ H xs us Q I r h
  obtain ⟨p, ys, rfl, hq, q⟩ := h
  obtain ⟨u, rfl, rx⟩ := vals1 r
  cases rx
  have hn := line63
  rcases hq with hq | hq
  · obtain ⟨its, r', pl, hz⟩ := I.list hq
    have hlen := r'.length
    exact Calls.call_len_list pl.isList (by simp only [List.size_toArray] <;> omega) ⟨.int ys.length, H, I.tok _, ⟨s.toks + 1, by rw [List.size_toArray, hlen]⟩, q⟩
  · obtain ⟨its, r', pl, hz⟩ := I.tuple hq
    have hlen := r'.length
    exact len_tuple pl (by simp only [List.size_toArray] <;> omega) ⟨.int ys.length, H, I.tok _, ⟨s.toks + 1, by rw [List.size_toArray, hlen]⟩, q⟩
theorem call_list_of : CallR X (.type "list") (fun xs H Q => ∃ p ys, xs = [.ref p] ∧ (SqL X.K H p ys ∨ SqT X.K H p ys) ∧ ∀ l, H l = none → Q (.ref l) (upd H l (.lst ys))) := by
  intro pins s σ H xs us Q I r h
  obtain ⟨p, ys, rfl, hq, q⟩ := h
  obtain ⟨u, rfl, rx⟩ := vals1 r
  cases rx
  have fin : ∀ (its : List Value), Vals ys its → ys.length ≤ sizeLine → ∀ (h' : Heap) (c' : Nat), (∀ b o', s.heap.get? b = some o' → h'.get? b = some o') →
      h'.get? s.heap.objs.size = some { cls := .type "list", dict := none, data := .seq its.toArray c', slots := #[] } → EP X pins σ Q (.ref s.heap.objs.size) { s with heap := h' } := fun its r' hz h' c' kp e =>
    ⟨.ref s.heap.objs.size, _, I.laid (t' := s.toks) kp (Nat.le_refl _) (show ObjOk X.prog X.w _ h' _ (.lst ys) from ⟨hz, its, c', r', e⟩), rfl, q _ (I.hok.fresh (Nat.le_refl _))⟩
  rcases hq with hq | hq
  · obtain ⟨its, r', pl, hz⟩ := I.list hq
    have hlen := r'.length
    obtain ⟨o, ho, hc, n, hd⟩ := pl.isList
    exact call_list_seq p (.inl rfl) ho hc hd (fun h' c' kp e => fin its r' hz h' c' kp e) (by simp only [List.size_toArray] <;> omega)
  · obtain ⟨its, r', pl, hz⟩ := I.tuple hq
    have hlen := r'.length
    obtain ⟨o, ho, hc, n, hd⟩ := pl
    exact call_list_seq p (.inr rfl) ho hc hd (fun h' c' kp e => fin its r' hz h' c' kp e) (by simp only [List.size_toArray] <;> omega)
def tyV (K : PySem.W.Frag) (T : String) (x : V) (H : Hp) : Prop := match x with
  | .str _ => T = "str"
  | .int _ => T = "int"
  | .ref p => (T = "list" ∧ ∃ xs, SqL K H p xs) ∨ (T = "tuple" ∧ ∃ o, K.lookup p = some o ∧ o.cls = .type "tuple" ∧ o.dict = none) ∨
      (T = "dict" ∧ ((∃ kvs, H p = some (.dK kvs)) ∨ ∃ kvs, H p = some (.dT kvs))) ∨ (T = "set" ∧ ∃ S n, H p = some (.set S n))
  | _ => False
theorem tyV_is {pins : List (Addr × Obj)} {σ : St} {H : Hp} {s : Shared} {T : String} {x : V} {v : Value} (I : Inv X pins σ H s) (r : RelV x v) (ty : tyV X.K T x H) :
    s.TypeIs v T ∧ ∀ a, v = .ref a → ∃ ob, s.heap.get? a = some ob ∧ ob.dict = none := by
  cases x with
  | str z =>
    obtain ⟨t, rfl⟩ := r
    cases (show T = "str" from ty)
    exact ⟨typeIs_str s z t, fun _ e => nomatch e⟩
  | int i =>
    obtain ⟨t, rfl⟩ := r
    cases (show T = "int" from ty)
    exact ⟨typeIs_int s i t, fun _ e => nomatch e⟩
  | ref p =>
    cases r
    rcases ty with ⟨rfl, xs, hq⟩ | ⟨rfl, o, hk, hc, hd⟩ | ⟨rfl, hk⟩ | ⟨rfl, S, n, hk⟩
    · obtain ⟨its, _, pl, _⟩ := I.list hq
      refine ⟨pl.isList.typeIs, fun a e => ?_⟩
      cases e
      obtain ⟨o, n, e, c, hd, _⟩ := pl
      exact ⟨o, e, hd⟩
    · refine ⟨⟨o, I.kIn p o hk, hc⟩, fun a e => ?_⟩
      cases e
      exact ⟨o, I.kIn _ o hk, hd⟩
    · have z : ∃ o, s.heap.get? p = some o ∧ o.ExactDict := by
        rcases hk with ⟨kvs, hk⟩ | ⟨kvs, hk⟩
        · obtain ⟨_, _, _, _, o, _, _, e, ex, _⟩ := I.hok p _ hk
          exact ⟨o, e, ex⟩
        · obtain ⟨_, _, _, _, o, _, _, e, ex, _⟩ := I.hok p _ hk
          exact ⟨o, e, ex⟩
      obtain ⟨o, e, ex⟩ := z
      refine ⟨⟨o, e, ex.1⟩, fun a e2 => ?_⟩
      cases e2
      exact ⟨o, e, ex.2.1⟩
    · obtain ⟨o, _, _, _, e, ex, _⟩ := I.hok p _ hk
      refine ⟨⟨o, e, ex.1⟩, fun a e2 => ?_⟩
      cases e2
      exact ⟨o, e, ex.2.1⟩
  | _ => exact False.elim ty
def tBM (K : PySem.W.Frag) (T : String) (r : V → List V → Hp → VK → Prop) (to : TE) (t : TA) : TE := fun σ H Q => to σ H fun x H1 => tyV K T x H1 ∧ t σ H1 fun xs H2 => r x xs H2 Q
variable {o e : Expr} {es : List Expr} {to : TE} {t : TA} {name : Str} {apos cpos : Pos} {T id : String} {r : V → List V → Hp → VK → Prop}
theorem pe_bm (pa : PlainAttrs T) (slot : Slot T name id) (hty : typeOf (.builtin id) = pure (.type "method_descriptor")) (hm : MtR X id r) (ho : PE X o to) (ha : PA X (e :: es) t)
    (hbase : attributeBase o name X.env (eval o X.env) = eval o X.env := by rfl)
    (hfew : ((backTo cpos (starEach (e :: es) X.env)).all (fun x => !x.1) && (backToKw cpos (keywordEach [] X.env)).all (fun x => x.1.isSome)
      && decide ((e :: es).length + ([] : List Keyword).length + (if ([] : List Keyword).isEmpty then 0 else 1) < 30)) = true := by rfl)
    (hline : (apos.endLine == cpos.line) = true := by rfl) (hs : starEach (e :: es) X.env = (false, eval e X.env) :: starEach es X.env := by rfl) (hplain : (backTo cpos (starEach es X.env)).any (·.1) = false := by rfl) :
    PE X (.Call (.Attribute o name apos) (e :: es) [] cpos) (tBM X.K T r to t) := by
  intro pins s σ H Q I h
  refine wpAny_Call_method_late hbase hfew hline rfl (thn (ho pins s σ H _ I h) fun v s1 ⟨x, H1, I1, r1, ty, q1⟩ => ?_)
  obtain ⟨h1, h2⟩ := tyV_is I1 r1 ty
  refine ⟨T, id, pa, slot, hty, h1, h2, ?_⟩
  have hA := ha cpos pins s1 σ H1 _ I1 q1
  rw [hs] at hA ⊢
  refine Calls.callWith_builtin (by show (false || (backTo cpos (starEach es X.env)).any (·.1)) = false; rw [hplain] <;> rfl) (Calls.evalArgs_plain ?_)
  exact thn hA fun us s2 ⟨vs, H2, I2, r2, q2⟩ => hm pins s2 σ H2 x vs v us Q I2 r1 r2 q2
end
end L2
namespace L2
open PySem PySem.Spec PyProof.Rows
def MtM (X : Cx) (id : String) (r : V → List V → Hp → VK → Prop) : Prop :=
  ∀ (pins : List (Addr × Obj)) (s : Shared) (σ : St) (H : Hp) (x : V) (xs : List V) (v : Value) (us : List Value) (Q : VK), Inv X pins σ H s → RelV x v → Vals xs us → r x xs H Q →
    wpAny (model X.prog X.w) X.A (call (.builtin id) (v :: us)) (EP X pins σ Q) X.xe s
theorem Vals.one : ∀ {x : V} {us : List Value}, Vals [x] us → ∃ u, us = [u] ∧ RelV x u
  | _, _, .cons r .nil => ⟨_, rfl, r⟩
theorem Vals.two : ∀ {x y : V} {us : List Value}, Vals [x, y] us → ∃ u v, us = [u, v] ∧ RelV x u ∧ RelV y v
  | _, _, _, .cons r (.cons q .nil) => ⟨_, _, rfl, r, q⟩
theorem Vals.eraseIdx : ∀ {xs : List V} {us : List Value} (i : Nat), Vals xs us → Vals (xs.eraseIdx i) (us.eraseIdx i)
  | _, _, _, .nil => .nil
  | _, _, 0, .cons _ t => t
  | _, _, i + 1, .cons r t => .cons r (Vals.eraseIdx i t)
theorem len_erase {α : Type} : ∀ (l : List α) (i : Nat), (l.eraseIdx i).length ≤ l.length
  | [], _ => Nat.le_refl _
  | _ :: _, 0 => Nat.le_succ _
  | _ :: r, i + 1 => Nat.succ_le_succ (len_erase r i)
section
variable {X : Cx} {pins : List (Addr × Obj)} {σ : St} {H : Hp} {s : Shared} {l b : Addr} {xs ys zs : List V}
theorem Inv.lset {its its' : List Value} {n : Nat} {f : Array Value → Array Value} {t' : Nat} (I : Inv X pins σ H s) (hH : H l = some (.lst xs))
    (e : s.heap.get? l = some { cls := .type "list", data := .seq its.toArray n }) (hf : f its.toArray = its'.toArray) (hv : Vals ys its') (hz : ys.length ≤ sizeLine) :
    Inv X pins σ (upd H l (.lst ys)) { s with heap := s.heap.update l (Obj.mapSeq f), toks := t' } := by
  have q := PySem.IsL.update e f
  rw [hf] at q
  refine I.write (x := l) (e := l) (by rw [hH]; exact trivial) (.inl rfl) (fun b' u hb hu => (Heap.get?_update_other s.heap (Obj.mapSeq f) (Ne.symm hb)).trans hu) ⟨_, q⟩ ?_
  exact ⟨hz, its', _, hv, q⟩
theorem Inv.lnew {its : List Value} {t' : Nat} (I : Inv X pins σ H s) (hv : Vals ys its) (hz : ys.length ≤ sizeLine) :
    Inv X pins σ (upd H s.heap.objs.size (.lst ys)) { s with heap := s.heap.push { cls := .type "list", data := .seq its.toArray }, toks := t' } :=
  I.laid (fun _ _ q => Heap.get?_push_of_some _ q) (Nat.le_refl _) ⟨hz, its, 0, hv, Heap.get?_push_size _ rfl⟩
theorem Inv.fresh (I : Inv X pins σ H s) : H s.heap.objs.size = none := I.hok.fresh (Nat.le_refl _)
theorem Inv.lstM (I : Inv X pins σ H s) (hH : H l = some (.lst xs)) : xs.length ≤ sizeLine ∧ ∃ (its : List Value) (n : Nat), Vals xs its ∧ xs.length = its.length ∧ s.heap.get? l = some { cls := .type "list", data := .seq its.toArray n } := by
  obtain ⟨z, its, n, r, e⟩ := I.hok l _ hH
  exact ⟨z, its, n, r, r.length, e⟩
theorem notLongL {n : Nat} (h : n ≤ sizeLine) : Builtin.List.listTooLong n = false := by
  unfold Builtin.List.listTooLong
  exact decide_eq_false (by omega)
end
section
variable {X : Cx}
def rAppend : V → List V → Hp → VK → Prop := fun x vs H Q => ∃ l xs y, x = .ref l ∧ vs = [y] ∧ H l = some (.lst xs) ∧ xs.length < sizeLine ∧ Q .non (upd H l (.lst (xs ++ [y])))
theorem mt_append : MtM X "list.append" rAppend := by
  intro pins s σ H x vs v us Q I rx rv h
  obtain ⟨l, xs, y, rfl, rfl, hH, hz, q⟩ := h
  cases rx
  obtain ⟨u, rfl, ru⟩ := rv.one
  obtain ⟨z, its, n, r, hl, e⟩ := I.lstM hH
  refine call_meets F.slot_list_append ⟨_, e, rfl⟩ F.entry_list_append (F.args_list_append_2 _ _) (PySem.list_append l its.toArray n u (by rw [List.size_toArray]; omega)) ⟨e, ?_⟩
  refine ⟨.non, _, I.lset (its' := its ++ [u]) hH e (by simp) (r.append (.cons ru .nil)) ?_, rfl, q⟩
  rw [List.length_append, List.length_singleton]
  omega
def rExtend : V → List V → Hp → VK → Prop := fun x vs H Q => ∃ l b xs zs, x = .ref l ∧ vs = [.ref b] ∧ H l = some (.lst xs) ∧ H b = some (.lst zs) ∧ xs.length + zs.length ≤ sizeLine ∧ Q .non (upd H l (.lst (xs ++ zs)))
theorem mt_extend : MtM X "list.extend" rExtend := by
  intro pins s σ H x vs v us Q I rx rv h
  obtain ⟨l, b, xs, zs, rfl, rfl, hH, hB, hz, q⟩ := h
  cases rx
  obtain ⟨u, rfl, ru⟩ := rv.one
  cases ru
  obtain ⟨z, its, n, r, hl, e⟩ := I.lstM hH
  obtain ⟨z2, its2, n2, r2, hl2, e2⟩ := I.lstM hB
  have hsz : its.toArray.size + its2.toArray.size ≤ sizeLine := by rw [List.size_toArray, List.size_toArray]; omega
  have hlong : ¬ (!its.toArray.isEmpty && Builtin.List.listTooLong (its.toArray.size + its2.toArray.size)) = true := by
    rw [notLongL hsz, Bool.and_false]
    exact Bool.false_ne_true
  refine call_meets F.slot_list_extend ⟨_, e, rfl⟩ F.entry_list_extend (F.args_list_extend_2 _ _)
    (AutoSeq1.list_extend_list_list_0 l its.toArray n b its2.toArray n2 hlong (by rw [List.size_toArray]; omega) (by omega)) ⟨e, e2, ?_⟩
  refine ⟨.non, _, I.lset (its' := its ++ its2) hH e (by simp) (r.append r2) ?_, rfl, q⟩
  rw [List.length_append]
  omega
def rPopAt : V → List V → Hp → VK → Prop := fun x vs H Q => ∃ l xs i k y, x = .ref l ∧ vs = [.int i] ∧ H l = some (.lst xs) ∧ -(2 ^ 63) ≤ i ∧ i < 2 ^ 63 ∧ seqIndex? i xs.length = some k ∧ xs[k]? = some y ∧ Q y (upd H l (.lst (xs.eraseIdx k)))
theorem mt_popAt : MtM X "list.pop" rPopAt := by
  intro pins s σ H x vs v us Q I rx rv h
  obtain ⟨l, xs, i, k, y, rfl, rfl, hH, h1, h2, hk, hy, q⟩ := h
  cases rx
  obtain ⟨u, rfl, ru⟩ := rv.one
  obtain ⟨t, rfl⟩ := ru
  obtain ⟨z, its, n, r, hl, e⟩ := I.lstM hH
  obtain ⟨w, hw, rw'⟩ := r.get hy
  refine call_meets F.slot_list_pop ⟨_, e, rfl⟩ F.entry_list_pop (F.args_list_pop_2 _ _)
    (MeetsSeq.list_pop_at l its.toArray n i t k w (fitsIndex_both h1 h2) (by rw [List.size_toArray, ← hl]; exact hk) (by rw [← Array.getElem?_toList]; exact hw) (by rw [List.size_toArray]; omega)) ⟨e, ?_⟩
  refine ⟨y, _, I.lset (its' := its.eraseIdx k) hH e ?_ (r.eraseIdx k) ?_, rw', q⟩
  · show its.toArray.eraseIdxIfInBounds k = (its.eraseIdx k).toArray
    rw [List.eraseIdxIfInBounds_toArray]
  · have := len_erase xs k
    omega
end
end L2
namespace Att
open PySem PySem.W PySem.Calls PyProof.Rows
theorem ints_of_wellAll {P : Params} {h : Heap} : ∀ (ns : List Int) (vs : List Value), WellAll P h vs (ns.map WData.int) → IntsAre vs ns := by
  intro ns
  induction ns with
  | nil =>
    intro vs w
    rw [List.map_nil] at w
    cases w
    exact .nil
  | cons n ns ih =>
    intro vs w
    rw [List.map_cons] at w
    cases w with
    | cons a b =>
      cases a
      exact .cons _ _ (ih _ b)
theorem script_of {l : OpenLaw} {n : Nat} (hn : l.most = some n) {P : Params} {h : Heap} {args : List WData} {vals : List Value}
    (hpre : l.row.toRowW.claim.pre args = true) (hwl : WellAll P h vals args) :
    ∃ a vs ns, vals = [Value.ref a] ∧ args = [WData.list (ns.map WData.int)] ∧ h.get? a = some { cls := .type "list", data := .seq vs.toArray } ∧ IntsAre vs ns ∧ ns.length ≤ n := by
  have hsh : WShape.hasAll [] args [.list .int] = true := (pre_splitW hpre).1
  have hc : l.pre.holds [] { args := args } = true := (pre_splitW hpre).2
  obtain ⟨d, r, rfl, h1, h2⟩ := hasAllW_cons hsh
  obtain rfl := hasAllW_nil h2
  obtain ⟨xs, rfl, h3⟩ := hasW_list h1
  obtain ⟨ns, rfl⟩ := items_int h3
  have hlen : ns.length ≤ n := by
    unfold OpenLaw.pre at hc
    have h4 : (WTm.not (.lt (.lit (.int (n : Int))) (.len (.arg 0)))).holds [] { args := [.list (ns.map .int)] } = true := by
      have h4 := (holds_andW hc).1
      rw [hn] at h4
      exact h4
    have h5 := condW_of h4 (w_not (w_lt w_lit (w_len_list (w_arg rfl))))
    rw [List.length_map] at h5
    refine Nat.le_of_not_lt fun q => ?_
    have q' : (n : Int) < ((ns.length : Nat) : Int) := by omega
    first
      | (rw [decide_eq_true q'] at h5; exact absurd h5 (by decide))
      | (simp at h5; omega)
  cases hwl with
  | cons w1 w2 =>
    cases w2
    cases w1 with
    | list ho hall => exact ⟨_, _, ns, rfl, rfl, ho, ints_of_wellAll ns _ hall, hlen⟩
theorem post_true (l : OpenLaw) (args : List WData) : l.row.toRowW.claim.post args (.bool true) args = true :=
  postW_of (r := l.row.toRowW) (X := (true == true))
    (show WShape.has [] (.bool true) .bool = true by first | rfl | decide | simp [WShape.has, WShape.arms, WShape.armsAll])
    (show (WTm.eq .res (.lit (.bool true))).value [] { args := args, res := some (.bool true), after := args } = some (.bool (true == true)) from w_eq_bool (w_res rfl) w_lit) rfl
theorem attach_call {l : OpenLaw} {n : Nat} {q : Program} {loose : List Str} {XP : (Str → Option Value) → Heap → Prop} {YP : World → Heap → Prop} {d : DefRec}
    (hn : l.most = some n) (hdf : d.params.defaults = [])
    (call : ∀ (w : World) (s₀ s₁ : Shared) (mg mb : Str → Option Value) (fa : Addr) (o : Obj) (pm cd doc : Value) (a : Addr) (vs : List Value) (ns : List Int),
      Ground q loose [] XP w s₀ mg mb s₁.heap → YP w s₁.heap →
      s₁.heap.get? fa = some o → o.data = .func (docDef d.name d.params d.body d.scope pm cd doc) → s₁.heap.CodeRec cd d.name → mg d.name = some (.ref fa) →
      s₁.heap.get? a = some { cls := .type "list", data := .seq vs.toArray } → IntsAre vs ns → ns.length ≤ n → s₁.gens = #[] →
      codeAny (model l.prog w) callerA (.call (.ref fa) ⟨[.ref a], []⟩) (fun r s' => r = .ok (.ret (.bool true)) ∧ OldK s₁.heap s'.heap ∧ s'.os = s₁.os ∧ AllBare s'.gens) s₁) :
    WalkO q loose XP YP l.row.toRowW d [] (fun f vs => PySem.call f vs) := by
  intro w s₀ s₁ mg mb G Y fa o pm cd doc dV kV ho hd hcd hD hmg hg args vals as hpre hlay hrd hwl hlo
  obtain rfl : dV = .none := Dflts.none hD hdf
  obtain rfl : kV = .none := Dflts.noKw hD
  obtain ⟨a, vs, ns, rfl, rfl, hobj, hints, hlen⟩ := script_of hn hpre hwl
  refine enter_call (codeAny_mono (call w s₀ s₁ mg mb fa o pm cd doc a vs ns G Y ho (fd_plain hd) hcd hmg hobj hints hlen hg) fun r s' hq => ?_)
  obtain ⟨rfl, h2, h3, h4⟩ := hq
  exact ⟨.inl ⟨.bool true, .bool true, [], rfl, fun _ => rfl, .bool true, post_true l _, fun _ => ⟨List.Pairwise.nil, fun _ hm => (nomatch hm)⟩⟩, h2, h3, h4⟩
end Att
namespace L2
open PySem PySem.Spec PyProof.Rows
theorem vals_ints : ∀ {vs : List Value} {ns : List Int}, IntsAre vs ns → Vals (ns.map V.int) vs
  | _, _, .nil => .nil
  | _, _, .cons n t h => .cons ⟨t, rfl⟩ (vals_ints h)
def Only (H : Hp) : Prop := ∀ b, H b = none ∨ ∃ o xs, H b = some (.frz o (.lst xs))
theorem law_call {P : Program} {w : World} {K : PySem.W.Frag} {mg mb : Str → Option Value} {CX : CXT} {k : Nat} {fa a : Addr} {fd : FuncData} {x : Str} {sp : Sp} {s₁ : Shared} {vs : List Value} {ns : List Int}
    (KX : K.In s₁.heap) (hns : s₁.heap.Ns mainGlobals mg) (hb : s₁.heap.Ns builtinsNs mb) (hbb : ∀ x : Str, x ≠ "__name__" → mb x = bootBuiltins x) (hlim : s₁.heap.NoLimit) (hg : s₁.gens = #[])
    (ha : s₁.heap.get? a = some { cls := .type "list", data := .seq vs.toArray }) (hi : IntsAre vs ns) (hl : ns.length ≤ sizeLine) (hr : Room k callerA)
    (F : ∀ base : Heap, K.In base → base.Ns mainGlobals mg → FnOk P w K mg base CX k fa fd [x] sp) (hbind : ∀ (s : Shared) (u : Value), BindsTo s fd ⟨[u], []⟩ [(x, u)])
    (hsp : ∀ H : Hp, Only H → SqL K H a (ns.map V.int) → sp [.ref a] H (fun v _ => v = .bl true) fun _ _ _ => False)
    (hCX : ∀ H e s', CX [] H s₁ (fun _ _ _ => False) e s' → False) :
    codeAny (model P w) callerA (.call (.ref fa) ⟨[.ref a], []⟩) (fun r s' => r = .ok (.ret (.bool true)) ∧ OldK s₁.heap s'.heap ∧ s'.os = s₁.os ∧ AllBare s'.gens) s₁ := by
  have rv := vals_ints hi
  have lenV := hi.length
  have core : ∀ H : Hp, Only H → SqL K H a (ns.map V.int) → HOk P w H s₁.heap → (∀ b, H b ≠ none → b = a) → (H a ≠ none → K.lookup a = none) →
      codeAny (model P w) callerA (.call (.ref fa) ⟨[.ref a], []⟩) (fun r s' => r = .ok (.ret (.bool true)) ∧ OldK s₁.heap s'.heap ∧ s'.os = s₁.os ∧ AllBare s'.gens) s₁ := by
    intro H hO hS hok hA hK
    have base_of : ∀ {b : Addr} {o : Obj}, s₁.heap.get? b = some o → H b = none → (hidT s₁.heap H).get? b = some o := fun e n => hidT_get e n
    have noA : ∀ {b : Addr} {o : Obj} {es : Array DictEntry} {ep : Nat}, s₁.heap.get? b = some o → o.data = .dict es ep → H b = none := fun {b o es ep} e d => by
      cases q : H b with
      | none => rfl
      | some u =>
        have e' : b = a := hA b (by rw [q]; simp)
        subst e'
        rw [ha] at e; cases e
        have d' : Data.seq vs.toArray _ = Data.dict es ep := d
        cases d'
    have nsK : ∀ {b : Addr} {m : Str → Option Value}, s₁.heap.Ns b m → (hidT s₁.heap H).Ns b m := fun {b m} ⟨o, es, ep, e, d, r⟩ => ⟨o, es, ep, base_of e (noA e d), d, r⟩
    have hKb : K.In (hidT s₁.heap H) := fun b o e => base_of (KX b o e) (by
      cases q : H b with
      | none => rfl
      | some u =>
        have e' : b = a := hA b (by rw [q]; simp)
        subst e'
        rw [hK (by rw [q]; simp)] at e; cases e)
    have hM : Mod K mg (hidT s₁.heap H) := ⟨hKb, nsK hns, ⟨mb, nsK hb, hbb⟩, let ⟨mc, h1, h2⟩ := hlim; ⟨mc, nsK h1, h2⟩⟩
    have e0 : Env0 P w K mg (hidT s₁.heap H) callerA [] s₁ H := ⟨rfl, hM, fun b o e => of_hidT e, Nat.le_of_eq (hidT_size _ _), trivial, fun b hb => absurd (show b ∈ ([] : List Addr) from hb) (by simp), hok, .of_eq hg⟩
    refine codeAny_mono ((F _ hKb (nsK hns)).run callerA [] s₁ H ⟨[.ref a], []⟩ [.ref a] [.ref a] _ _ hr e0 (hbind s₁ (.ref a)) (.cons rfl .nil) (hsp H hO hS)) fun r s' h => ?_
    cases r with
    | error e => exact (hCX H e s' h).elim
    | ok fl =>
      cases fl with
      | next => exact False.elim h
      | brk => exact False.elim h
      | cont => exact False.elim h
      | ret u =>
        obtain ⟨v, H', os, bare, un, hok', r', q⟩ := h
        have q' : v = .bl true := q
        subst q'
        obtain rfl : u = Value.bool true := r'
        refine ⟨rfl, OldK.of_keep fun b o e => ?_, os, bare⟩
        cases q : H b with
        | none => exact un.keep b o e q (by intro z; exact absurd (show b ∈ ([] : List Addr) from z) (by simp)) (by simp)
        | some u =>
          rcases hO b with z | ⟨ob, xs, z⟩
          · rw [q] at z; cases z
          · have z2 := un.frzs b ob _ z
            obtain ⟨e1, _⟩ := hok b _ z
            obtain ⟨e2, _⟩ := hok' b _ z2
            rw [e] at e1; cases e1
            exact e2
  cases hk : K.lookup a with
  | some o =>
    have e := KX a o hk
    rw [ha] at e
    cases e
    refine core (fun _ => none) (fun _ => .inl rfl) (.inr ⟨_, vs.toArray, _, hk, rfl, rfl, rfl, by rw [List.size_toArray, lenV]; exact hl, by simpa using rv⟩) (fun b u z => by have z' : (none : Option HO) = some u := z; cases z') (fun b z => absurd rfl z) fun z => absurd rfl z
  | none =>
    refine core (fun b => if b = a then some (.frz { cls := .type "list", data := .seq vs.toArray } (.lst (ns.map V.int))) else none) (fun b => ?_) (.inl (.inr ⟨{ cls := .type "list", data := .seq vs.toArray }, if_pos rfl⟩)) (fun b u z => ?_) (fun b z => ?_) fun _ => hk
    · by_cases hb : b = a
      · exact .inr ⟨_, _, if_pos hb⟩
      · exact .inl (if_neg hb)
    · by_cases hb : b = a
      · have z' := (if_pos hb).symm.trans z
        cases z'
        subst hb
        exact ⟨ha, by rw [List.length_map]; exact hl, vs, _, rv, ha⟩
      · have z' := (if_neg hb).symm.trans z
        cases z'
    · by_cases hb : b = a
      · exact hb
      · exact absurd (if_neg hb) z
end L2
namespace L2
open PySem PySem.Spec PyProof.Rows
theorem walk_of {l : PySem.W.OpenLaw} {n k : Nat} {q : Program} {loose : List Str} {XP : (Str → Option Value) → Heap → Prop} {YP : World → Heap → Prop} {d : DefRec} {K : Params → PySem.W.Frag} {CX : World → CXT} {sp : World → Sp} {x : Str}
    (hn : l.most = some n) (hn2 : n ≤ sizeLine) (hdf : d.params.defaults = []) (hr : Room k callerA)
    (hY : ∀ (w : World) (h : Heap), YP w h → (K w.params).In h)
    (F : ∀ (w : World) (mg : Str → Option Value) (fa : Addr) (h : Heap), (K w.params).In h → h.Ns mainGlobals mg → mg d.name = some (.ref fa) →
      ∃ fd : FuncData, (∀ (s : Shared) (u : Value), BindsTo s fd ⟨[u], []⟩ [(x, u)]) ∧
        ∀ base : Heap, (K w.params).In base → base.Ns mainGlobals mg → FnOk l.prog w (K w.params) mg base (CX w) k fa fd [x] (sp w))
    (hsp : ∀ (w : World) (H : Hp) (a : Addr) (ns : List Int), ns.length ≤ n → Only H → SqL (K w.params) H a (ns.map V.int) → sp w [.ref a] H (fun v _ => v = .bl true) fun _ _ _ => False)
    (hCX : ∀ (w : World) (H : Hp) (s : Shared) (e : Value) (s' : Shared), CX w [] H s (fun _ _ _ => False) e s' → False) :
    PySem.W.WalkO q loose XP YP l.row.toRowW d [] (fun f vs => PySem.call f vs) := by
  refine Att.attach_call hn hdf fun w s₀ s₁ mg mb fa o pm cd doc a vs ns G Y ho hd hcd hmg hobj hints hlen hg => ?_
  have KX := hY w _ Y
  obtain ⟨fd, hb, hF⟩ := F w mg fa _ KX G.T.g hmg
  exact law_call KX G.T.g G.T.b G.T.builtins G.T.nolimit hg hobj hints (Nat.le_trans hlen hn2) hr hF hb (fun H hO hS => hsp w H a ns hlen hO hS) fun H e s' => hCX w H s₁ e s'
end L2
namespace L2
open PySem PySem.Spec PyProof.Rows
def defArgs (s : Stmt) : Arguments := match s with
  | .FunctionDef _ a _ _ _ _ _ _ _ _ => a
  | _ => { posonlyargs := [], args := [], vararg := none, kwonlyargs := [], kw_defaults := [], kwarg := none, defaults := [] }
def defBody (s : Stmt) : List Stmt := match s with
  | .FunctionDef _ _ b _ _ _ _ _ _ _ => b
  | _ => []
def defScope (s : Stmt) : Scope := match s with
  | .FunctionDef _ _ _ _ _ _ sc _ _ _ => sc
  | _ => { kind := .function, names := [], isGenerator := false, isCoroutine := false }
abbrev CX0 : CXT := fun _ _ _ _ _ _ => False
abbrev E0 : XK := fun _ _ _ => False
theorem pass0 {X : Cx} : Passes CX0 X E0 := fun _ _ _ _ _ _ _ h => h.elim
structure Fun (K : PySem.W.Frag) (x qual : Str) (st : Stmt) (f : Addr) (fd : FuncData) : Prop where
  ex : ∃ (oc : Value) (od : Option Addr) (kV doc pm : Value) (an : Option Addr) (cdv ct : Value) (osl : Array (Option Value)),
    fd = PySem.W.fnOf x qual (defArgs st) (defBody st) (defScope st) .none kV doc pm an cdv ct ∧ K.lookup f = some ⟨oc, od, .func fd, osl⟩ ∧ PySem.W.codeIn K cdv qual = true
  kp : PySem.W.keepIn K (.ref f) = true
section
variable {P : Program} {w : World} {K : PySem.W.Frag} {mg : Str → Option Value} {base : Heap}
theorem Fun.binds {x qual : Str} {st : Stmt} {f : Addr} {fd : FuncData} {ps : List Str} (F : Fun K x qual st f fd)
    (h : ∀ (kV doc pm : Value) (an : Option Addr) (cdv ct : Value) (us : List Value), us.length = ps.length → bindArgs (PySem.W.fnOf x qual (defArgs st) (defBody st) (defScope st) .none kV doc pm an cdv ct) ⟨us, []⟩ = pure (ps.zip us)) : Binds K fd ps [] := by
  obtain ⟨oc, od, kV, doc, pm, an, cdv, ct, osl, rfl, lk, hcd⟩ := F.ex
  exact .all (h kV doc pm an cdv ct)
theorem fun_mk {x qual : Str} {st : Stmt} {f : Addr} {oc : Value} {od an : Option Addr} {osl : Array (Option Value)} {kV doc pm cdv ct : Value} (l : K.lookup f = some ⟨oc, od, .func (PySem.W.fnOf x qual (defArgs st) (defBody st) (defScope st) .none kV doc pm an cdv ct), osl⟩)
    (c : PySem.W.codeIn K cdv qual = true) (k : PySem.W.keepIn K (.ref f) = true) : Fun K x qual st f (PySem.W.fnOf x qual (defArgs st) (defBody st) (defScope st) .none kV doc pm an cdv ct) := ⟨⟨oc, od, kV, doc, pm, an, cdv, ct, osl, rfl, l, c⟩, k⟩
end
section
variable {X : Cx}
theorem pv (i : Nat) {x : Str} {pos : Pos} (hN : X.N[i]? = some x := by rfl) (hv : Vis X.env.scope x := by first | exact Or.inl rfl | exact Or.inr (Or.inl rfl) | exact Or.inr (Or.inr rfl)) (hd : (x == ("__debug__" : Str)) = false := by decide)
    (hcd : (x == ("__classdict__" : Str)) = false := by decide) : PE X (.Name x pos) (tVar i) := pe_var hN hv hd hcd
end
theorem iteF {A B : Prop} (h : B) : if false = true then A else B := by
  rw [if_neg Bool.false_ne_true]
  exact h
theorem iteT {A B : Prop} (h : A) : if true = true then A else B := by
  rw [if_pos rfl]
  exact h
def Same (H H' : Hp) : Prop := ∀ b o, H b = some o → H' b = some o
theorem Same.refl (H : Hp) : Same H H := fun _ _ h => h
theorem Same.trans {H H1 H2 : Hp} (a : Same H H1) (b : Same H1 H2) : Same H H2 := fun c o h => b c o (a c o h)
theorem Same.free {H H' : Hp} (e : Same H H') {l : Addr} (h : H' l = Option.none) : H l = Option.none := by
  cases q : H l with
  | none => rfl
  | some o =>
    rw [e l o q] at h
    cases h
theorem Same.seq {K : PySem.W.Frag} {H H' : Hp} {a : Addr} {xs : List V} (e : Same H H') (h : SqL K H a xs) : SqL K H' a xs := by
  rcases h with (h | ⟨o, h⟩) | h
  · exact .inl (.inl (e _ _ h))
  · exact .inl (.inr ⟨o, e _ _ h⟩)
  · exact .inr h
end L2
namespace L2
open PySem PySem.Spec PyProof.Rows
abbrev NoX : Value → Shared → Prop := fun _ _ => False
theorem noX {α : Type} {M : Model} {A : Around} {m : Sem α} {Q : α → Shared → Prop} {E : Value → Shared → Prop} {s : Shared} (h : wpAny M A m Q NoX s) : wpAny M A m Q E s :=
  wpAny_mono h (fun _ _ q => q) fun _ _ z => z.elim
abbrev lcTests (ifs : List Expr) (env : Env) : Sem Bool :=
  forIn ifs true fun c r => if r = true then do let ok ← isTrue c env (eval c env); pure (ForInStep.yield ok) else pure (ForInStep.yield r)
theorem lcLoop {P : Program} {w : World} {A : Around} {R : Result → Shared → Prop} {s : Shared} {elt tg iter : Expr} {ifs : List Expr} {sc : Scope} {pos : Pos} {it acc : Value} {env : Env} (I : Nat → Shared → Prop)
    (turn : ∀ n s, I n s → wpAny (model P w) A (pyNext it) (fun r s1 => match r with
      | none => R (.ok .next) s1
      | some v => wpAny (model P w) A (letOwnedTupleGo tg it v) (fun _ s2 => wpAny (model P w) A (assign tg env v) (fun _ s3 =>
          wpAny (model P w) A (lcTests ifs env) (fun ok s4 => if ok = true then wpAny (model P w) A (eval elt env) (fun x s5 =>
              wpAny (model P w) A (call (.builtin "list.append") [acc, x]) (fun _ s6 => ∃ m, m < n ∧ I m s6) NoX s5) NoX s4
            else ∃ m, m < n ∧ I m s4) NoX s3) NoX s2) NoX s1) NoX s)
    (n : Nat) (h : I n s) : codeAny (model P w) A (.compLoop (.ListComp elt [⟨tg, iter, ifs, 0⟩] sc pos) 0 it acc env) R s := by
  refine codeAny_loop rfl I (fun n s hI => ?_) n h
  show wpAny (model P w) A ((compTurn (.ListComp elt [⟨tg, iter, ifs, 0⟩] sc pos) 0 it acc env).onRaise (fun x => do noteFrame x env; theTreesLotGoes x)) _ _ s
  refine wpAny_noted (noX ?_)
  rw [compTurn_list]
  refine wpAny_bind (wpAny_standAt (wpAny_bind (thn (turn n s hI) fun r s1 h1 => ?_)))
  cases r with
  | none => exact wpAny_pure h1
  | some v =>
    refine wpAny_bind (thn h1 fun _ s2 h2 => wpAny_bind (thn h2 fun _ s3 h3 => wpAny_bind (thn h3 fun ok s4 h4 => ?_)))
    cases ok with
    | false => exact wpAny_pure ⟨rfl, h4⟩
    | true => exact wpAny_bind (wpAny_bind (thn h4 fun x s5 h5 => wpAny_bind (thn h5 fun _ s6 h6 => wpAny_pure (wpAny_pure ⟨rfl, h6⟩))))
theorem cf_some : ∀ (names : List (Str × NameKind)) (n : Nat) (acc : List (Str × Addr)) (y : Str), (∃ c, acc.lookup y = some c) → ∃ c, (cellsFrom n names acc).lookup y = some c
  | [], _, _, _, h => h
  | (name, kind) :: r, n, acc, y, ⟨c, h⟩ => by
    unfold cellsFrom
    split
    · refine cf_some r _ _ y ?_
      rw [List.lookup_cons]
      split
      · exact ⟨_, rfl⟩
      · exact ⟨c, h⟩
    · exact cf_some r _ _ y ⟨c, h⟩
theorem cf_has : ∀ (names : List (Str × NameKind)) (n : Nat) (acc : List (Str × Addr)) (y : Str), (y, NameKind.cell) ∈ names → ∃ c, (cellsFrom n names acc).lookup y = some c
  | [], _, _, _, h => nomatch h
  | (name, kind) :: r, n, acc, y, h => by
    unfold cellsFrom
    rcases List.mem_cons.mp h with e | h
    · cases e
      rw [if_pos (by decide)]
      exact cf_some r _ _ _ ⟨n, by rw [List.lookup_cons_self]⟩
    · split
      · exact cf_has r _ _ y h
      · exact cf_has r _ _ y h
theorem cf_lookup : ∀ (names : List (Str × NameKind)) (n : Nat) (acc : List (Str × Addr)) (y : Str) (c : Addr), (cellsFrom n names acc).lookup y = some c → acc.lookup y = some c ∨ (n ≤ c ∧ (y, NameKind.cell) ∈ names)
  | [], _, _, _, _, h => .inl h
  | (name, kind) :: r, n, acc, y, c, h => by
    unfold cellsFrom at h
    split at h
    · rename_i hk
      rcases cf_lookup r _ _ y c h with q | ⟨q1, q2⟩
      · rw [List.lookup_cons] at q
        split at q
        · rename_i hy
          cases q
          rw [beq_iff_eq.mp hy, ← beq_iff_eq.mp hk]
          exact .inr ⟨Nat.le_refl _, .head _⟩
        · exact .inl q
      · exact .inr ⟨Nat.le_of_succ_le q1, .tail _ q2⟩
    · rcases cf_lookup r _ _ y c h with q | ⟨q1, q2⟩
      · exact .inl q
      · exact .inr ⟨q1, .tail _ q2⟩
theorem cf_old : ∀ (names : List (Str × NameKind)) (n : Nat) (acc : List (Str × Addr)) (y : Str), (y, NameKind.cell) ∉ names → (cellsFrom n names acc).lookup y = acc.lookup y
  | [], _, _, _, _ => rfl
  | (name, kind) :: r, n, acc, y, h => by
    unfold cellsFrom
    have hr : (y, NameKind.cell) ∉ r := fun z => h (.tail _ z)
    split
    · rename_i hk
      rw [cf_old r _ _ y hr, List.lookup_cons]
      split
      · rename_i hy
        exact absurd (show (y, NameKind.cell) ∈ (name, kind) :: r by rw [beq_iff_eq.mp hy, ← beq_iff_eq.mp hk]; exact .head _) h
      · rfl
    · exact cf_old r _ _ y hr
theorem cf_inj : ∀ (names : List (Str × NameKind)) (n : Nat) (acc : List (Str × Addr)), (∀ y c, acc.lookup y = some c → c < n) → (∀ y z c, acc.lookup y = some c → acc.lookup z = some c → y = z) →
    ∀ y z c, (cellsFrom n names acc).lookup y = some c → (cellsFrom n names acc).lookup z = some c → y = z
  | [], _, _, _, h => h
  | (name, kind) :: r, n, acc, h1, h2 => by
    unfold cellsFrom
    split
    · refine cf_inj r _ _ (fun y c e => ?_) fun y z c e e' => ?_
      · rw [List.lookup_cons] at e
        split at e
        · cases e; exact Nat.lt_succ_self _
        · exact Nat.lt_succ_of_lt (h1 y c e)
      · rw [List.lookup_cons] at e e'
        split at e
        · rename_i hy
          cases e
          split at e'
          · rename_i hz
            rw [beq_iff_eq.mp hy, beq_iff_eq.mp hz]
          · exact absurd (h1 z _ e') (Nat.lt_irrefl _)
        · split at e'
          · cases e'
            exact absurd (h1 y _ e) (Nat.lt_irrefl _)
          · exact h2 y z c e e'
    · exact cf_inj r _ _ h1 h2
theorem cf_cell : ∀ (names : List (Str × NameKind)) (h : Heap) (acc : List (Str × Addr)) (y : Str) (c : Addr), (cellsFrom h.objs.size names acc).lookup y = some c → acc.lookup y = some c ∨ (pushCells h names).IsCell c none
  | [], _, _, _, _, e => .inl e
  | (name, kind) :: r, h, acc, y, c, e => by
    unfold cellsFrom at e
    unfold pushCells
    split
    · rename_i hk
      rw [if_pos hk] at e
      rw [show h.objs.size + 1 = (h.push { cls := .type "cell", data := .cell none }).objs.size from (Heap.size_push ..).symm] at e
      rcases cf_cell r _ _ y c e with q | q
      · rw [List.lookup_cons] at q
        split at q
        · cases q
          exact .inr (Heap.IsCell.keeps ⟨_, Heap.get?_push_size _ rfl, rfl⟩ (pushCells_keeps r _))
        · exact .inl q
      · exact .inr q
    · rename_i hk
      rw [if_neg hk] at e
      exact cf_cell r _ _ y c e
theorem newEnv_cells {M : Model} {A : Around} {E : Value → Shared → Prop} {s : Shared} {scope : Scope} {globals : Addr} {cl : List (Str × Addr)} {qual : Str} {func : Option Addr} {code : Value} {env : Env} {builtins : Addr} {Q : Env → Shared → Prop}
    (hQ : Q (newEnv scope s.heap.objs.size globals (cellsFrom (s.heap.objs.size + 1) scope.names cl) qual func code (some env) builtins) { s with heap := pushCells (s.heap.push { cls := .type "dict", data := .dict #[] }) scope.names }) :
    wpAny M A (newFunctionEnv scope globals cl [] qual func code (some env) builtins) Q E s := by
  simp only [newFunctionEnv, Option.isSome_some, if_true]
  refine wpAny_bind (wpAny_alloc ?_)
  refine wpAny_bind (wpAny_layCells _ (fun name kind cells => by cases hkc : kind == NameKind.cell <;> simp [hkc]) _ _ _ _ ?_)
  rw [show ({ s with heap := s.heap.push { cls := .type "dict", data := .dict #[] } } : Shared).heap.objs.size = s.heap.objs.size + 1 from Heap.size_push ..]
  rw [List.forIn_nil]
  exact wpAny_bind (wpAny_pure (wpAny_pure hQ))
def cxLc (X : Cx) (own : List Str) (fr : List Nat) (sc : Scope) (cl : List (Str × Addr)) (C : Addr) (s : Shared) (H : Hp) (ex : List Addr) (pn : List (Addr × Obj)) : Cx where
  prog := X.prog
  w := X.w
  K := X.K
  mg := X.mg
  base := X.base
  A := X.A
  N := own ++ fr.map fun j => X.N.getD j ""
  s₀ := s
  H₀ := H
  env := compEnvC sc (cellsFrom (C + 1) sc.names cl) C X.env
  outer := X.stack
  stack := X.stack
  ex := ex
  fn := fun y => (cl.lookup y).isNone
  calm := X.calm
  pn := pn
  xe := NoX
def lcStart (own : List Str) (fr : List Nat) (σ : St) : St := own.map (fun _ => none) ++ fr.map fun j => (σ[j]?).join
structure LcScope (X : Cx) (sc : Scope) (cl : List (Str × Addr)) (fr : List Nat) : Prop where
  clos : closureFor sc X.env = pure cl
  kind : sc.kind = .function
  cells : ∀ y, (y, NameKind.cell) ∈ sc.names → cl.lookup y = none
  names : ∀ y ∈ sc.names, y.2 = .local → sc.names.lookup y.1 = some .local
  sub : ∀ y c, cl.lookup y = some c → X.env.cells.lookup y = some c
  has : ∀ y, ((relabel sc X.env).names.lookup y = some .cell ∨ (relabel sc X.env).names.lookup y = some .free) → (∃ c, cl.lookup y = some c) ∨ (y, NameKind.cell) ∈ sc.names
  frN : ∀ j ∈ fr, ∃ y, X.N[j]? = some y ∧ ((relabel sc X.env).names.lookup y = some .cell ∨ (relabel sc X.env).names.lookup y = some .free) ∧ Vis X.env.scope y ∧ X.env.scope.names.lookup y ≠ some .local ∧ ∃ c, cl.lookup y = some c
def tLc (wi : TI) (g : TG) (tt : TT) (te : TE) (own : List Str) (fr : List Nat) : TE := fun σ H Q => wi σ H fun J H1 => ∀ acc, H1 acc = none →
  ∃ W : Nat → Nat → List V → St → Hp → Prop, (∃ m, W 0 m [] (lcStart own fr σ) (upd H1 acc (.lst []))) ∧ ∀ i m ys σ1 H2, W i m ys σ1 H2 → H2 acc = some (.lst ys) ∧ ys.length < sizeLine ∧
    ((J.stop i H2 ∧ Q (.ref acc) H2) ∨ (J.go i H2 ∧ ∃ N : List V → St → Hp → Prop, (∀ zs σ2 H3, N zs σ2 H3 → ∃ m', m' < m ∧ W (i + 1) m' zs σ2 H3) ∧
      ∀ x H3, J.yld i H2 x H3 → g x σ1 H3 fun σ2 H4 => tt σ2 H4 fun b H5 => if b = true then te σ2 H5 (fun y H6 => H6 acc = some (.lst ys) ∧ N (ys ++ [y]) σ2 (upd H6 acc (.lst (ys ++ [y])))) else N ys σ2 H5))
theorem getD_of {N : List Str} {j : Nat} {y : Str} (h : N[j]? = some y) : N.getD j "" = y := by rw [List.getD_eq_getElem?_getD, h]; rfl
theorem lcInv {X : Cx} {pins : List (Addr × Obj)} {σ : St} {H : Hp} {s : Shared} {sc : Scope} {cl : List (Str × Addr)} {own : List Str} {fr : List Nat} {fp : List Addr} {h4 : Heap} {tk : Nat}
    (L : LcScope X sc cl fr) (I : Inv X pins σ H s) (hfp : ∀ b ∈ fp, FpOk X pins H b) (hlt : ∀ b ∈ fp, b < s.heap.objs.size) (hns : h4.Ns s.heap.objs.size fun _ => none)
    (kp : ∀ b o, s.heap.get? b = some o → h4.get? b = some o) (ncl : ∀ y c, (cellsFrom (s.heap.objs.size + 1) sc.names cl).lookup y = some c → cl.lookup y = some c ∨ h4.IsCell c none) : Inv (cxLc X own fr sc cl s.heap.objs.size s H fp (X.pn ++ pins)) [] (lcStart own fr σ) H { s with heap := h4, toks := tk } := by
  have noL : ∀ {b : Addr} {o : Obj}, s.heap.get? b = some o → b ≠ s.heap.objs.size := fun e => Nat.ne_of_lt (Heap.lt_size e)
  have hex : ∀ b ∈ (cxLc X own fr sc cl s.heap.objs.size s H fp (X.pn ++ pins)).ex, b ∈ fp := fun b z => z
  have stk : ∀ b, b ≠ X.env.locals → b ∉ X.fs → b ∉ frs X.stack := fun b h1 h2 z => (List.mem_cons.mp (I.stkSub b z)).elim h1 h2
  have cellLt : ∀ y c, cl.lookup y = some c → ∃ v, s.heap.IsCell c v := fun y c e => I.cell y c (L.sub y c e)
  have split : ∀ y c, (cellsFrom (s.heap.objs.size + 1) sc.names cl).lookup y = some c → cl.lookup y = some c ∨ s.heap.objs.size + 1 ≤ c := fun y c e => (cf_lookup _ _ _ y c e).imp id And.left
  refine ⟨⟨I.ok.mod, L.kind, I.ok.glob, I.ok.blt, Nat.le_refl _, cf_inj _ _ _ (fun y c e => by obtain ⟨v, q⟩ := cellLt y c e; exact Nat.lt_succ_of_lt q.lt) (fun y z c h1 h2 => I.ok.inj y z c (L.sub y c h1) (L.sub z c h2)), fun y hy => (L.has y hy).elim (cf_some _ _ _ y) (cf_has _ _ _ y), fun y c hy e => ?_, I.ok.hd, I.ok.frames, .inl rfl,
      fun b hb => ⟨Nat.ne_of_lt (hlt b (hex b hb)), fun y c e => (split y c e).elim (fun q => (hfp b (hex b hb)).2.2.2.2.1 y c (L.sub y c q)) fun q => Nat.ne_of_gt (Nat.lt_of_lt_of_le (hlt b (hex b hb)) (Nat.le_of_succ_le q))⟩, I.bs, Nat.le_trans I.ok.bsz I.sz, fun b o e z => ?_, fun b z => ?_, I.stack, I.stkFree⟩,
    rfl, I.bare, Un.kept kp, ⟨_, hns, fun i y v h1 h2 h3 => ?_⟩, fun y c e => ?_, I.hok.fresh (Nat.le_refl _), fun y c e => (split y c e).elim (fun q => I.freeC y c (L.sub y c q)) fun q => I.hok.fresh (Nat.le_of_succ_le q), fun p hp => ?_, I.hok.kept kp, ?_⟩
  · have hy' : (cl.lookup y).isNone = true := hy
    rcases split y c e with q | q
    · rw [q] at hy'
      cases hy'
    · exact Nat.le_of_succ_le q
  · rcases (hfp b (hex b z)).2.2.2.1 with q | q
    · exact I.ok.noex b o e q
    · exact absurd (Nat.lt_of_lt_of_le (Heap.lt_size (I.ok.bs b o e).1) q) (Nat.lt_irrefl _)
  · exact stk b (hfp b (hex b z)).2.1 (hfp b (hex b z)).2.2.1
  · have h1' : (own ++ fr.map fun j => X.N.getD j "")[i]? = some y := h1
    have h2' : (own.map (fun _ => none) ++ fr.map fun j => (σ[j]?).join)[i]? = some (some v) := h2
    by_cases hi : i < own.length
    · rw [List.getElem?_append_left (by simpa using hi), List.getElem?_map] at h2'
      cases q : own[i]? with
      | none => rw [q] at h2'; cases h2'
      | some z => rw [q] at h2'; cases h2'
    · rw [List.getElem?_append_right (by omega), List.getElem?_map] at h1'
      rw [List.getElem?_append_right (by simpa using hi), List.getElem?_map, List.length_map] at h2'
      cases q : fr[i - own.length]? with
      | none => rw [q] at h1'; cases h1'
      | some j =>
        rw [q] at h1' h2'
        obtain ⟨y', n1, n2, n3, n4, c', e'⟩ := L.frN j (List.mem_of_getElem? q)
        have ey : y' = y := by
          have this : X.N.getD j "" = y := Option.some.inj h1'
          rw [getD_of n1] at this
          exact this
        subst ey
        have ev : σ[j]? = some (some v) := by
          have z : (σ[j]?).join = some v := Option.some.inj h2'
          cases q2 : σ[j]? with
          | none => rw [q2] at z; cases z
          | some o => rw [q2] at z; exact congrArg some z
        obtain ⟨m, _, hl⟩ := I.loc
        obtain ⟨u, r, l⟩ := hl j y' v n1 ev n3
        refine ⟨u, r, .inr ⟨n2, ?_⟩⟩
        rcases l with ⟨k, _⟩ | ⟨_, c, e, z⟩
        · exact absurd k n4
        · have := L.sub y' c' e'
          rw [e] at this
          cases this
          obtain ⟨o, ho, hd⟩ := z
          exact ⟨_, (cf_old _ _ _ y' fun z => by rw [L.cells y' z] at e'; cases e').trans e', o, kp _ o ho, hd⟩
  · rcases ncl y c e with q | q
    · obtain ⟨v, o, ho, hd⟩ := cellLt y c q
      exact ⟨v, o, kp c o ho, hd⟩
    · exact ⟨none, q⟩
  · have hp' : p ∈ X.pn ++ pins := by
      have z : p ∈ (X.pn ++ pins) ++ [] := hp
      simpa using z
    obtain ⟨e, n, ne, nf, d⟩ := I.pin p hp'
    exact ⟨kp _ _ e, n, noL e, stk _ ne nf, d⟩
  · show (own.map (fun _ => (none : Option V)) ++ fr.map fun j => (σ[j]?).join).length = (own ++ fr.map fun j => X.N.getD j "").length
    simp
theorem pe_lc {X : Cx} {elt tg iter : Expr} {ifs : List Expr} {sc : Scope} {cl : List (Str × Addr)} {own : List Str} {fr : List Nat} {pos : Pos} {wi : TI} {g : TG} {tt : TT} {te : TE}
    (L : LcScope X sc cl fr) (hc : X.calm = true) (hi : PI X tg iter wi)
    (hg : ∀ C s H ex pn, PG (cxLc X own fr sc cl C s H ex pn) tg g)
    (ht : ∀ C s H ex pn (pins : List (Addr × Obj)) (s1 : Shared) (σ1 : St) (H1 : Hp) (Q : Bool → Hp → Prop), Inv (cxLc X own fr sc cl C s H ex pn) pins σ1 H1 s1 → tt σ1 H1 Q →
      wpAny (model X.prog X.w) X.A (lcTests ifs (compEnvC sc (cellsFrom (C + 1) sc.names cl) C X.env)) (TP (cxLc X own fr sc cl C s H ex pn) pins σ1 Q) NoX s1)
    (he : ∀ C s H ex pn, PE (cxLc X own fr sc cl C s H ex pn) elt te) (hs : ∀ x, foldedSetIterable iter X.env x = pure x := by intro _; rfl) :
    PE X (.ListComp elt [⟨tg, iter, ifs, 0⟩] sc pos) (tLc wi g tt te own fr) := by
  intro pins s σ H Q I h
  rw [eval_ListComp]
  refine wpAny_comprehension_free (use := none) rfl hs L.clos L.kind L.names (thn (hi pins s σ H _ I h) fun v s1 h1 => thn h1 fun itv s2 h2 => ?_)
  obtain ⟨it, fp, tn, J, H2, e, I2, T, st2, f2, h2⟩ := h2
  subst e
  refine wpAny_newObj_type ?_
  have I3 : Inv X pins σ (upd H2 s2.heap.objs.size (.lst [])) { s2 with heap := s2.heap.push { cls := .type "list", data := .seq ([] : List Value).toArray } } := I2.lnew (t' := s2.toks) .nil (Nat.zero_le _)
  have n2 : H2 s2.heap.objs.size = none := I2.fresh
  obtain ⟨W, ⟨m0, w0⟩, turn⟩ := h2 _ n2
  have lt2 : ∀ b ∈ fp, b < s2.heap.objs.size := fun b hb => by
    obtain ⟨o, eo, _⟩ := T.obj 0 _ st2 b hb
    exact Heap.lt_size eo
  have fp3 : ∀ b ∈ fp, FpOk X pins (upd H2 s2.heap.objs.size (.lst [])) b := fun b hb => ⟨by rw [upd_ne (Nat.ne_of_lt (lt2 b hb))]; exact (f2 b hb).1, (f2 b hb).2⟩
  generalize hs3 : ({ s2 with heap := s2.heap.push { cls := .type "list", data := .seq ([] : List Value).toArray } } : Shared) = s3 at I3
  have st3 : tn 0 s3.heap := by
    rw [← hs3]
    exact T.keep 0 _ _ st2 fun b hb o eo => Heap.get?_push_of_some _ eo
  have lt3 : ∀ b ∈ fp, b < s3.heap.objs.size := fun b hb => by
    obtain ⟨o, eo, _⟩ := T.obj 0 _ st3 b hb
    exact Heap.lt_size eo
  generalize hH3 : upd H2 s2.heap.objs.size (.lst []) = H3 at I3 fp3 w0
  generalize s2.heap.objs.size = acc at turn w0 hH3 ⊢
  refine newEnv_cells ?_
  have hns : (pushCells (s3.heap.push { cls := .type "dict", data := .dict #[] }) sc.names).Ns s3.heap.objs.size fun _ => none := (Heap.Ns.new s3.heap (.type "dict")).keeps (pushCells_keeps _ _)
  have kp : ∀ b o, s3.heap.get? b = some o → (pushCells (s3.heap.push { cls := .type "dict", data := .dict #[] }) sc.names).get? b = some o := fun b o eo => pushCells_keeps _ _ b o (Heap.get?_push_of_some _ eo)
  have ncl : ∀ y c, (cellsFrom (s3.heap.objs.size + 1) sc.names cl).lookup y = some c → cl.lookup y = some c ∨ (pushCells (s3.heap.push { cls := .type "dict", data := .dict #[] }) sc.names).IsCell c none := fun y c e =>
    cf_cell sc.names (s3.heap.push { cls := .type "dict", data := .dict #[] }) cl y c (by rw [Heap.size_push]; exact e)
  generalize hh4 : pushCells (s3.heap.push { cls := .type "dict", data := .dict #[] }) sc.names = h4 at hns kp ncl
  have I4 := lcInv (own := own) (tk := s3.toks) L I3 fp3 lt3 hns kp ncl
  have st4 : tn 0 h4 := T.keep 0 _ _ st3 fun b hb o eo => kp b o eo
  have stat : ∀ {H' : Hp}, (∀ b ∈ fp, H' b = none) → ∀ b ∈ fp, FpOk (cxLc X own fr sc cl s3.heap.objs.size s3 H3 fp (X.pn ++ pins)) [] H' b := fun {H'} hn b hb =>
    ⟨hn b hb, Nat.ne_of_lt (lt3 b hb), fun z => (List.mem_cons.mp (I3.stkSub b z)).elim (fp3 b hb).2.1 (fp3 b hb).2.2.1, .inl hb, fun y c e => (cf_lookup _ _ _ y c e).elim (fun q => (fp3 b hb).2.2.2.2.1 y c (L.sub y c q)) fun q => Nat.ne_of_gt (Nat.lt_of_lt_of_le (lt3 b hb) (Nat.le_of_succ_le q.1)), fun p hp => (fp3 b hb).2.2.2.2.2 p (by
      have z : p ∈ (X.pn ++ pins) ++ [] := hp
      simpa using z)⟩
  have loop : codeAny (model X.prog X.w) X.A (.compLoop (.ListComp elt [⟨tg, iter, ifs, 0⟩] sc pos) 0 (.ref it) (.ref acc) (compEnvC sc (cellsFrom (s3.heap.objs.size + 1) sc.names cl) s3.heap.objs.size X.env))
      (compPost (model X.prog X.w) X.A X.xe none (EP X pins σ Q) (.ref acc) s3.heap.objs.size) { s3 with heap := h4, toks := s3.toks } := by
    refine lcLoop (fun n s' => ∃ i ys σ1 H1, Inv (cxLc X own fr sc cl s3.heap.objs.size s3 H3 fp (X.pn ++ pins)) [] σ1 H1 s' ∧ tn i s'.heap ∧ (∀ b ∈ fp, H1 b = none) ∧ W i n ys σ1 H1) ?_ m0 ⟨0, [], _, H3, I4, st4, fun b hb => (fp3 b hb).1, w0⟩
    rintro n s5 ⟨i, ys, σ5, H5, I5, st5, fr5, w5⟩
    obtain ⟨hacc, hlen, hh⟩ := turn i n ys σ5 H5 w5
    rcases hh with ⟨stop, qn⟩ | ⟨go, N, hN, step⟩
    · refine thn (T.done (cxLc X own fr sc cl s3.heap.objs.size s3 H3 fp (X.pn ++ pins)) rfl rfl rfl hc i [] s5 σ5 H5 NoX I5 (stat fr5) st5 stop) fun r s6 ⟨hr, I6⟩ => ?_
      subst hr
      obtain ⟨m6, ns6, _⟩ := id I6.loc
      refine ⟨m6, ns6, fun h7 sb7 => ⟨.ref acc, H5, ?_, rfl, qn⟩⟩
      have old : ∀ b o, s3.heap.get? b = some o → b ≠ s3.heap.objs.size := fun b o eo => Nat.ne_of_lt (Heap.lt_size eo)
      have u6 : Un (frs X.stack) fp H3 H5 s3.heap s6.heap := I6.base
      have u7 : Un (frs X.stack) fp H3 H5 s3.heap h7 :=
        ⟨fun b o eo nn hb hx => (sb7.2 b (old b o eo)).trans (u6.keep b o eo nn hb hx), fun b o eo nn hb hx => by
          obtain ⟨sl, q⟩ := u6.slot b o eo nn hb hx
          exact ⟨sl, (sb7.2 b (old b o eo)).trans q⟩, u6.free, fun b o eo hx => by
          obtain ⟨o', q⟩ := u6.there b o eo hx
          exact ⟨o', (sb7.2 b (old b o eo)).trans q⟩, u6.tups, u6.frzs, u6.tbls⟩
      have fC : H5 s3.heap.objs.size = none := I6.free
      have hok7 : HOk X.prog X.w H5 h7 := fun b ob eb => by
        refine (I6.hok b ob eb).stay (fun c w' hc' q => (sb7.2 c ?_).trans q) (fun _ q => q) fun _ _ q => q
        rintro rfl
        rcases hc' with z | z
        · rw [← z, fC] at eb; cases eb
        · rw [fC] at z; cases z
      exact I3.call' (s' := { s6 with heap := h7 }) I6.os u7 hok7 I6.bare fun b hb => ⟨(fp3 b hb).2.2.2.1, (fp3 b hb).2.1, (fp3 b hb).2.2.2.2.1, (fp3 b hb).2.2.2.2.2⟩
    · refine thn (T.item (cxLc X own fr sc cl s3.heap.objs.size s3 H3 fp (X.pn ++ pins)) rfl rfl rfl hc i [] s5 σ5 H5 NoX I5 (stat fr5) st5 go) fun r s6 ⟨u, hr, h6⟩ => ?_
      subst hr
      refine thn h6 fun _ s7 ⟨x, H7, I7, r7, y7, st7, fr7⟩ => ?_
      have I7' := I7.pinned (stat fr7) (T.obj _ _ st7)
      refine thn (hg _ _ _ _ _ _ s7 σ5 H7 x u _ I7' r7 (step x H7 y7)) fun _ s8 ⟨σ8, H8, I8, q8⟩ => ?_
      have again : ∀ {zs : List V} {σ9 : St} {H9 : Hp} {s9 : Shared}, Inv (cxLc X own fr sc cl s3.heap.objs.size s3 H3 fp (X.pn ++ pins)) ([] ++ pinsAt fp s7.heap) σ9 H9 s9 → N zs σ9 H9 →
          ∃ m, m < n ∧ ∃ i ys σ1 H1, Inv (cxLc X own fr sc cl s3.heap.objs.size s3 H3 fp (X.pn ++ pins)) [] σ1 H1 s9 ∧ tn i s9.heap ∧ (∀ b ∈ fp, H1 b = none) ∧ W i m ys σ1 H1 := fun {zs σ9 H9 s9} I9 n9 => by
        obtain ⟨m', hm, w9⟩ := hN zs σ9 H9 n9
        refine ⟨m', hm, i + 1, zs, σ9, H9, I9.unpinned, T.keep _ _ _ st7 fun b hb o e => (I9.pin (b, o) (List.mem_append_right _ (List.mem_append_right _ (mem_pinsAt hb e)))).1, fun b hb => ?_, w9⟩
        obtain ⟨o, e, d⟩ := T.obj _ _ st7 b hb
        exact (I9.pin (b, o) (List.mem_append_right _ (List.mem_append_right _ (mem_pinsAt hb e)))).2.1
      refine thn (ht _ _ _ _ _ _ s8 σ8 H8 _ I8 q8) fun ok s9 ⟨H9, I9, q9⟩ => ?_
      cases ok with
      | false => exact again I9 (by simpa using q9)
      | true =>
        refine thn (he _ _ _ _ _ _ s9 σ8 H9 _ I9 q9) fun z s10 ⟨y, H10, I10, r10, a10, q10⟩ => ?_
        refine thn (mt_append _ s10 σ8 H10 (.ref acc) [y] (.ref acc) [z] (fun _ H' => N (ys ++ [y]) σ8 H') I10 rfl (.cons r10 .nil) ⟨acc, ys, y, rfl, rfl, a10, hlen, q10⟩) fun _ s11 ⟨_, H11, I11, _, q11⟩ => again I11 q11
  rw [← hs3] at loop ⊢
  exact codeAny_compStart_list loop (noX (T.self _ 0 _ _ _ st4 (by rw [hs3]; rw [hs3] at loop; exact loop)))
end L2
namespace L2
open PySem PySem.Spec PyProof.Rows
theorem log2_of {n : Int} {k : Nat} (h : n.natAbs < 2 ^ k) (hk : 0 < k) : n.natAbs.log2 < k := by
  by_cases z : n.natAbs = 0
  · rw [z]
    show Nat.log2 0 < k
    rw [Nat.log2_zero]
    exact hk
  · exact (Nat.log2_lt z).mpr h
section
variable {X : Cx}
def CDivB (_ j : Int) : Prop := 0 < j ∧ j.natAbs < 2 ^ 8000
theorem op_fdivB : OpR X (binaryOp .FloorDiv) (rI CDivB fun i j => .int (i / j)) := opI fun i j _ _ _ _ _ hc q => by
  have h1 : (0 : Int) < j := hc.1
  refine floordiv_int (by omega) (by rw [Int.fdiv_eq_ediv_of_nonneg i (by omega)]; exact q) (.inl (PyProof.noPylong_of_log2 ?_))
  exact Nat.lt_trans (log2_of hc.2 (by decide)) (by decide)
theorem step_small {hi c : Int} (h0 : 0 ≤ hi) (h1 : hi < 2 ^ 30) (c0 : 0 < c) (c1 : c < 2 ^ 30) : Builtin.Range.small 0 hi c = true := by
  unfold Builtin.Range.small
  rw [rangeSize_pos (by omega) h0]
  have a0 : 0 ≤ (hi + c - 1) / c := Int.ediv_nonneg (by omega) (by omega)
  have a1 : (hi + c - 1) / c * c ≤ hi + c - 1 := Int.ediv_mul_le _ (by omega)
  have a2 : (hi + c - 1) / c ≤ hi + c - 1 := Int.ediv_le_self _ (by omega)
  have a3 : (0 : Int) ≤ (hi + c - 1) / c * c := Int.mul_nonneg a0 (by omega)
  have cc : c > 0 := c0
  simp only [Builtin.Range.rangeFitsLong, Bool.and_eq_true, Bool.or_eq_true, decide_eq_true_eq, beq_iff_eq, cc, if_true]
  generalize (hi + c - 1) / c * c = p at *
  generalize (hi + c - 1) / c = q at *
  omega
theorem vals_intItems : ∀ {ns : List Int} {its : List Value}, Vals (ns.map V.int) its → ∃ xs : List (Int × Tok), its = xs.map (fun p => Value.int p.1 p.2) ∧ xs.map (·.1) = ns
  | [], _, .nil => ⟨[], rfl, rfl⟩
  | n :: ns, _, .cons r t => by
    obtain ⟨tk, rfl⟩ := r
    obtain ⟨xs, rfl, rfl⟩ := vals_intItems t
    exact ⟨(n, tk) :: xs, rfl, rfl⟩
def rSum (K : PySem.W.Frag) : List V → Hp → VK → Prop := fun xs H Q => ∃ (p : Addr) (ns : List Int), xs = [.ref p] ∧ SqL K H p (ns.map V.int) ∧ Q (.int ns.sum) H
theorem call_sum (hc : X.calm = true) : CallR X (.builtin "sum") (rSum X.K) := by
  intro pins s σ H xs us Q I r h
  obtain ⟨p, ns, rfl, hq, q⟩ := h
  cases r with
  | cons r1 rr =>
    cases rr
    cases r1
    obtain ⟨its, rv, pl, hz⟩ := I.list hq
    obtain ⟨zs, rfl, rfl⟩ := vals_intItems rv
    refine PySem.sum_intListG (xs := zs.toArray) (I.ok.hd hc) (by simpa [PySem.intItems] using pl.isList) fun h' tk t' hk => ⟨.int _, H, I.kept (t' := tk) hk, ⟨t', rfl⟩, ?_⟩
    rw [PySem.preSum_eq, List.take_of_length_le (by simp)]
    exact q
end
end L2
namespace L2
open PySem PySem.Spec PyProof.Rows
inductive Dv where
  | fl (v : V)
  | lst (ds : List Dv)
  | tup (ds : List Dv)
mutual
def eqD : Dv → Dv → Bool
  | .fl x, .fl y => eqV x y
  | .lst a, .lst b => eqDs a b
  | .tup a, .tup b => eqDs a b
  | _, _ => false
def eqDs : List Dv → List Dv → Bool
  | [], [] => true
  | x :: r, y :: q => eqD x y && eqDs r q
  | _, _ => false
end
mutual
def dpD : Dv → Nat
  | .fl _ => 0
  | .lst a => dpDs a + 1
  | .tup a => dpDs a + 1
def dpDs : List Dv → Nat
  | [] => 0
  | x :: r => max (dpD x) (dpDs r)
end
mutual
def Hv (K : PySem.W.Frag) (H : Hp) : Dv → V → Prop
  | .fl v, x => x = v ∧ flatV v = true
  | .lst ds, x => ∃ a xs, x = .ref a ∧ SqL K H a xs ∧ HvL K H ds xs
  | .tup ds, x => ∃ a xs, x = .ref a ∧ SqT K H a xs ∧ HvL K H ds xs
def HvL (K : PySem.W.Frag) (H : Hp) : List Dv → List V → Prop
  | [], xs => xs = []
  | d :: ds, xs => ∃ x r, xs = x :: r ∧ Hv K H d x ∧ HvL K H ds r
end
theorem eqV_refl {v : V} (h : flatV v = true) : eqV v v = true := by
  cases v <;> first | rfl | (simp [eqV]; done) | (exact absurd h (by decide)) | (cases h)
section
variable {X : Cx} {pins : List (Addr × Obj)} {σ : St} {H : Hp} {s : Shared}
theorem not_both (I : Inv X pins σ H s) {a : Addr} {xs ys : List V} (h1 : SqL X.K H a xs) (h2 : SqT X.K H a ys) : False := by
  obtain ⟨i1, _, p1, _⟩ := I.list h1
  obtain ⟨i2, _, p2, _⟩ := I.tuple h2
  exact SeqAt.ne_of_list_tuple p1.isList p2 rfl
mutual
theorem same_eq (I : Inv X pins σ H s) : ∀ (d e : Dv) (x : V), Hv X.K H d x → Hv X.K H e x → eqD d e = true
  | .fl v, .fl w, x, h1, h2 => by
    obtain ⟨rfl, f⟩ := h1
    obtain ⟨rfl, _⟩ := h2
    exact eqV_refl f
  | .fl v, .lst es, x, h1, h2 => by
    obtain ⟨rfl, f⟩ := h1
    obtain ⟨a, xs, rfl, _⟩ := h2
    cases f
  | .fl v, .tup es, x, h1, h2 => by
    obtain ⟨rfl, f⟩ := h1
    obtain ⟨a, xs, rfl, _⟩ := h2
    cases f
  | .lst ds, .fl v, x, h2, h1 => by
    obtain ⟨rfl, f⟩ := h1
    obtain ⟨a, xs, rfl, _⟩ := h2
    cases f
  | .tup ds, .fl v, x, h2, h1 => by
    obtain ⟨rfl, f⟩ := h1
    obtain ⟨a, xs, rfl, _⟩ := h2
    cases f
  | .lst ds, .lst es, x, h1, h2 => by
    obtain ⟨a, xs, rfl, q, r⟩ := h1
    obtain ⟨b, ys, e, q', r'⟩ := h2
    cases e
    have := I.list_inj q q'
    subst this
    exact same_eqs I ds es xs r r'
  | .tup ds, .tup es, x, h1, h2 => by
    obtain ⟨a, xs, rfl, q, r⟩ := h1
    obtain ⟨b, ys, e, q', r'⟩ := h2
    cases e
    have := I.tuple_inj q q'
    subst this
    exact same_eqs I ds es xs r r'
  | .lst ds, .tup es, x, h1, h2 => by
    obtain ⟨a, xs, rfl, q, r⟩ := h1
    obtain ⟨b, ys, e, q', r'⟩ := h2
    cases e
    exact (not_both I q q').elim
  | .tup ds, .lst es, x, h1, h2 => by
    obtain ⟨a, xs, rfl, q, r⟩ := h1
    obtain ⟨b, ys, e, q', r'⟩ := h2
    cases e
    exact (not_both I q' q).elim
theorem same_eqs (I : Inv X pins σ H s) : ∀ (ds es : List Dv) (xs : List V), HvL X.K H ds xs → HvL X.K H es xs → eqDs ds es = true
  | [], [], _, _, _ => rfl
  | [], e :: es, xs, h1, h2 => by
    obtain rfl : xs = [] := h1
    obtain ⟨x, r, z, _⟩ := h2
    cases z
  | d :: ds, [], xs, h1, h2 => by
    obtain rfl : xs = [] := h2
    obtain ⟨x, r, z, _⟩ := h1
    cases z
  | d :: ds, e :: es, xs, h1, h2 => by
    obtain ⟨x, r, rfl, a, b⟩ := h1
    obtain ⟨x', r', z, a', b'⟩ := h2
    cases z
    show (eqD d e && eqDs ds es) = true
    rw [same_eq I d e x a a', same_eqs I ds es r b b']
    rfl
end
theorem HvL.length {K : PySem.W.Frag} {H : Hp} : ∀ {ds : List Dv} {xs : List V}, HvL K H ds xs → ds.length = xs.length
  | [], xs, h => by
    obtain rfl : xs = [] := h
    rfl
  | d :: ds, xs, h => by
    obtain ⟨x, r, rfl, _, b⟩ := h
    rw [List.length_cons, List.length_cons, HvL.length b]
theorem eqDs_len : ∀ {ds es : List Dv}, ds.length ≠ es.length → eqDs ds es = false
  | [], [], h => absurd rfl h
  | [], _ :: _, _ => rfl
  | _ :: _, [], _ => rfl
  | d :: ds, e :: es, h => by
    show (eqD d e && eqDs ds es) = false
    rw [eqDs_len (ds := ds) (es := es) (by simpa using h), Bool.and_false]
def eqAtI (ds es : List Dv) (j : Nat) : Bool := match ds[j]?, es[j]? with
  | some d, some e => eqD d e
  | _, _ => false
theorem all_eqAtI : ∀ {ds es : List Dv}, ds.length = es.length → (List.range ds.length).all (eqAtI ds es) = eqDs ds es
  | [], [], _ => rfl
  | [], _ :: _, h => by cases h
  | _ :: _, [], h => by cases h
  | d :: ds, e :: es, h => by
    rw [List.length_cons, List.range_succ_eq_map, List.all_cons, List.all_map]
    show (eqD d e && (List.range ds.length).all (eqAtI (d :: ds) (e :: es) ∘ Nat.succ)) = (eqD d e && eqDs ds es)
    congr 1
    exact all_eqAtI (ds := ds) (es := es) (by simpa using h)
mutual
theorem eqAt_D (I : Inv X pins σ H s) : ∀ (d e : Dv) (A : Around) (x y : V) (u v : Value), A.units + dpD d < cLine → Hv X.K H d x → Hv X.K H e y → RelV x u → RelV y v → SeqAt.EqAt A s u v (eqD d e)
  | .fl a, .fl b, A, x, y, u, v, hu, h1, h2, rx, ry => by
    obtain ⟨rfl, f1⟩ := h1
    obtain ⟨rfl, f2⟩ := h2
    exact eqAt_V rx ry f1 f2
  | .fl a, .lst es, A, x, y, u, v, hu, h1, h2, rx, ry => by
    obtain ⟨rfl, f1⟩ := h1
    obtain ⟨b, ys, rfl, q, r⟩ := h2
    cases ry
    obtain ⟨its, _, pl, _⟩ := I.list q
    have hu' : A.units < cLine := hu
    cases x with
    | non => cases rx; exact SeqAt.EqAt.none_list pl.isList hu'
    | bl c => cases rx; exact SeqAt.EqAt.bool_list c pl.isList hu'
    | int c => obtain ⟨t, rfl⟩ := rx; exact SeqAt.EqAt.int_list c t pl.isList hu'
    | str c => obtain ⟨t, rfl⟩ := rx; exact SeqAt.EqAt.str_list c t pl.isList hu'
    | _ => cases f1
  | .fl a, .tup es, A, x, y, u, v, hu, h1, h2, rx, ry => by
    obtain ⟨rfl, f1⟩ := h1
    obtain ⟨b, ys, rfl, q, r⟩ := h2
    cases ry
    obtain ⟨its, _, pl, _⟩ := I.tuple q
    have hu' : A.units < cLine := hu
    cases x with
    | non => cases rx; exact SeqAt.EqAt.none_tuple pl hu'
    | bl c => cases rx; exact SeqAt.EqAt.bool_tuple c pl hu'
    | int c => obtain ⟨t, rfl⟩ := rx; exact SeqAt.EqAt.int_tuple c t pl hu'
    | str c => obtain ⟨t, rfl⟩ := rx; exact SeqAt.EqAt.str_tuple c t pl hu'
    | _ => cases f1
  | .lst ds, .fl b, A, x, y, u, v, hu, h1, h2, rx, ry => by
    obtain ⟨rfl, f2⟩ := h2
    obtain ⟨a, xs, rfl, q, r⟩ := h1
    cases rx
    obtain ⟨its, _, pl, _⟩ := I.list q
    have hu' : A.units < cLine := Nat.lt_of_le_of_lt (Nat.le_add_right _ _) hu
    cases y with
    | non => cases ry; exact SeqAt.EqAt.list_none pl.isList hu'
    | bl c => cases ry; exact SeqAt.EqAt.list_bool c pl.isList hu'
    | int c => obtain ⟨t, rfl⟩ := ry; exact SeqAt.EqAt.list_int c t pl.isList hu'
    | str c => obtain ⟨t, rfl⟩ := ry; exact SeqAt.EqAt.list_str c t pl.isList hu'
    | _ => cases f2
  | .tup ds, .fl b, A, x, y, u, v, hu, h1, h2, rx, ry => by
    obtain ⟨rfl, f2⟩ := h2
    obtain ⟨a, xs, rfl, q, r⟩ := h1
    cases rx
    obtain ⟨its, _, pl, _⟩ := I.tuple q
    have hu' : A.units < cLine := Nat.lt_of_le_of_lt (Nat.le_add_right _ _) hu
    cases y with
    | non => cases ry; exact SeqAt.EqAt.tuple_none pl hu'
    | bl c => cases ry; exact SeqAt.EqAt.tuple_bool c pl hu'
    | int c => obtain ⟨t, rfl⟩ := ry; exact SeqAt.EqAt.tuple_int c t pl hu'
    | str c => obtain ⟨t, rfl⟩ := ry; exact SeqAt.EqAt.tuple_str c t pl hu'
    | _ => cases f2
  | .lst ds, .tup es, A, x, y, u, v, hu, h1, h2, rx, ry => by
    obtain ⟨a, xs, rfl, q, r⟩ := h1
    obtain ⟨b, ys, rfl, q', r'⟩ := h2
    cases rx
    cases ry
    obtain ⟨_, _, p1, _⟩ := I.list q
    obtain ⟨_, _, p2, _⟩ := I.tuple q'
    exact SeqAt.EqAt.list_tuple p1.isList p2 (Nat.lt_of_le_of_lt (Nat.le_add_right _ _) hu)
  | .tup ds, .lst es, A, x, y, u, v, hu, h1, h2, rx, ry => by
    obtain ⟨a, xs, rfl, q, r⟩ := h1
    obtain ⟨b, ys, rfl, q', r'⟩ := h2
    cases rx
    cases ry
    obtain ⟨_, _, p1, _⟩ := I.tuple q
    obtain ⟨_, _, p2, _⟩ := I.list q'
    exact SeqAt.EqAt.tuple_list p1 p2.isList (Nat.lt_of_le_of_lt (Nat.le_add_right _ _) hu)
  | .lst ds, .lst es, A, x, y, u, v, hu, h1, h2, rx, ry => by
    obtain ⟨a, xs, rfl, q, r⟩ := id h1
    obtain ⟨b, ys, rfl, q', r'⟩ := id h2
    cases rx
    cases ry
    by_cases hab : a = b
    · subst hab
      rw [same_eq I _ _ _ h1 h2]
      exact SeqAt.EqAt.same _
    obtain ⟨i1, v1, p1, _⟩ := I.list q
    obtain ⟨i2, v2, p2, _⟩ := I.list q'
    have hu' : A.units < cLine := Nat.lt_of_le_of_lt (Nat.le_add_right _ _) hu
    have l1 := r.length
    have l2 := r'.length
    have m1 := v1.length
    have m2 := v2.length
    refine .of_refs hab ?_
    show SeqAt.RcAt A s (.ref a) (.ref b) (eqDs ds es)
    by_cases hl : ds.length = es.length
    · have z := SeqAt.RcAt.lists (e := eqAtI ds es) p1.isList p2.isList (by simp; omega) hu' (fun j g1 g2 => eqAt_Ds I ds es A.in1 xs ys i1 i2 (by show A.units + 1 + dpDs ds < cLine; have : A.units + (dpDs ds + 1) < cLine := hu; omega) r r' v1 v2 j (by simpa using g1) (by simpa using g2))
      rw [List.size_toArray, ← m1, ← l1, all_eqAtI hl] at z
      exact z
    · rw [eqDs_len hl]
      exact .lists_lengths p1.isList p2.isList (by simp; omega) hu'
  | .tup ds, .tup es, A, x, y, u, v, hu, h1, h2, rx, ry => by
    obtain ⟨a, xs, rfl, q, r⟩ := id h1
    obtain ⟨b, ys, rfl, q', r'⟩ := id h2
    cases rx
    cases ry
    by_cases hab : a = b
    · subst hab
      rw [same_eq I _ _ _ h1 h2]
      exact SeqAt.EqAt.same _
    obtain ⟨i1, v1, p1, _⟩ := I.tuple q
    obtain ⟨i2, v2, p2, _⟩ := I.tuple q'
    have hu' : A.units < cLine := Nat.lt_of_le_of_lt (Nat.le_add_right _ _) hu
    have l1 := r.length
    have l2 := r'.length
    have m1 := v1.length
    have m2 := v2.length
    refine .of_refs hab ?_
    show SeqAt.RcAt A s (.ref a) (.ref b) (eqDs ds es)
    have z := SeqAt.RcAt.tuples (e := eqAtI ds es) p1 p2 hu' (fun j g1 g2 => eqAt_Ds I ds es A.in1 xs ys i1 i2 (by show A.units + 1 + dpDs ds < cLine; have : A.units + (dpDs ds + 1) < cLine := hu; omega) r r' v1 v2 j (by simpa using g1) (by simpa using g2))
    have zz : ((List.range (min i1.toArray.size i2.toArray.size)).all (eqAtI ds es) && i1.toArray.size == i2.toArray.size) = eqDs ds es := by
      rw [List.size_toArray, List.size_toArray, ← m1, ← m2, ← l1, ← l2]
      by_cases hl : ds.length = es.length
      · rw [hl, Nat.min_self, ← hl, all_eqAtI hl]; simp [hl]
      · rw [eqDs_len hl, beq_eq_false_iff_ne.mpr hl, Bool.and_false]
    rw [zz] at z
    exact z
theorem eqAt_Ds (I : Inv X pins σ H s) : ∀ (ds es : List Dv) (A : Around) (xs ys : List V) (us vs : List Value), A.units + dpDs ds < cLine → HvL X.K H ds xs → HvL X.K H es ys → Vals xs us → Vals ys vs →
    ∀ (j : Nat) (h1 : j < us.length) (h2 : j < vs.length), SeqAt.EqAt A s us[j] vs[j] (eqAtI ds es j)
  | [], es, A, xs, ys, us, vs, hu, h1, h2, r1, r2, j, g1, g2 => by
    obtain rfl : xs = [] := h1
    cases r1
    exact absurd g1 (Nat.not_lt_zero _)
  | d :: ds, [], A, xs, ys, us, vs, hu, h1, h2, r1, r2, j, g1, g2 => by
    obtain rfl : ys = [] := h2
    cases r2
    exact absurd g2 (Nat.not_lt_zero _)
  | d :: ds, e :: es, A, xs, ys, us, vs, hu, h1, h2, r1, r2, j, g1, g2 => by
    obtain ⟨x, r, rfl, a, b⟩ := h1
    obtain ⟨y, q, rfl, a', b'⟩ := h2
    cases r1 with
    | cons c1 t1 => cases r2 with
      | cons c2 t2 =>
        have hm : dpDs (d :: ds) = max (dpD d) (dpDs ds) := rfl
        rw [hm] at hu
        cases j with
        | zero => exact eqAt_D I d e A x y _ _ (Nat.lt_of_le_of_lt (Nat.add_le_add_left (Nat.le_max_left _ _) _) hu) a a' c1 c2
        | succ j => exact eqAt_Ds I ds es A r q _ _ (Nat.lt_of_le_of_lt (Nat.add_le_add_left (Nat.le_max_right _ _) _) hu) b b' t1 t2 j (by simpa using g1) (by simpa using g2)
end
def rEqS (K : PySem.W.Frag) (neg : Bool) : R2 := fun x y H Q => ∃ d e, ((∃ ds es, d = .lst ds ∧ e = .lst es) ∨ ∃ ds es, d = .tup ds ∧ e = .tup es) ∧ Hv K H d x ∧ Hv K H e y ∧ dpD d ≤ 50 ∧ Q (.bl (if neg then !eqD d e else eqD d e)) H
theorem op_eqS (hr : X.A.units + 64 < cLine) : OpR X (compareOp .Eq) (rEqS X.K false) := by
  intro pins s σ H x y v u Q I rx ry h
  obtain ⟨d, e, hk, h1, h2, hd, q⟩ := h
  have hu' : X.A.units < cLine := by omega
  rcases hk with ⟨ds, es, rfl, rfl⟩ | ⟨ds, es, rfl, rfl⟩
  · obtain ⟨a, xs, rfl, q1, r⟩ := h1
    obtain ⟨b, ys, rfl, q2, r'⟩ := h2
    cases rx
    cases ry
    obtain ⟨i1, v1, p1, _⟩ := I.list q1
    obtain ⟨i2, v2, p2, _⟩ := I.list q2
    have l1 := r.length
    have l2 := r'.length
    have m1 := v1.length
    have m2 := v2.length
    have hd' : dpDs ds + 1 ≤ 50 := hd
    by_cases hl : ds.length = es.length
    · refine SeqAt.eq_listAt (e := eqAtI ds es) p1.isList p2.isList (by simp; omega) hu' (fun j g1 g2 => eqAt_Ds I ds es X.A.in1 xs ys i1 i2 (by show X.A.units + 1 + dpDs ds < cLine; omega) r r' v1 v2 j (by simpa using g1) (by simpa using g2)) ?_
      rw [List.size_toArray, ← m1, ← l1, all_eqAtI hl]
      exact ⟨.bl _, H, I, rfl, q⟩
    · refine SeqAt.eq_list_lengthsAt p1.isList p2.isList (by simp; omega) hu' ⟨.bl _, H, I, rfl, ?_⟩
      have z : eqD (.lst ds) (.lst es) = false := eqDs_len hl
      rw [z] at q
      exact q
  · obtain ⟨a, xs, rfl, q1, r⟩ := h1
    obtain ⟨b, ys, rfl, q2, r'⟩ := h2
    cases rx
    cases ry
    obtain ⟨i1, v1, p1, _⟩ := I.tuple q1
    obtain ⟨i2, v2, p2, _⟩ := I.tuple q2
    have l1 := r.length
    have l2 := r'.length
    have m1 := v1.length
    have m2 := v2.length
    have hd' : dpDs ds + 1 ≤ 50 := hd
    refine SeqAt.eq_tupleAt (e := eqAtI ds es) p1 p2 hu' (fun j g1 g2 => eqAt_Ds I ds es X.A.in1 xs ys i1 i2 (by show X.A.units + 1 + dpDs ds < cLine; omega) r r' v1 v2 j (by simpa using g1) (by simpa using g2)) ⟨.bl _, H, I, rfl, ?_⟩
    have zz : ((List.range (min i1.toArray.size i2.toArray.size)).all (eqAtI ds es) && i1.toArray.size == i2.toArray.size) = eqDs ds es := by
      rw [List.size_toArray, List.size_toArray, ← m1, ← m2, ← l1, ← l2]
      by_cases hl : ds.length = es.length
      · rw [hl, Nat.min_self, ← hl, all_eqAtI hl]; simp [hl]
      · rw [eqDs_len hl, beq_eq_false_iff_ne.mpr hl, Bool.and_false]
    rw [zz]
    exact q
theorem op_neS (hr : X.A.units + 64 < cLine) : OpR X (compareOp .NotEq) (rEqS X.K true) := by
  intro pins s σ H x y v u Q I rx ry h
  obtain ⟨d, e, hk, h1, h2, hd, q⟩ := h
  have hu' : X.A.units < cLine := by omega
  rcases hk with ⟨ds, es, rfl, rfl⟩ | ⟨ds, es, rfl, rfl⟩
  · obtain ⟨a, xs, rfl, q1, r⟩ := h1
    obtain ⟨b, ys, rfl, q2, r'⟩ := h2
    cases rx
    cases ry
    obtain ⟨i1, v1, p1, _⟩ := I.list q1
    obtain ⟨i2, v2, p2, _⟩ := I.list q2
    have l1 := r.length
    have l2 := r'.length
    have m1 := v1.length
    have m2 := v2.length
    have hd' : dpDs ds + 1 ≤ 50 := hd
    by_cases hl : ds.length = es.length
    · refine SeqAt.RcNeAt.lists (e := eqAtI ds es) p1.isList p2.isList (by simp; omega) hu' (fun j g1 g2 => eqAt_Ds I ds es X.A.in1 xs ys i1 i2 (by show X.A.units + 1 + dpDs ds < cLine; omega) r r' v1 v2 j (by simpa using g1) (by simpa using g2)) _ _ _ _ ?_
      rw [List.size_toArray, ← m1, ← l1, all_eqAtI hl]
      exact ⟨.bl _, H, I, rfl, q⟩
    · refine SeqAt.RcNeAt.lists_lengths p1.isList p2.isList (by simp; omega) hu' _ _ _ _ ⟨.bl _, H, I, rfl, ?_⟩
      have z : eqD (.lst ds) (.lst es) = false := eqDs_len hl
      rw [z] at q
      exact q
  · obtain ⟨a, xs, rfl, q1, r⟩ := h1
    obtain ⟨b, ys, rfl, q2, r'⟩ := h2
    cases rx
    cases ry
    obtain ⟨i1, v1, p1, _⟩ := I.tuple q1
    obtain ⟨i2, v2, p2, _⟩ := I.tuple q2
    have l1 := r.length
    have l2 := r'.length
    have m1 := v1.length
    have m2 := v2.length
    have hd' : dpDs ds + 1 ≤ 50 := hd
    refine SeqAt.RcNeAt.tuples (e := eqAtI ds es) p1 p2 hu' (fun j g1 g2 => eqAt_Ds I ds es X.A.in1 xs ys i1 i2 (by show X.A.units + 1 + dpDs ds < cLine; omega) r r' v1 v2 j (by simpa using g1) (by simpa using g2)) _ _ _ _ ⟨.bl _, H, I, rfl, ?_⟩
    have zz : ((List.range (min i1.toArray.size i2.toArray.size)).all (eqAtI ds es) && i1.toArray.size == i2.toArray.size) = eqDs ds es := by
      rw [List.size_toArray, List.size_toArray, ← m1, ← m2, ← l1, ← l2]
      by_cases hl : ds.length = es.length
      · rw [hl, Nat.min_self, ← hl, all_eqAtI hl]; simp [hl]
      · rw [eqDs_len hl, beq_eq_false_iff_ne.mpr hl, Bool.and_false]
    rw [zz]
    exact q
end
end L2
namespace L2
open PySem PySem.Spec PyProof.Rows
structure FunD (K : PySem.W.Frag) (x qual : Str) (st : Stmt) (dV : Value) (f : Addr) (fd : FuncData) : Prop where
  ex : ∃ (oc : Value) (od : Option Addr) (kV doc pm : Value) (an : Option Addr) (cdv ct : Value) (osl : Array (Option Value)),
    fd = PySem.W.fnOf x qual (defArgs st) (defBody st) (defScope st) dV kV doc pm an cdv ct ∧ K.lookup f = some ⟨oc, od, .func fd, osl⟩ ∧ PySem.W.codeIn K cdv qual = true
  kp : PySem.W.keepIn K (.ref f) = true
structure Kn (P : Program) (w : World) (K : PySem.W.Frag) (mg : Str → Option Value) (base : Heap) (CX : CXT) (k : Nat) (x : Str) (f : Addr) (fd : FuncData) (ps : List Str) (sp : Sp) : Prop where
  ok : FnOk P w K mg base CX k f fd ps sp
  mgx : mg x = some (.ref f)
  kp : PySem.W.keepIn K (.ref f) = true
  bd : Binds K fd ps []
section
variable {P : Program} {w : World} {K : PySem.W.Frag} {mg : Str → Option Value} {base : Heap}
theorem FunD.ok {x qual : Str} {st : Stmt} {dV : Value} {f : Addr} {fd : FuncData} {N ps : List Str} {k : Nat} {sp : Sp} (F : FunD K x qual st dV f fd) (S : FnScope N ps (defScope st)) (len : ∀ vs H Q E, sp vs H Q E → vs.length = ps.length)
    (hbody : ∀ (cdv : Value) (A : Around) (outer : List Env) (s : Shared) (H : Hp) (vs : List V) (Q : VK) (E : XK), Room k (A.deeper (envOfC qual (defScope st) s.heap.objs.size f cdv)) → sp vs H Q E →
      ∃ t, PSs (cxOf CX0 P w K mg base N qual (defScope st) f cdv A outer s H E).nox (defBody st) t ∧ t { nx := fun _ H' => Q .non H', rt := Q } (start N vs) H) : FnOk P w K mg base CX0 (k + 1) f fd ps sp := by
  obtain ⟨oc, od, kV, doc, pm, an, cdv, ct, osl, rfl, lk, hcd⟩ := F.ex
  refine fn_of lk hcd S len fun A outer s H vs Q E hr hsp => ?_
  obtain ⟨t, h, q⟩ := hbody cdv A outer s H vs Q E hr hsp
  exact ⟨t, h.nox, q⟩
theorem funD_mk {x qual : Str} {st : Stmt} {dV : Value} {f : Addr} {oc : Value} {od an : Option Addr} {osl : Array (Option Value)} {kV doc pm cdv ct : Value} (l : K.lookup f = some ⟨oc, od, .func (PySem.W.fnOf x qual (defArgs st) (defBody st) (defScope st) dV kV doc pm an cdv ct), osl⟩)
    (c : PySem.W.codeIn K cdv qual = true) (k : PySem.W.keepIn K (.ref f) = true) : FunD K x qual st dV f (PySem.W.fnOf x qual (defArgs st) (defBody st) (defScope st) dV kV doc pm an cdv ct) := ⟨⟨oc, od, kV, doc, pm, an, cdv, ct, osl, rfl, l, c⟩, k⟩
end
section
variable {X : Cx} {CX : CXT} {k : Nat} {f : Addr} {fd : FuncData} {ps : List Str} {sp : Sp} {E : XK} {x : Str} {p pos : Pos} {e : Expr} {es : List Expr} {t : TA}
theorem pe_kn (F : Kn X.prog X.w X.K X.mg X.base CX0 k x f fd ps sp) (hr : Room k X.A) (hg : Gl X x) (ha : PA X (e :: es) t) (hdb : (x == ("__debug__" : Str)) = false := by decide)
    (he : starEach (e :: es) X.env = (false, eval e X.env) :: starEach es X.env := by rfl) (hpl : (backTo pos (starEach es X.env)).any (·.1) = false := by rfl) :
    PE X (.Call (.Name x p) (e :: es) [] pos) (tCall sp [] E0 t) := pe_call F.ok hr hg F.mgx F.kp F.bd .nil pass0 ha hdb he hpl
end
def rCatL (K : PySem.W.Frag) : R2 := fun x y H Q => ∃ l b xs zs, x = .ref l ∧ y = .ref b ∧ SqL K H l xs ∧ SqL K H b zs ∧ xs.length + zs.length ≤ sizeLine ∧ ∀ p, H p = none → Q (.ref p) (upd H p (.lst (xs ++ zs)))
end L2
namespace L2
open PySem PySem.Spec PyProof.Rows
section
variable {Y : Cx} {c : Expr} {tt : TT}
theorem lc_t0 (pins : List (Addr × Obj)) (s1 : Shared) (σ1 : St) (H1 : Hp) (Q : Bool → Hp → Prop) (I : Inv Y pins σ1 H1 s1) (h : Q true H1) : wpAny (model Y.prog Y.w) Y.A (lcTests [] Y.env) (TP Y pins σ1 Q) NoX s1 :=
  wpAny_pure ⟨H1, I, h⟩
theorem lc_t1 (ht : PT Y c tt) (hx : Y.xe = NoX) (pins : List (Addr × Obj)) (s1 : Shared) (σ1 : St) (H1 : Hp) (Q : Bool → Hp → Prop) (I : Inv Y pins σ1 H1 s1) (h : tt σ1 H1 Q) : wpAny (model Y.prog Y.w) Y.A (lcTests [c] Y.env) (TP Y pins σ1 Q) NoX s1 := by
  have z := ht pins s1 σ1 H1 Q I h
  rw [hx] at z
  unfold lcTests
  rw [List.forIn_cons]
  simp only [if_true]
  refine wpAny_bind (wpAny_bind (thn z fun b s2 q => wpAny_pure ?_))
  exact wpAny_pure q
end
def tNoTest : TT := fun _ H Q => Q true H
section
variable {X : Cx}
theorem op_catL : OpR X (binaryOp .Add) (rCatL X.K) := by
  intro pins s σ H x y v u Q I rx ry h
  obtain ⟨l, b, xs, zs, rfl, rfl, hH, hB, hz, q⟩ := h
  cases rx
  cases ry
  obtain ⟨its, r, ⟨⟨cl, dd, da, sl⟩, n, e, c1, c2, d1⟩, z⟩ := I.list hH
  obtain ⟨its2, r2, ⟨⟨cl2, dd2, da2, sl2⟩, n2, e2, c3, c4, d2⟩, z2⟩ := I.list hB
  simp only at c1 d1 c3 d2
  subst c1 d1 c3 d2
  have l1 := r.length
  have l2 := r2.length
  refine concat_meets ⟨_, e, rfl⟩ ⟨_, e2, rfl⟩ noFill_list_add seq_list_add PySem.F.slot_list_add PySem.F.entry_list_add (PySem.F.args_list_add_2 _ _) (list_addW l b its.toArray its2.toArray n n2 dd dd2 sl sl2 (by simp; omega)) ⟨e, e2, ?_⟩
  have ea : its.toArray ++ its2.toArray = (its ++ its2).toArray := by simp
  rw [ea]
  exact ⟨.ref _, _, I.lnew (t' := s.toks) (r.append r2) (by rw [List.length_append]; omega), rfl, q _ I.fresh⟩
end
end L2
namespace L2
open PySem
theorem bt_isinstance : bootBuiltins "isinstance" = some (.builtin "isinstance") := by decide +kernel
theorem bt_abs : bootBuiltins "abs" = some (.builtin "abs") := by decide +kernel
theorem bt_len : bootBuiltins "len" = some (.builtin "len") := by decide +kernel
theorem bt_sum : bootBuiltins "sum" = some (.builtin "sum") := by decide +kernel
theorem bt_sorted : bootBuiltins "sorted" = some (.builtin "sorted") := by decide +kernel
theorem bt_any : bootBuiltins "any" = some (.builtin "any") := by decide +kernel
theorem bt_int : bootBuiltins "int" = some (.type "int") := by decide +kernel
theorem bt_bool : bootBuiltins "bool" = some (.type "bool") := by decide +kernel
theorem bt_list : bootBuiltins "list" = some (.type "list") := by decide +kernel
theorem bt_tuple : bootBuiltins "tuple" = some (.type "tuple") := by decide +kernel
theorem bt_zip : bootBuiltins "zip" = some (.type "zip") := by decide +kernel
theorem bt_enumerate : bootBuiltins "enumerate" = some (.type "enumerate") := by decide +kernel
end L2
namespace L2
open PySem PySem.Spec PyProof.Rows
def closF (cells : List (Str × Addr)) : List (Str × NameKind) → List (Str × Addr) → List (Str × Addr)
  | [], cs => cs
  | (n, k) :: r, cs => closF cells r (if k == .free then (n, (cells.lookup n).getD 0) :: cs else cs)
theorem clos_eq {sc : Scope} {env : Env} (h : ∀ p ∈ sc.names, p.2 = .free → ∃ c, env.cells.lookup p.1 = some c) : closureFor sc env = pure (closF env.cells sc.names []) := by
  have key : ∀ (names : List (Str × NameKind)) (cs : List (Str × Addr)), (∀ p ∈ names, p.2 = .free → ∃ c, env.cells.lookup p.1 = some c) →
      (forIn names cs fun x t => match x with
        | (name, kind) => if (kind == NameKind.free) = true then do
              let a ← cellOf env name
              pure (ForInStep.yield ((name, a) :: t))
            else pure (ForInStep.yield t)) = (pure (closF env.cells names cs) : Sem (List (Str × Addr))) := by
    intro names
    induction names with
    | nil => intro cs _; rfl
    | cons p r ih =>
      intro cs hp
      obtain ⟨n, k⟩ := p
      rw [List.forIn_cons]
      cases hk : k == NameKind.free with
      | true =>
        obtain ⟨c, hc⟩ := hp (n, k) (.head _) (beq_iff_eq.mp hk)
        have hc' : env.cells.lookup n = some c := hc
        have e1 : cellOf env n = pure c := by unfold cellOf; rw [hc']
        have e2 : closF env.cells ((n, k) :: r) cs = closF env.cells r ((n, c) :: cs) := by
          show closF env.cells r (if (k == NameKind.free) = true then _ else _) = _
          rw [hk, hc', if_pos rfl]
          rfl
        rw [e2, ← ih ((n, c) :: cs) fun q hq => hp q (.tail _ hq)]
        simp only [hk, if_true, e1]
        rfl
      | false =>
        have e2 : closF env.cells ((n, k) :: r) cs = closF env.cells r cs := by
          show closF env.cells r (if (k == NameKind.free) = true then _ else _) = _
          rw [hk, if_neg (by decide)]
        rw [e2, ← ih cs fun q hq => hp q (.tail _ hq)]
        simp only [hk, Bool.false_eq_true, if_false]
        rfl
  simp only [closureFor]
  rw [key sc.names [] h]
  rfl
theorem closF_sub {cells : List (Str × Addr)} : ∀ (names : List (Str × NameKind)) (cs : List (Str × Addr)), (∀ p ∈ names, p.2 = .free → ∃ c, cells.lookup p.1 = some c) → (∀ y c, cs.lookup y = some c → cells.lookup y = some c) →
    ∀ y c, (closF cells names cs).lookup y = some c → cells.lookup y = some c
  | [], _, _, h => h
  | (n, k) :: r, cs, hp, h => by
    refine closF_sub r _ (fun q hq => hp q (.tail _ hq)) fun y c e => ?_
    split at e
    · rename_i hk
      obtain ⟨c0, hc⟩ := hp (n, k) (.head _) (beq_iff_eq.mp hk)
      have hc' : cells.lookup n = some c0 := hc
      rw [List.lookup_cons] at e
      split at e
      · rename_i hy
        have : y = n := beq_iff_eq.mp hy
        subst this
        rw [hc'] at e
        cases e
        exact hc'
      · exact h y c e
    · exact h y c e
theorem closF_keep {cells : List (Str × Addr)} : ∀ (names : List (Str × NameKind)) (cs : List (Str × Addr)) (y : Str), (∃ c, cs.lookup y = some c) → ∃ c, (closF cells names cs).lookup y = some c
  | [], _, _, h => h
  | (n, k) :: r, cs, y, ⟨c, h⟩ => by
    refine closF_keep r _ y ?_
    split
    · rw [List.lookup_cons]
      split
      · exact ⟨_, rfl⟩
      · exact ⟨c, h⟩
    · exact ⟨c, h⟩
theorem closF_has {cells : List (Str × Addr)} : ∀ (names : List (Str × NameKind)) (cs : List (Str × Addr)) (y : Str), (y, NameKind.free) ∈ names → ∃ c, (closF cells names cs).lookup y = some c
  | [], _, _, h => nomatch h
  | (n, k) :: r, cs, y, h => by
    rcases List.mem_cons.mp h with e | h
    · have e1 : y = n := congrArg (·.1) e
      have e2 : NameKind.free = k := congrArg (·.2) e
      subst e1 e2
      refine closF_keep r _ _ ?_
      rw [if_pos (by decide), List.lookup_cons_self]
      exact ⟨_, rfl⟩
    · exact closF_has r _ y h
theorem mem_of_lookup {κ β : Type} [BEq κ] [LawfulBEq κ] {l : List (κ × β)} {y : κ} {k : β} (h : l.lookup y = some k) : (y, k) ∈ l := by
  induction l with
  | nil => cases h
  | cons p r ih =>
    obtain ⟨n, b⟩ := p
    rw [List.lookup_cons] at h
    split at h
    · rename_i hy
      have : y = n := beq_iff_eq.mp hy
      subst this
      cases h
      exact .head _
    · exact .tail _ (ih h)
section
variable {CX : CXT} {P : Program} {w : World} {K : PySem.W.Frag} {mg : Str → Option Value} {base : Heap} {N : List Str} {qual : Str} {sc0 : Scope} {f : Addr} {cd : Value} {A : Around} {outer : List Env} {s : Shared} {H : Hp} {E : XK} {XE : Value → Shared → Prop}
structure LcNames (N : List Str) (sc0 sc : Scope) (fr : List Nat) : Prop where
  kind : sc.kind = .function
  kind0 : sc0.kind = .function
  nocell : ∀ y ∈ sc.names, y.2 ≠ .cell
  loc : ∀ y ∈ sc.names, y.2 = .local → sc.names.lookup y.1 = some .local
  fre : ∀ y ∈ sc.names, y.2 = .free → sc0.names.lookup y.1 = some .cell
  frs : ∀ j ∈ fr, sc.names.lookup (N.getD j "") = some .free ∧ j < N.length
theorem lookup_relabel {env : Env} : ∀ {names : List (Str × NameKind)} {y : Str} {k : NameKind}, (names.map fun (n, k) => if (k == NameKind.free && env.scope.kind == .function && env.kindOf n == some .cell) then (n, NameKind.cell) else (n, k)).lookup y = some k →
    ∃ k0, names.lookup y = some k0 ∧ (k = k0 ∨ (k = .cell ∧ k0 = .free))
  | [], _, _, h => by cases h
  | (n, k0) :: r, y, k, h => by
    rw [List.map_cons] at h
    simp only at h
    split at h
    · rename_i hc
      rw [List.lookup_cons] at h ⊢
      split at h
      · cases h
        simp only [Bool.and_eq_true, beq_iff_eq] at hc
        exact ⟨k0, rfl, .inr ⟨rfl, hc.1.1⟩⟩
      · exact lookup_relabel h
    · rw [List.lookup_cons] at h ⊢
      split at h
      · cases h
        exact ⟨k0, rfl, .inl rfl⟩
      · exact lookup_relabel h
theorem lookup_relabel_free {env : Env} : ∀ {names : List (Str × NameKind)} {y : Str}, names.lookup y = some .free →
    (names.map fun (n, k) => if (k == NameKind.free && env.scope.kind == .function && env.kindOf n == some .cell) then (n, NameKind.cell) else (n, k)).lookup y = some .cell ∨
    (names.map fun (n, k) => if (k == NameKind.free && env.scope.kind == .function && env.kindOf n == some .cell) then (n, NameKind.cell) else (n, k)).lookup y = some .free
  | [], _, h => by cases h
  | (n, k0) :: r, y, h => by
    rw [List.map_cons]
    rw [List.lookup_cons] at h
    simp only
    split at h
    · rename_i hy
      cases h
      split
      · left; rw [List.lookup_cons, hy]
      · right; rw [List.lookup_cons, hy]
    · rename_i hy
      split
      · rw [List.lookup_cons, hy]; exact lookup_relabel_free h
      · rw [List.lookup_cons, hy]; exact lookup_relabel_free h
structure LcNamesC (N : List Str) (sc0 sc : Scope) (fr : List Nat) : Prop where
  kind : sc.kind = .function
  kind0 : sc0.kind = .function
  own : ∀ y ∈ sc.names, y.2 = .cell → ∀ z ∈ sc.names, z.2 = .free → z.1 ≠ y.1
  loc : ∀ y ∈ sc.names, y.2 = .local → sc.names.lookup y.1 = some .local
  fre : ∀ y ∈ sc.names, y.2 = .free → sc0.names.lookup y.1 = some .cell
  frs : ∀ j ∈ fr, sc.names.lookup (N.getD j "") = some .free ∧ j < N.length
theorem closF_none {cells : List (Str × Addr)} : ∀ (names : List (Str × NameKind)) (cs : List (Str × Addr)) (y : Str), (∀ z ∈ names, z.2 = .free → z.1 ≠ y) → cs.lookup y = none → (closF cells names cs).lookup y = none
  | [], _, _, _, h => h
  | (n, k) :: r, cs, y, hn, h => by
    refine closF_none r _ y (fun z hz => hn z (.tail _ hz)) ?_
    split
    · rename_i hk
      have hne : n ≠ y := hn (n, k) (.head _) (beq_iff_eq.mp hk)
      have hb : (y == n) = false := beq_eq_false_iff_ne.mpr fun e => hne e.symm
      rw [List.lookup_cons, hb]
      exact h
    · exact h
theorem lcsC {sc : Scope} {fr : List Nat} (L : LcNamesC N sc0 sc fr) : LcScope ((cxOf CX P w K mg base N qual sc0 f cd A outer s H E).wish XE) sc (closF (cellsFrom (s.heap.objs.size + 1) sc0.names []) sc.names []) fr := by
  have hfree : ∀ p ∈ sc.names, p.2 = .free → ∃ c, (cellsFrom (s.heap.objs.size + 1) sc0.names []).lookup p.1 = some c := fun p hp e => cell_has (L.fre p hp e)
  refine ⟨clos_eq hfree, L.kind, fun y hy => closF_none _ _ y (L.own _ hy rfl) rfl, L.loc, closF_sub _ _ hfree (fun _ _ e => nomatch e), fun y hy => ?_, fun j hj => ?_⟩
  · have hk : sc.names.lookup y = some .free ∨ sc.names.lookup y = some .cell := by
      rcases hy with hy | hy
      · obtain ⟨k0, h1, h2⟩ := lookup_relabel hy
        rcases h2 with h2 | ⟨_, h2⟩
        · rw [← h2] at h1; exact .inr h1
        · rw [h2] at h1; exact .inl h1
      · obtain ⟨k0, h1, h2⟩ := lookup_relabel hy
        rcases h2 with h2 | ⟨h2, _⟩
        · rw [← h2] at h1; exact .inl h1
        · cases h2
    exact hk.imp (fun q => closF_has _ _ y (mem_of_lookup q)) mem_of_lookup
  · obtain ⟨h1, h2⟩ := L.frs j hj
    have hm := mem_of_lookup h1
    have h3 := L.fre _ hm rfl
    refine ⟨N.getD j "", ?_, ?_, .inr (.inl h3), ?_, closF_has _ _ _ hm⟩
    · show N[j]? = some (N.getD j "")
      rw [List.getD_eq_getElem?_getD, List.getElem?_eq_getElem h2]
      rfl
    · exact lookup_relabel_free h1
    · intro z
      have z' : sc0.names.lookup (N.getD j "") = some .local := z
      have h3' : sc0.names.lookup (N.getD j "") = some .cell := h3
      rw [h3'] at z'
      cases z'
theorem lcs {sc : Scope} {fr : List Nat} (L : LcNames N sc0 sc fr) : LcScope ((cxOf CX P w K mg base N qual sc0 f cd A outer s H E).wish XE) sc (closF (cellsFrom (s.heap.objs.size + 1) sc0.names []) sc.names []) fr :=
  lcsC ⟨L.kind, L.kind0, fun y hy e => absurd e (L.nocell y hy), L.loc, L.fre, L.frs⟩
end
section
variable {X : Cx} {K : PySem.W.Frag}
theorem ix_tupK (h : X.K = K) : IxR X (rIxT K) := h ▸ ix_tup
theorem ix_listK (h : X.K = K) : IxR X (rIxL K) := h ▸ ix_list
theorem call_lenK (h : X.K = K) : CallR X (.builtin "len") (fun xs H Q => ∃ p ys, xs = [.ref p] ∧ (SqL K H p ys ∨ SqT K H p ys) ∧ Q (.int ys.length) H) := h ▸ call_len_seq
end
end L2
namespace L2
open PySem PySem.Spec PyProof.Rows
theorem Same.tup {K : PySem.W.Frag} {H H' : Hp} {a : Addr} {xs : List V} (e : Same H H') (h : SqT K H a xs) : SqT K H' a xs := by
  rcases h with (h | ⟨o, h⟩) | h
  · exact .inl (.inl (e _ _ h))
  · exact .inl (.inr ⟨o, e _ _ h⟩)
  · exact .inr h
theorem Same.upd {H H' : Hp} {p : Addr} {o : HO} (e : Same H H') (hp : H p = none) : Same H (L2.upd H' p o) := fun b u h => by
  rw [upd_ne (ne_of_none h hp)]; exact e b u h
theorem Same.new {H : Hp} {p : Addr} {o : HO} (hp : H p = none) : Same H (L2.upd H p o) := (Same.refl H).upd hp
theorem small_lt {a : Int} (h0 : 0 ≤ a) (h : a < 2 ^ 60) : a.natAbs < 2 ^ 8000 := by
  have big : (2 : Nat) ^ 60 < 2 ^ 8000 := Nat.pow_lt_pow_right (by decide) (by decide)
  omega
section
variable {P : Program} {w : World} {K : PySem.W.Frag} {mg : Str → Option Value} {base : Heap}
theorem Fun.d {x qual : Str} {st : Stmt} {f : Addr} {fd : FuncData} (F : Fun K x qual st f fd) : FunD K x qual st .none f fd := ⟨F.ex, F.kp⟩
end
end L2
namespace L2
open PySem PySem.Spec PyProof.Rows
section
variable {X : Cx} {tg : Expr}
theorem boolsAre {bs : List Bool} {its : List Value} (r : Vals (bs.map V.bl) its) : PyProof.Rows.LSm.BoolsAre its bs := by
  induction bs generalizing its with
  | nil => cases r; exact .nil
  | cons y ys ih =>
    cases r with
    | cons r1 rr =>
      cases r1
      exact .cons _ (ih rr)
end
end L2
namespace L2
open PySem PySem.Spec PyProof.Rows
inductive Tr where
  | fz (d : Dv)
  | ow (ts : List Tr)
  | tp (ts : List Tr)
mutual
def Ow (K : PySem.W.Frag) (G H : Hp) : Tr → V → List Addr → Prop
  | .fz d, v, fp => fp = [] ∧ Hv K G d v
  | .ow ts, v, fp => ∃ a vs fq, v = .ref a ∧ H a = some (.lst vs) ∧ OwL K G H ts vs fq ∧ fp = a :: fq
  | .tp ts, v, fp => ∃ a vs fq, v = .ref a ∧ H a = some (.tup vs) ∧ OwL K G H ts vs fq ∧ fp = a :: fq
def OwL (K : PySem.W.Frag) (G H : Hp) : List Tr → List V → List Addr → Prop
  | [], vs, fp => vs = [] ∧ fp = []
  | t :: ts, vs, fp => ∃ v r f1 f2, vs = v :: r ∧ fp = f1 ++ f2 ∧ Ow K G H t v f1 ∧ OwL K G H ts r f2
end
mutual
def er : Tr → Dv
  | .fz d => d
  | .ow ts => .lst (ers ts)
  | .tp ts => .tup (ers ts)
def ers : List Tr → List Dv
  | [] => []
  | t :: ts => er t :: ers ts
end
theorem ers_map : ∀ ts : List Tr, ers ts = ts.map er
  | [] => rfl
  | t :: ts => by rw [ers, ers_map ts]; rfl
mutual
theorem Hv.mono {K : PySem.W.Frag} {G G' : Hp} (e : Same G G') : ∀ {d : Dv} {v : V}, Hv K G d v → Hv K G' d v
  | .fl _, _, h => h
  | .lst ds, _, ⟨a, xs, h1, h2, h3⟩ => ⟨a, xs, h1, e.seq h2, HvL.mono e h3⟩
  | .tup ds, _, ⟨a, xs, h1, h2, h3⟩ => ⟨a, xs, h1, e.tup h2, HvL.mono e h3⟩
theorem HvL.mono {K : PySem.W.Frag} {G G' : Hp} (e : Same G G') : ∀ {ds : List Dv} {vs : List V}, HvL K G ds vs → HvL K G' ds vs
  | [], _, h => h
  | _ :: _, _, ⟨x, r, h1, h2, h3⟩ => ⟨x, r, h1, h2.mono e, HvL.mono e h3⟩
end
mutual
theorem Ow.mono {K : PySem.W.Frag} {G G' H H' : Hp} (e : Same G G') (e' : Same H H') : ∀ {t : Tr} {v : V} {fp : List Addr}, Ow K G H t v fp → Ow K G' H' t v fp
  | .fz _, _, _, ⟨h1, h2⟩ => ⟨h1, h2.mono e⟩
  | .ow _, _, _, ⟨a, vs, fq, h1, h2, h3, h4⟩ => ⟨a, vs, fq, h1, e' _ _ h2, OwL.mono e e' h3, h4⟩
  | .tp _, _, _, ⟨a, vs, fq, h1, h2, h3, h4⟩ => ⟨a, vs, fq, h1, e' _ _ h2, OwL.mono e e' h3, h4⟩
theorem OwL.mono {K : PySem.W.Frag} {G G' H H' : Hp} (e : Same G G') (e' : Same H H') : ∀ {ts : List Tr} {vs : List V} {fp : List Addr}, OwL K G H ts vs fp → OwL K G' H' ts vs fp
  | [], _, _, h => h
  | _ :: _, _, _, ⟨v, r, f1, f2, h1, h2, h3, h4⟩ => ⟨v, r, f1, f2, h1, h2, h3.mono e e', OwL.mono e e' h4⟩
end
mutual
theorem Ow.frame {K : PySem.W.Frag} {G H : Hp} {a : Addr} {o : HO} : ∀ {t : Tr} {v : V} {fp : List Addr}, Ow K G H t v fp → a ∉ fp → Ow K G (upd H a o) t v fp
  | .fz _, _, _, h, _ => h
  | .ow _, _, _, ⟨b, vs, fq, h1, h2, h3, h4⟩, n => by
    subst h4
    refine ⟨b, vs, fq, h1, ?_, OwL.frame h3 fun z => n (.tail _ z), rfl⟩
    rw [upd_ne fun z => n (by rw [z]; exact .head _)]
    exact h2
  | .tp _, _, _, ⟨b, vs, fq, h1, h2, h3, h4⟩, n => by
    subst h4
    refine ⟨b, vs, fq, h1, ?_, OwL.frame h3 fun z => n (.tail _ z), rfl⟩
    rw [upd_ne fun z => n (by rw [z]; exact .head _)]
    exact h2
theorem OwL.frame {K : PySem.W.Frag} {G H : Hp} {a : Addr} {o : HO} : ∀ {ts : List Tr} {vs : List V} {fp : List Addr}, OwL K G H ts vs fp → a ∉ fp → OwL K G (upd H a o) ts vs fp
  | [], _, _, h, _ => h
  | _ :: _, _, _, ⟨v, r, f1, f2, h1, h2, h3, h4⟩, n => by
    subst h2
    exact ⟨v, r, f1, f2, h1, rfl, h3.frame fun z => n (List.mem_append_left _ z), OwL.frame h4 fun z => n (List.mem_append_right _ z)⟩
end
mutual
theorem Ow.there {K : PySem.W.Frag} {G H : Hp} : ∀ {t : Tr} {v : V} {fp : List Addr}, Ow K G H t v fp → ∀ a ∈ fp, ∃ o, H a = some o
  | .fz _, _, _, ⟨h, _⟩, a, ha => by subst h; cases ha
  | .ow _, _, _, ⟨b, vs, fq, h1, h2, h3, h4⟩, a, ha => by
    subst h4
    rcases List.mem_cons.mp ha with rfl | ha
    · exact ⟨_, h2⟩
    · exact OwL.there h3 a ha
  | .tp _, _, _, ⟨b, vs, fq, h1, h2, h3, h4⟩, a, ha => by
    subst h4
    rcases List.mem_cons.mp ha with rfl | ha
    · exact ⟨_, h2⟩
    · exact OwL.there h3 a ha
theorem OwL.there {K : PySem.W.Frag} {G H : Hp} : ∀ {ts : List Tr} {vs : List V} {fp : List Addr}, OwL K G H ts vs fp → ∀ a ∈ fp, ∃ o, H a = some o
  | [], _, _, ⟨_, h⟩, a, ha => by subst h; cases ha
  | _ :: _, _, _, ⟨v, r, f1, f2, h1, h2, h3, h4⟩, a, ha => by
    subst h2
    rcases List.mem_append.mp ha with ha | ha
    · exact h3.there a ha
    · exact OwL.there h4 a ha
end
mutual
theorem Ow.hv {K : PySem.W.Frag} {G H G' : Hp} (e : Same G G') : ∀ {t : Tr} {v : V} {fp : List Addr}, Ow K G H t v fp → (∀ a ∈ fp, G' a = H a) → Hv K G' (er t) v
  | .fz _, _, _, ⟨_, h⟩, _ => h.mono e
  | .ow _, _, _, ⟨b, vs, fq, h1, h2, h3, h4⟩, q => by
    subst h4
    exact ⟨b, vs, h1, SqL.of ((q b (.head _)).trans h2), OwL.hv e h3 fun a ha => q a (.tail _ ha)⟩
  | .tp _, _, _, ⟨b, vs, fq, h1, h2, h3, h4⟩, q => by
    subst h4
    exact ⟨b, vs, h1, SqT.of ((q b (.head _)).trans h2), OwL.hv e h3 fun a ha => q a (.tail _ ha)⟩
theorem OwL.hv {K : PySem.W.Frag} {G H G' : Hp} (e : Same G G') : ∀ {ts : List Tr} {vs : List V} {fp : List Addr}, OwL K G H ts vs fp → (∀ a ∈ fp, G' a = H a) → HvL K G' (ers ts) vs
  | [], _, _, ⟨h, _⟩, _ => h
  | _ :: _, _, _, ⟨v, r, f1, f2, h1, h2, h3, h4⟩, q => by
    subst h2
    exact ⟨v, r, h1, h3.hv e fun a ha => q a (List.mem_append_left _ ha), OwL.hv e h4 fun a ha => q a (List.mem_append_right _ ha)⟩
end
theorem OwL.length {K : PySem.W.Frag} {G H : Hp} : ∀ {ts : List Tr} {vs : List V} {fp : List Addr}, OwL K G H ts vs fp → ts.length = vs.length
  | [], _, _, ⟨h, _⟩ => by subst h; rfl
  | _ :: _, _, _, ⟨v, r, f1, f2, h1, h2, h3, h4⟩ => by subst h1; rw [List.length_cons, List.length_cons, OwL.length h4]
theorem OwL.append {K : PySem.W.Frag} {G H : Hp} : ∀ {ts us : List Tr} {vs ws : List V} {f1 f2 : List Addr}, OwL K G H ts vs f1 → OwL K G H us ws f2 → OwL K G H (ts ++ us) (vs ++ ws) (f1 ++ f2)
  | [], us, _, ws, _, f2, ⟨h, h'⟩, q => by subst h h'; exact q
  | _ :: _, us, _, ws, _, f2, ⟨v, r, g1, g2, h1, h2, h3, h4⟩, q => by
    subst h1 h2
    exact ⟨v, r ++ ws, g1, g2 ++ f2, rfl, by rw [List.append_assoc], h3, OwL.append h4 q⟩
theorem HvL.owl {K : PySem.W.Frag} {G H : Hp} : ∀ {ds : List Dv} {vs : List V}, HvL K G ds vs → OwL K G H (ds.map .fz) vs []
  | [], _, h => ⟨h, rfl⟩
  | _ :: _, _, ⟨x, r, h1, h2, h3⟩ => ⟨x, r, [], [], h1, rfl, ⟨rfl, h2⟩, HvL.owl h3⟩
structure Step (G H G' H' : Hp) : Prop where
  g : Same G G'
  h : Same H H'
  s : Same G' H'
  n : ∀ a, G a = none → G' a ≠ none → H a = none
theorem Step.refl {G H : Hp} (s : Same G H) : Step G H G H := ⟨Same.refl _, Same.refl _, s, fun a h h' => absurd h h'⟩
theorem Step.trans {G H G1 H1 G2 H2 : Hp} (a : Step G H G1 H1) (b : Step G1 H1 G2 H2) : Step G H G2 H2 :=
  ⟨a.g.trans b.g, a.h.trans b.h, b.s, fun x h h' => by
    cases q : G1 x with
    | none => exact a.h.free (b.n x q h')
    | some o => exact a.n x h (by rw [q]; exact fun z => nomatch z)⟩
theorem Same.upd2 {G H : Hp} {p : Addr} {o : HO} (s : Same G H) : Same (L2.upd G p o) (L2.upd H p o) := fun b u h => by
  unfold L2.upd at h ⊢
  split
  · rename_i e; rw [if_pos e] at h; exact h
  · rename_i e; rw [if_neg e] at h; exact s b u h
theorem Step.new {G H : Hp} {p : Addr} {o : HO} (s : Same G H) (hp : H p = none) : Step G H (upd G p o) (upd H p o) :=
  ⟨Same.new (s.free hp), Same.new hp, s.upd2, fun a h h' => by
    by_cases e : a = p
    · subst e; exact hp
    · rw [upd_ne e] at h'; exact absurd h h'⟩
theorem Step.newO {G H : Hp} {p : Addr} {o : HO} (s : Same G H) (hp : H p = none) : Step G H G (upd H p o) :=
  ⟨Same.refl _, Same.new hp, s.trans (Same.new hp), fun a h h' => absurd h h'⟩
structure Nw (H G' : Hp) (fq : List Addr) : Prop where
  n : ∀ a ∈ fq, H a = none
  g : ∀ a ∈ fq, G' a = none
  d : fq.Nodup
theorem Nw.nil {H G : Hp} : Nw H G [] := ⟨fun _ h => (nomatch h), fun _ h => (nomatch h), .nil⟩
def Kv (K : PySem.W.Frag) (G H : Hp) (t : Tr) (Q : VK) : Prop := ∀ v G' H' fq, Step G H G' H' → Ow K G' H' t v fq → Nw H G' fq → Q v H'
theorem Kv.step {K : PySem.W.Frag} {G H G1 H1 : Hp} {t : Tr} {Q : VK} (k : Kv K G H t Q) (e : Step G H G1 H1) : Kv K G1 H1 t Q := fun v G' H' fq st o w =>
  k v G' H' fq (e.trans st) o ⟨fun a ha => e.h.free (w.n a ha), w.g, w.d⟩
def frzd (G H : Hp) (fq : List Addr) : Hp := fun a => if a ∈ fq then H a else G a
theorem frzd_in {G H : Hp} {fq : List Addr} {a : Addr} (h : a ∈ fq) : frzd G H fq a = H a := by unfold frzd; rw [if_pos h]
theorem frzd_out {G H : Hp} {fq : List Addr} {a : Addr} (h : a ∉ fq) : frzd G H fq a = G a := by unfold frzd; rw [if_neg h]
theorem frzd_same {G H : Hp} {fq : List Addr} (h : ∀ a ∈ fq, G a = none) : Same G (frzd G H fq) := fun b o e => by
  by_cases q : b ∈ fq
  · rw [h b q] at e; cases e
  · rw [frzd_out q]; exact e
theorem frzd_sub {G H : Hp} {fq : List Addr} (s : Same G H) : Same (frzd G H fq) H := fun b o e => by
  by_cases q : b ∈ fq
  · rw [frzd_in q] at e; exact e
  · rw [frzd_out q] at e; exact s b o e
theorem Step.frz {G H G' H' : Hp} {fq : List Addr} (e : Step G H G' H') (w : Nw H G' fq) : Step G H (frzd G' H' fq) H' :=
  ⟨e.g.trans (frzd_same w.g), e.h, frzd_sub e.s, fun a h h' => by
    by_cases q : a ∈ fq
    · exact w.n a q
    · rw [frzd_out q] at h'; exact e.n a h h'⟩
structure Fam (ι : Type) where
  cx : ι → Cx
  P : Program
  w : World
  K : PySem.W.Frag
  mg : Str → Option Value
  base : Heap
  room : Nat
  hP : ∀ i, (cx i).prog = P
  hw : ∀ i, (cx i).w = w
  hK : ∀ i, (cx i).K = K
  hm : ∀ i, (cx i).mg = mg
  hb : ∀ i, (cx i).base = base
  hr : ∀ i, Room room (cx i).A
  calm : ∀ i, (cx i).calm = true
abbrev En := List (Option Tr)
def RpD (K : PySem.W.Frag) (G : Hp) (ρ : En) (σ : St) : Prop := ∀ (j : Nat) (d : Dv), ρ[j]? = some (some (Tr.fz d)) → ∃ v, σ[j]? = some (some v) ∧ Hv K G d v
theorem RpD.mono {K : PySem.W.Frag} {G G' : Hp} {ρ : En} {σ : St} (e : Same G G') (r : RpD K G ρ σ) : RpD K G' ρ σ := fun j d h => by
  obtain ⟨v, h1, h2⟩ := r j d h
  exact ⟨v, h1, h2.mono e⟩
section
variable {ι : Type}
def Ev (F : Fam ι) (e : Expr) (ρ : En) (t : Tr) : Prop := ∃ τ : TE, (∀ i, PE (F.cx i) e τ) ∧ ∀ σ G H Q, Same G H → RpD F.K G ρ σ → Kv F.K G H t Q → τ σ H Q
def Et (F : Fam ι) (e : Expr) (ρ : En) (b : Bool) : Prop := ∃ τ : TT, (∀ i, PT (F.cx i) e τ) ∧ ∀ σ G H Q, Same G H → RpD F.K G ρ σ → (∀ G' H', Step G H G' H' → Q b H') → τ σ H Q
def EvA (F : Fam ι) (es : List Expr) (ρ : En) (ts : List Tr) : Prop := ∃ τ : TA, (∀ i, PA (F.cx i) es τ) ∧ ∀ σ G H Q, Same G H → RpD F.K G ρ σ →
  (∀ vs G' H' fq, Step G H G' H' → OwL F.K G' H' ts vs fq → Nw H G' fq → Q vs H') → τ σ H Q
variable {F : Fam ι} {e a b : Expr} {es : List Expr} {ρ : En} {t ta tb : Tr} {ts : List Tr}
theorem Ev.use (h : Ev F e ρ t) : ∃ τ : TE, (∀ i, PE (F.cx i) e τ) ∧ ∀ σ G H (Q : VK), Same G H → RpD F.K G ρ σ → (∀ v G' H', Step G H G' H' → Hv F.K G' (er t) v → Q v H') → τ σ H Q := by
  obtain ⟨τ, p, q⟩ := h
  refine ⟨τ, p, fun σ G H Q s r k => q σ G H Q s r fun v G' H' fq st o w => ?_⟩
  exact k v (frzd G' H' fq) H' (st.frz w) (o.hv (frzd_same w.g) fun a ha => frzd_in ha)
theorem Ev.fz (h : Ev F e ρ t) : Ev F e ρ (.fz (er t)) := by
  obtain ⟨τ, p, q⟩ := h.use
  exact ⟨τ, p, fun σ G H Q s r k => q σ G H Q s r fun v G' H' st hv => k v G' H' [] st ⟨rfl, hv⟩ .nil⟩
theorem Ev.as {d : Dv} (h : Ev F e ρ t) (ed : er t = d) : Ev F e ρ (.fz d) := ed ▸ h.fz
theorem EvA.use (h : EvA F es ρ ts) : ∃ τ : TA, (∀ i, PA (F.cx i) es τ) ∧ ∀ σ G H (Q : List V → Hp → Prop), Same G H → RpD F.K G ρ σ → (∀ vs G' H', Step G H G' H' → HvL F.K G' (ers ts) vs → Q vs H') → τ σ H Q := by
  obtain ⟨τ, p, q⟩ := h
  refine ⟨τ, p, fun σ G H Q s r k => q σ G H Q s r fun v G' H' fq st o w => ?_⟩
  exact k v (frzd G' H' fq) H' (st.frz w) (o.hv (frzd_same w.g) fun a ha => frzd_in ha)
theorem eva_nil : EvA F [] ρ [] := ⟨tNil, fun i => pa_nil, fun σ G H Q s r k => k [] G H [] (.refl s) ⟨rfl, rfl⟩ .nil⟩
theorem Nw.app {H G1 H1 G2 : Hp} {f1 f2 : List Addr} (w1 : Nw H G1 f1) (w2 : Nw H1 G2 f2) (hh : Same H H1) (th : ∀ a ∈ f1, ∃ o, H1 a = some o) (hg : ∀ a, G1 a = none → G2 a ≠ none → H1 a = none) : Nw H G2 (f1 ++ f2) :=
  ⟨fun a ha => (List.mem_append.mp ha).elim (w1.n a) fun z => hh.free (w2.n a z), fun a ha => (List.mem_append.mp ha).elim (fun z => by
      cases q : G2 a with
      | none => rfl
      | some o =>
        obtain ⟨u, hu⟩ := th a z
        have := hg a (w1.g a z) (by rw [q]; exact fun z => nomatch z)
        rw [hu] at this; cases this) (w2.g a),
    List.nodup_append.mpr ⟨w1.d, w2.d, fun a ha b hb e => by
      subst e
      obtain ⟨u, hu⟩ := th a ha
      rw [w2.n a hb] at hu; cases hu⟩⟩
theorem eva_cons (ha : Ev F e ρ t) (hr : EvA F es ρ ts) (hs : ∀ i, starEach (e :: es) (F.cx i).env = (false, eval e (F.cx i).env) :: starEach es (F.cx i).env := by intro _; rfl) : EvA F (e :: es) ρ (t :: ts) := by
  obtain ⟨τ, p, q⟩ := ha
  obtain ⟨τ', p', q'⟩ := hr
  refine ⟨tCons τ τ', fun i => pa_cons (p i) (p' i) (hs i), fun σ G H Q s r k => ?_⟩
  refine q σ G H _ s r fun v G1 H1 f1 s1 o1 w1 => q' σ G1 H1 _ s1.s (r.mono s1.g) fun vs G2 H2 f2 s2 o2 w2 => ?_
  exact k (v :: vs) G2 H2 (f1 ++ f2) (s1.trans s2) ⟨v, vs, f1, f2, rfl, rfl, o1.mono s2.g s2.h, o2⟩ (w1.app w2 s1.h (fun a ha => o1.there a ha) s2.n)
end
end L2
namespace L2
open PySem PySem.Spec PyProof.Rows
abbrev di (n : Int) : Dv := .fl (.int n)
abbrev db (b : Bool) : Dv := .fl (.bl b)
abbrev dn : Dv := .fl .non
abbrev dis (ns : List Int) : Dv := .lst (ns.map di)
abbrev ti (n : Int) : Tr := .fz (di n)
abbrev tb (b : Bool) : Tr := .fz (db b)
abbrev tn : Tr := .fz dn
theorem Kv.sc {K : PySem.W.Frag} {G H : Hp} {v : V} {Q : VK} (k : Kv K G H (.fz (.fl v)) Q) (s : Same G H) (f : flatV v = true) : Q v H := k v G H [] (.refl s) ⟨rfl, rfl, f⟩ .nil
theorem Kv.dat {K : PySem.W.Frag} {G H : Hp} {d : Dv} {v : V} {Q : VK} (k : Kv K G H (.fz d) Q) (s : Same G H) (h : Hv K G d v) : Q v H := k v G H [] (.refl s) ⟨rfl, h⟩ .nil
theorem Kv.lst {K : PySem.W.Frag} {G H : Hp} {ts : List Tr} {vs : List V} {Q : VK} (k : Kv K G H (.ow ts) Q) (s : Same G H) (h : OwL K G H ts vs []) {p : Addr} (hp : H p = none) : Q (.ref p) (upd H p (.lst vs)) :=
  k (.ref p) G _ [p] (.newO s hp) ⟨p, vs, [], rfl, upd_same, h.mono (Same.refl _) (Same.new hp), rfl⟩ ⟨fun a ha => by rw [List.mem_singleton.mp ha]; exact hp, fun a ha => by rw [List.mem_singleton.mp ha]; exact s.free hp, by simp⟩
theorem hvi {K : PySem.W.Frag} {G : Hp} {v x : V} (h : Hv K G (.fl v) x) : x = v := h.1
section
variable {ι : Type} {F : Fam ι} {e a b c : Expr} {es : List Expr} {ρ : En} {t ta tb' : Tr} {ts : List Tr} {pos : Pos}
theorem ev_nm (j : Nat) {d : Dv} {x : Str} (h : ρ[j]? = some (some (.fz d))) (hN : ∀ i, (F.cx i).N[j]? = some x := by intro _; rfl)
    (hv : ∀ i, Vis (F.cx i).env.scope x := by intro _; first | exact Or.inl rfl | exact Or.inr (Or.inl rfl) | exact Or.inr (Or.inr rfl)) (hd : (x == ("__debug__" : Str)) = false := by decide) (hc : (x == ("__classdict__" : Str)) = false := by decide) : Ev F (.Name x pos) ρ (.fz d) :=
  ⟨tVar j, fun i => pe_var (hN i) (hv i) hd hc, fun σ G H Q s r k => by
    obtain ⟨v, h1, h2⟩ := r j d h
    exact ⟨v, h1, k.dat s h2⟩⟩
theorem ev_int {n : Int} {j : Nat} : Ev F (.Constant (.int n) j pos) ρ (ti n) := ⟨_, fun i => pe_int, fun σ G H Q s r k => k.sc s rfl⟩
theorem ev_bl {n : Bool} {j : Nat} : Ev F (.Constant (.bool n) j pos) ρ (tb n) := ⟨_, fun i => pe_bl, fun σ G H Q s r k => k.sc s rfl⟩
theorem ev_glob {x : Str} {v : V} {u : Value} (hm : F.mg x = some u) (r : RelV v u) (f : flatV v = true) (hg : ∀ i, Gl (F.cx i) x := by intro _; rfl) (hd : (x == ("__debug__" : Str)) = false := by decide) : Ev F (.Name x pos) ρ (.fz (.fl v)) :=
  ⟨tC v, fun i => pe_glob (hg i) ((F.hm i).symm ▸ hm) r hd, fun σ G H Q s _ k => k.sc s f⟩
theorem ev_bin {op : Operator} {r : R2} (ho : ∀ i, OpR (F.cx i) (binaryOp op) r) (ha : Ev F a ρ ta) (hb : Ev F b ρ tb')
    (h : ∀ G H x y Q, Same G H → Hv F.K G (er ta) x → Hv F.K G (er tb') y → Kv F.K G H t Q → r x y H Q) : Ev F (.BinOp a op b pos) ρ t := by
  obtain ⟨τ, p, q⟩ := ha.use
  obtain ⟨τ', p', q'⟩ := hb.use
  refine ⟨tOp r τ τ', fun i => pe_op (ho i) (p i) (p' i), fun σ G H Q s rr k => ?_⟩
  refine q σ G H _ s rr fun x G1 H1 s1 hx => q' σ G1 H1 _ s1.s (rr.mono s1.g) fun y G2 H2 s2 hy => ?_
  exact h G2 H2 x y Q s2.s (hx.mono s2.g) hy (k.step (s1.trans s2))
theorem ev_add {i j : Int} (ha : Ev F a ρ (ti i)) (hb : Ev F b ρ (ti j)) : Ev F (.BinOp a .Add b pos) ρ (ti (i + j)) := ev_bin (fun _ => op_add) ha hb fun G H x y Q s hx hy k => ⟨i, j, hvi hx, hvi hy, k.sc s rfl⟩
theorem ev_sub {i j : Int} (ha : Ev F a ρ (ti i)) (hb : Ev F b ρ (ti j)) : Ev F (.BinOp a .Sub b pos) ρ (ti (i - j)) := ev_bin (fun _ => op_sub) ha hb fun G H x y Q s hx hy k => ⟨i, j, hvi hx, hvi hy, k.sc s rfl⟩
theorem ev_div {i j : Int} (ha : Ev F a ρ (ti i)) (hb : Ev F b ρ (ti j)) (hc : CDivB i j) : Ev F (.BinOp a .FloorDiv b pos) ρ (ti (i / j)) := ev_bin (fun _ => op_fdivB) ha hb fun G H x y Q s hx hy k => ⟨i, j, hvi hx, hvi hy, hc, k.sc s rfl⟩
theorem ev_mod {i j : Int} (ha : Ev F a ρ (ti i)) (hb : Ev F b ρ (ti j)) (hc : 0 < j) : Ev F (.BinOp a .Mod b pos) ρ (ti (i % j)) := ev_bin (fun _ => op_mod) ha hb fun G H x y Q s hx hy k => ⟨i, j, hvi hx, hvi hy, hc, k.sc s rfl⟩
theorem ev_pow {i j : Int} (ha : Ev F a ρ (ti i)) (hb : Ev F b ρ (ti j)) (hc : CPow i j) : Ev F (.BinOp a .Pow b pos) ρ (ti (i ^ j.toNat)) := ev_bin (fun _ => op_pow) ha hb fun G H x y Q s hx hy k => ⟨i, j, hvi hx, hvi hy, hc, k.sc s rfl⟩
theorem ev_neg {i : Int} (ha : Ev F a ρ (ti i)) : Ev F (.UnaryOp .USub a pos) ρ (ti (-i)) := by
  obtain ⟨τ, p, q⟩ := ha.use
  exact ⟨_, fun i => pe_un un_neg (p i), fun σ G H Q s rr k => q σ G H _ s rr fun x G1 H1 s1 hx => ⟨i, hvi hx, (k.step s1).sc s1.s rfl⟩⟩
theorem ev_cat {xs ys : List Dv} (ha : Ev F a ρ ta) (hb : Ev F b ρ tb') (ea : er ta = .lst xs) (eb : er tb' = .lst ys) (hz : xs.length + ys.length ≤ sizeLine) : Ev F (.BinOp a .Add b pos) ρ (.ow ((xs ++ ys).map .fz)) :=
  ev_bin (r := rCatL F.K) (fun i => F.hK i ▸ op_catL) ha hb fun G H x y Q s hx hy k => by
    rw [ea] at hx
    rw [eb] at hy
    obtain ⟨l, vs, rfl, h1, h2⟩ := hx
    obtain ⟨l', ws, rfl, h3, h4⟩ := hy
    refine ⟨l, l', vs, ws, rfl, rfl, s.seq h1, s.seq h3, by rw [← h2.length, ← h4.length]; exact hz, fun p hp => ?_⟩
    refine k.lst s ?_ hp
    rw [List.map_append]
    exact h2.owl.append h4.owl
theorem ev_cmp {op : CmpOp} {r : R2} {c : Bool} (ho : ∀ i, OpR (F.cx i) (compareOp op) r) (ha : Ev F a ρ ta) (hb : Ev F b ρ tb')
    (h : ∀ G H x y (Q : VK), Same G H → Hv F.K G (er ta) x → Hv F.K G (er tb') y → Q (.bl c) H → r x y H Q) (hm : behindInMarks op b = false) : Ev F (.Compare a [op] [b] pos) ρ (tb c) := by
  obtain ⟨τ, p, q⟩ := ha.use
  obtain ⟨τ', p', q'⟩ := hb.use
  refine ⟨tOp r τ τ', fun i => pe_cmpR (ho i) (p i) (p' i) hm, fun σ G H Q s rr k => ?_⟩
  refine q σ G H _ s rr fun x G1 H1 s1 hx => q' σ G1 H1 _ s1.s (rr.mono s1.g) fun y G2 H2 s2 hy => ?_
  exact h G2 H2 x y Q s2.s (hx.mono s2.g) hy ((k.step (s1.trans s2)).sc s2.s rfl)
theorem et_cmp {op : CmpOp} {r : R2} {c : Bool} (ho : ∀ i, OpR (F.cx i) (compareOp op) r) (ha : Ev F a ρ ta) (hb : Ev F b ρ tb')
    (h : ∀ G H x y (Q : VK), Same G H → Hv F.K G (er ta) x → Hv F.K G (er tb') y → Q (.bl c) H → r x y H Q) (hm : behindInMarks op b = false) : Et F (.Compare a [op] [b] pos) ρ c := by
  obtain ⟨τ, p, q⟩ := ha.use
  obtain ⟨τ', p', q'⟩ := hb.use
  refine ⟨tTest (tOp r τ τ'), fun i => pt_cmpR (ho i) (p i) (p' i) hm, fun σ G H Q s rr k => ?_⟩
  refine q σ G H _ s rr fun x G1 H1 s1 hx => q' σ G1 H1 _ s1.s (rr.mono s1.g) fun y G2 H2 s2 hy => ?_
  exact h G2 H2 x y _ s2.s (hx.mono s2.g) hy ⟨c, rfl, k G2 H2 (s1.trans s2)⟩
theorem et_lt {i j : Int} (ha : Ev F a ρ (ti i)) (hb : Ev F b ρ (ti j)) : Et F (.Compare a [.Lt] [b] pos) ρ (decide (i < j)) := et_cmp (fun _ => op_lt) ha hb (fun G H x y Q s hx hy k => ⟨i, j, hvi hx, hvi hy, k⟩) (nomark _)
theorem et_gt {i j : Int} (ha : Ev F a ρ (ti i)) (hb : Ev F b ρ (ti j)) : Et F (.Compare a [.Gt] [b] pos) ρ (decide (j < i)) := et_cmp (fun _ => op_gt) ha hb (fun G H x y Q s hx hy k => ⟨i, j, hvi hx, hvi hy, k⟩) (nomark _)
theorem et_eq {i j : Int} (ha : Ev F a ρ (ti i)) (hb : Ev F b ρ (ti j)) : Et F (.Compare a [.Eq] [b] pos) ρ (decide (i = j)) := et_cmp (fun _ => op_eq) ha hb (fun G H x y Q s hx hy k => by
  rw [hvi hx, hvi hy]; exact ⟨rfl, by simpa using k⟩) (nomark _)
theorem et_ne {i j : Int} (ha : Ev F a ρ (ti i)) (hb : Ev F b ρ (ti j)) : Et F (.Compare a [.NotEq] [b] pos) ρ (!decide (i = j)) := et_cmp (fun _ => op_ne) ha hb (fun G H x y Q s hx hy k => by
  rw [hvi hx, hvi hy]; exact ⟨rfl, by simpa using k⟩) (nomark _)
theorem ev_lt {i j : Int} (ha : Ev F a ρ (ti i)) (hb : Ev F b ρ (ti j)) : Ev F (.Compare a [.Lt] [b] pos) ρ (tb (decide (i < j))) := ev_cmp (fun _ => op_lt) ha hb (fun G H x y Q s hx hy k => ⟨i, j, hvi hx, hvi hy, k⟩) (nomark _)
theorem ev_gt {i j : Int} (ha : Ev F a ρ (ti i)) (hb : Ev F b ρ (ti j)) : Ev F (.Compare a [.Gt] [b] pos) ρ (tb (decide (j < i))) := ev_cmp (fun _ => op_gt) ha hb (fun G H x y Q s hx hy k => ⟨i, j, hvi hx, hvi hy, k⟩) (nomark _)
theorem ev_ge {i j : Int} (ha : Ev F a ρ (ti i)) (hb : Ev F b ρ (ti j)) : Ev F (.Compare a [.GtE] [b] pos) ρ (tb (decide (j ≤ i))) := ev_cmp (fun _ => op_ge) ha hb (fun G H x y Q s hx hy k => ⟨i, j, hvi hx, hvi hy, k⟩) (nomark _)
theorem ev_eq {i j : Int} (ha : Ev F a ρ (ti i)) (hb : Ev F b ρ (ti j)) : Ev F (.Compare a [.Eq] [b] pos) ρ (tb (decide (i = j))) := ev_cmp (fun _ => op_eq) ha hb (fun G H x y Q s hx hy k => by
  rw [hvi hx, hvi hy]; exact ⟨rfl, by simpa using k⟩) (nomark _)
def alikeD (d e : Dv) : Prop := (∃ xs ys, d = .lst xs ∧ e = .lst ys) ∨ ∃ xs ys, d = .tup xs ∧ e = .tup ys
theorem et_eqS (ha : Ev F a ρ ta) (hb : Ev F b ρ tb') (hk : alikeD (er ta) (er tb')) (hd : dpD (er ta) ≤ 50) : Et F (.Compare a [.Eq] [b] pos) ρ (eqD (er ta) (er tb')) :=
  et_cmp (r := rEqS F.K false) (fun i => F.hK i ▸ op_eqS (F.hr i).units) ha hb (fun G H x y Q s hx hy k => ⟨_, _, hk, hx.mono s, hy.mono s, hd, k⟩) (nomark _)
theorem et_neS (ha : Ev F a ρ ta) (hb : Ev F b ρ tb') (hk : alikeD (er ta) (er tb')) (hd : dpD (er ta) ≤ 50) : Et F (.Compare a [.NotEq] [b] pos) ρ (!eqD (er ta) (er tb')) :=
  et_cmp (r := rEqS F.K true) (fun i => F.hK i ▸ op_neS (F.hr i).units) ha hb (fun G H x y Q s hx hy k => ⟨_, _, hk, hx.mono s, hy.mono s, hd, k⟩) (nomark _)
theorem hvl_ints {K : PySem.W.Frag} {G : Hp} : ∀ {ns : List Int} {vs : List V}, HvL K G (ns.map di) vs → vs = ns.map V.int
  | [], _, h => h
  | _ :: _, _, ⟨x, r, h1, h2, h3⟩ => by subst h1; rw [hvi h2, hvl_ints h3]; rfl
theorem ints_hvl {K : PySem.W.Frag} {G : Hp} : ∀ {ns : List Int}, HvL K G (ns.map di) (ns.map V.int)
  | [] => rfl
  | _ :: _ => ⟨_, _, rfl, ⟨rfl, rfl⟩, ints_hvl⟩
theorem inV_ints (n : Int) : ∀ ns : List Int, inV (.int n) (ns.map V.int) = ns.any fun m => m == n
  | [] => rfl
  | m :: ms => by
    show (eqV (.int m) (.int n) || inV (.int n) (ms.map V.int)) = _
    rw [inV_ints n ms]; rfl
theorem flat_ints (ns : List Int) : (ns.map V.int).all flatV = true := by rw [List.all_map]; exact List.all_eq_true.mpr fun _ _ => rfl
theorem any_contains (n : Int) (ns : List Int) : (ns.any fun m => m == n) = ns.contains n := by
  induction ns with
  | nil => rfl
  | cons m ms ih => rw [List.any_cons, ih, List.contains_cons]; congr 1; exact Bool.beq_comm
theorem in_int {n : Int} {ns : List Int} {neg : Bool} (eb : er tb' = dis ns) {G H : Hp} {x y : V} {Q : VK} (s : Same G H) (hx : Hv F.K G (er (ti n)) x) (hy : Hv F.K G (er tb') y) (k : Q (.bl (if neg then !ns.contains n else ns.contains n)) H) : rIn F.K neg x y H Q := by
  rw [eb] at hy
  obtain ⟨l, vs, rfl, h1, h2⟩ := hy
  have := hvl_ints h2
  subst this
  rw [hvi hx]
  refine ⟨l, _, rfl, .inl (s.seq h1), rfl, flat_ints ns, ?_⟩
  rw [inV_ints, any_contains]
  exact k
theorem et_in {n : Int} {ns : List Int} (ha : Ev F a ρ (ti n)) (hb : Ev F b ρ tb') (eb : er tb' = dis ns) (hm : behindInMarks .In b = false) : Et F (.Compare a [.In] [b] pos) ρ (ns.contains n) :=
  et_cmp (r := rIn F.K false) (fun i => F.hK i ▸ op_in_seq) ha hb (fun G H x y Q s hx hy k => in_int eb s hx hy k) hm
theorem et_notin {n : Int} {ns : List Int} (ha : Ev F a ρ (ti n)) (hb : Ev F b ρ tb') (eb : er tb' = dis ns) (hm : behindInMarks .NotIn b = false) : Et F (.Compare a [.NotIn] [b] pos) ρ (!ns.contains n) :=
  et_cmp (r := rIn F.K true) (fun i => F.hK i ▸ op_notIn_seq) ha hb (fun G H x y Q s hx hy k => in_int eb s hx hy k) hm
theorem et_val {c : Bool} (h : Ev F e ρ (tb c)) (he : ∀ i whole, isTrue e (F.cx i).env whole = (do let v ← whole; standAt e.pos; holding [v] (truthy v)) := by intro _ _; rfl) : Et F e ρ c := by
  obtain ⟨τ, p, q⟩ := h
  exact ⟨tB τ, fun i => pt_val (p i) (he i), fun σ G H Q s r k => q σ G H _ s r fun v G' H' fq st o w => ⟨c, hvi o.2, k G' H' st⟩⟩
def Ew (F : Fam ι) (e : Expr) (ρ : En) (b : Bool) : Prop := ∃ τ : TT, (∀ i, PW (F.cx i) e τ) ∧ ∀ σ G H Q, Same G H → RpD F.K G ρ σ → (∀ G' H', Step G H G' H' → Q b H') → τ σ H Q
theorem Ew.et {p : Bool} (h : Ew F e ρ p) : Et F e ρ p := let ⟨τ, a, b⟩ := h; ⟨τ, fun i => (a i).pt, b⟩
theorem pw_never {X : Cx} : PW X e (fun _ _ _ => False) := fun _ _ _ _ _ _ _ h => h.elim
theorem ew_and1 {p : Bool} (h : Et F a ρ p) : Ew F (.BoolOp .And [a] pos) ρ p := let ⟨τ, x, y⟩ := h; ⟨τ, fun i => pw_and1 (x i), y⟩
theorem ew_or1 {p : Bool} (h : Et F a ρ p) : Ew F (.BoolOp .Or [a] pos) ρ p := let ⟨τ, x, y⟩ := h; ⟨τ, fun i => pw_or1 (x i), y⟩
theorem ew_and {p q : Bool} {rest : List Expr} (h : Et F a ρ p) (h2 : p = true → Ew F (.BoolOp .And (b :: rest) pos) ρ q) : Ew F (.BoolOp .And (a :: b :: rest) pos) ρ (p && q) := by
  obtain ⟨τ, x, y⟩ := h
  cases p with
  | false => exact ⟨tAnd τ _, fun i => pw_and (x i) pw_never, fun σ G H Q s r k => y σ G H _ s r fun G' H' st => iteF (k G' H' st)⟩
  | true =>
    obtain ⟨τ', x', y'⟩ := h2 rfl
    exact ⟨tAnd τ τ', fun i => pw_and (x i) (x' i), fun σ G H Q s r k => y σ G H _ s r fun G1 H1 s1 => iteT (y' σ G1 H1 _ s1.s (r.mono s1.g) fun G2 H2 s2 => k G2 H2 (s1.trans s2))⟩
theorem ew_or {p q : Bool} {rest : List Expr} (h : Et F a ρ p) (h2 : p = false → Ew F (.BoolOp .Or (b :: rest) pos) ρ q) : Ew F (.BoolOp .Or (a :: b :: rest) pos) ρ (p || q) := by
  obtain ⟨τ, x, y⟩ := h
  cases p with
  | true => exact ⟨tOr τ _, fun i => pw_or (x i) pw_never, fun σ G H Q s r k => y σ G H _ s r fun G' H' st => iteT (k G' H' st)⟩
  | false =>
    obtain ⟨τ', x', y'⟩ := h2 rfl
    exact ⟨tOr τ τ', fun i => pw_or (x i) (x' i), fun σ G H Q s r k => y σ G H _ s r fun G1 H1 s1 => iteF (y' σ G1 H1 _ s1.s (r.mono s1.g) fun G2 H2 s2 => k G2 H2 (s1.trans s2))⟩
theorem et_not {p : Bool} (h : Et F a ρ p) : Et F (.UnaryOp .Not a pos) ρ (!p) := by
  obtain ⟨τ, x, y⟩ := h
  exact ⟨tNot τ, fun i => pt_not (x i), fun σ G H Q s r k => y σ G H _ s r k⟩
theorem pe_never {X : Cx} : PE X e (fun _ _ _ => False) := fun _ _ _ _ _ _ h => h.elim
theorem ev_one {op : BoolOp} {t : Tr} (h : Ev F a ρ t) : Ev F (.BoolOp op [a] pos) ρ t := let ⟨τ, x, y⟩ := h; ⟨τ, fun i => pe_one (x i), y⟩
theorem ev_and {p q : Bool} {rest : List Expr} (h : Ev F a ρ (tb p)) (h2 : p = true → Ev F (.BoolOp .And (b :: rest) pos) ρ (tb q)) : Ev F (.BoolOp .And (a :: b :: rest) pos) ρ (tb (p && q)) := by
  obtain ⟨τ, x, y⟩ := h.use
  cases p with
  | false => exact ⟨tAndV τ _, fun i => pe_and (x i) pe_never, fun σ G H Q s r k => y σ G H _ s r fun v G' H' st hv => ⟨false, hvi hv, iteF ((k.step st).sc st.s rfl)⟩⟩
  | true =>
    obtain ⟨τ', x', y'⟩ := h2 rfl
    exact ⟨tAndV τ τ', fun i => pe_and (x i) (x' i), fun σ G H Q s r k => y σ G H _ s r fun v G1 H1 s1 hv => ⟨true, hvi hv, iteT (y' σ G1 H1 _ s1.s (r.mono s1.g) (k.step s1))⟩⟩
theorem ev_or {p q : Bool} {rest : List Expr} (h : Ev F a ρ (tb p)) (h2 : p = false → Ev F (.BoolOp .Or (b :: rest) pos) ρ (tb q)) : Ev F (.BoolOp .Or (a :: b :: rest) pos) ρ (tb (p || q)) := by
  obtain ⟨τ, x, y⟩ := h.use
  cases p with
  | true => exact ⟨tOrV τ _, fun i => pe_or (x i) pe_never, fun σ G H Q s r k => y σ G H _ s r fun v G' H' st hv => ⟨true, hvi hv, iteT ((k.step st).sc st.s rfl)⟩⟩
  | false =>
    obtain ⟨τ', x', y'⟩ := h2 rfl
    exact ⟨tOrV τ τ', fun i => pe_or (x i) (x' i), fun σ G H Q s r k => y σ G H _ s r fun v G1 H1 s1 hv => ⟨false, hvi hv, iteF (y' σ G1 H1 _ s1.s (r.mono s1.g) (k.step s1))⟩⟩
theorem ev_not {p : Bool} (h : Ev F a ρ (tb p)) : Ev F (.UnaryOp .Not a pos) ρ (tb (!p)) := by
  obtain ⟨τ, x, y⟩ := h.use
  exact ⟨tNotV τ, fun i => pe_not (x i), fun σ G H Q s r k => y σ G H _ s r fun v G' H' st hv => ⟨p, hvi hv, (k.step st).sc st.s rfl⟩⟩
theorem ev_lst (h : EvA F es ρ ts) (hz : ts.length ≤ sizeLine) : Ev F (.List es pos) ρ (.ow ts) := by
  obtain ⟨τ, x, y⟩ := h
  refine ⟨tLst τ, fun i => pe_lst (x i), fun σ G H Q s r k => y σ G H _ s r fun vs G1 H1 fq s1 o w => ⟨by rw [← o.length]; exact hz, fun p hp => ?_⟩⟩
  have np : p ∉ fq := fun z => by
    obtain ⟨u, hu⟩ := o.there p z
    rw [hp] at hu; cases hu
  exact k (.ref p) G1 _ (p :: fq) (s1.trans (.newO s1.s hp)) ⟨p, vs, fq, rfl, upd_same, o.mono (Same.refl _) (Same.new hp), rfl⟩
    ⟨fun a ha => (List.mem_cons.mp ha).elim (fun z => by rw [z]; exact s1.h.free hp) (w.n a), fun a ha => (List.mem_cons.mp ha).elim (fun z => by rw [z]; exact s1.s.free hp) (w.g a), List.nodup_cons.mpr ⟨np, w.d⟩⟩
theorem ev_tup {x1} (h : EvA F es ρ ts) (hz : ts.length ≤ sizeLine) : Ev F (.Tuple es x1 pos) ρ (.tp ts) := by
  obtain ⟨τ, x, y⟩ := h
  refine ⟨tTup τ, fun i => pe_tup (x i), fun σ G H Q s r k => y σ G H _ s r fun vs G1 H1 fq s1 o w => ⟨by rw [← o.length]; exact hz, fun p hp => ?_⟩⟩
  have np : p ∉ fq := fun z => by
    obtain ⟨u, hu⟩ := o.there p z
    rw [hp] at hu; cases hu
  exact k (.ref p) G1 _ (p :: fq) (s1.trans (.newO s1.s hp)) ⟨p, vs, fq, rfl, upd_same, o.mono (Same.refl _) (Same.new hp), rfl⟩
    ⟨fun a ha => (List.mem_cons.mp ha).elim (fun z => by rw [z]; exact s1.h.free hp) (w.n a), fun a ha => (List.mem_cons.mp ha).elim (fun z => by rw [z]; exact s1.s.free hp) (w.g a), List.nodup_cons.mpr ⟨np, w.d⟩⟩
theorem ev_tupD {x1} {dd : List Dv} (h : EvA F es ρ ts) (ed : ers ts = dd) (hz : ts.length ≤ sizeLine) : Ev F (.Tuple es x1 pos) ρ (.fz (.tup dd)) := ed ▸ (ev_tup h hz).fz
theorem HvL.get {K : PySem.W.Frag} {G : Hp} : ∀ {ds : List Dv} {vs : List V} {j : Nat} {d : Dv}, HvL K G ds vs → ds[j]? = some d → ∃ v, vs[j]? = some v ∧ Hv K G d v
  | _ :: _, _, 0, _, ⟨x, r, h1, h2, h3⟩, h => by cases h; subst h1; exact ⟨x, rfl, h2⟩
  | _ :: _, _, j + 1, d, ⟨x, r, h1, h2, h3⟩, h => by
    subst h1
    obtain ⟨v, q1, q2⟩ := HvL.get (j := j) h3 h
    exact ⟨v, q1, q2⟩
theorem HvL.at {K : PySem.W.Frag} {G : Hp} {ds : List Dv} {vs : List V} {k : Int} {d : Dv} (h : HvL K G ds vs) (hk : atI ds k = some d) : ∃ v, atI vs k = some v ∧ Hv K G d v := by
  unfold atI at hk ⊢
  rw [← h.length]
  cases q : ixN ds.length k with
  | none => rw [q] at hk; cases hk
  | some j => rw [q] at hk; exact h.get hk
theorem ev_ix {xs : List Dv} {k : Int} {d : Dv} (ha : Ev F a ρ ta) (hb : Ev F b ρ (ti k)) (ea : er ta = .lst xs) (hk : atI xs k = some d) (hs : PlainIx b := by exact fun _ _ => rfl) : Ev F (.Subscript a b pos) ρ (.fz d) := by
  obtain ⟨τ, p, q⟩ := ha.use
  obtain ⟨τ', p', q'⟩ := hb.use
  refine ⟨tOp (rIxL F.K) τ τ', fun i => pe_ix (ix_listK (F.hK i)) (p i) (p' i) hs, fun σ G H Q s rr k => ?_⟩
  refine q σ G H _ s rr fun x G1 H1 s1 hx => q' σ G1 H1 _ s1.s (rr.mono s1.g) fun y G2 H2 s2 hy => ?_
  rw [ea] at hx
  obtain ⟨l, vs, rfl, h1, h2⟩ := hx
  obtain ⟨v, h3, h4⟩ := h2.at hk
  exact ⟨l, vs, _, v, rfl, hvi hy, (s2.g.trans s2.s).seq h1, h3, (k.step (s1.trans s2)).dat s2.s (h4.mono s2.g)⟩
theorem ev_ixT {xs : List Dv} {k : Int} {d : Dv} (ha : Ev F a ρ ta) (hb : Ev F b ρ (ti k)) (ea : er ta = .tup xs) (hk : atI xs k = some d) (hs : PlainIx b := by exact fun _ _ => rfl) : Ev F (.Subscript a b pos) ρ (.fz d) := by
  obtain ⟨τ, p, q⟩ := ha.use
  obtain ⟨τ', p', q'⟩ := hb.use
  refine ⟨tOp (rIxT F.K) τ τ', fun i => pe_ix (ix_tupK (F.hK i)) (p i) (p' i) hs, fun σ G H Q s rr k => ?_⟩
  refine q σ G H _ s rr fun x G1 H1 s1 hx => q' σ G1 H1 _ s1.s (rr.mono s1.g) fun y G2 H2 s2 hy => ?_
  rw [ea] at hx
  obtain ⟨l, vs, rfl, h1, h2⟩ := hx
  obtain ⟨v, h3, h4⟩ := h2.at hk
  exact ⟨l, vs, _, v, rfl, hvi hy, (s2.g.trans s2.s).tup h1, h3, (k.step (s1.trans s2)).dat s2.s (h4.mono s2.g)⟩
def cutD {α : Type} (xs : List α) (lo hi : Option Int) : List α := (xs.drop (HT.sIx xs.length 0 lo)).take (HT.sIx xs.length xs.length hi - HT.sIx xs.length 0 lo)
theorem HvL.drop {K : PySem.W.Frag} {G : Hp} : ∀ {ds : List Dv} {vs : List V} (n : Nat), HvL K G ds vs → HvL K G (ds.drop n) (vs.drop n)
  | ds, vs, 0, h => h
  | [], _, n + 1, h => by rw [show _ = [] from h]; exact rfl
  | _ :: _, _, n + 1, ⟨x, r, h1, h2, h3⟩ => by subst h1; exact HvL.drop n h3
theorem HvL.take {K : PySem.W.Frag} {G : Hp} : ∀ {ds : List Dv} {vs : List V} (n : Nat), HvL K G ds vs → HvL K G (ds.take n) (vs.take n)
  | ds, vs, 0, h => by simp only [List.take_zero]; exact rfl
  | [], _, n + 1, h => by rw [show _ = [] from h]; exact rfl
  | _ :: _, _, n + 1, ⟨x, r, h1, h2, h3⟩ => by subst h1; exact ⟨x, r.take n, rfl, h2, HvL.take n h3⟩
theorem HvL.cut {K : PySem.W.Frag} {G : Hp} {ds : List Dv} {vs : List V} (h : HvL K G ds vs) (lo hi : Option Int) : HvL K G (cutD ds lo hi) (cutV vs lo hi) := by
  unfold cutD cutV
  rw [h.length]
  exact (h.drop _).take _
def Eo (F : Fam ι) (e : Option Expr) (ρ : En) (o : Option Int) : Prop := ∃ τ : TO, (∀ i, PO (F.cx i) e τ) ∧ ∀ σ G H Q, Same G H → RpD F.K G ρ σ → (∀ G' H', Step G H G' H' → Q o H') → τ σ H Q
theorem eo_none : Eo F none ρ none := ⟨tNoPart, fun _ => po_none, fun σ G H Q s r k => k G H (.refl s)⟩
theorem eo_some {n : Int} (h : Ev F e ρ (ti n)) : Eo F (some e) ρ (some n) := by
  obtain ⟨τ, x, y⟩ := h.use
  exact ⟨tPart τ, fun i => po_some (x i), fun σ G H Q s r k => y σ G H _ s r fun v G' H' st hv => ⟨n, hvi hv, k G' H' st⟩⟩
theorem ev_slice {lo hi : Option Expr} {l u : Option Int} {xs : List Dv} {p2 : Pos} (ha : Ev F a ρ ta) (ea : er ta = .lst xs) (hl : Eo F lo ρ l) (hu : Eo F hi ρ u) : Ev F (.Subscript a (.Slice lo hi none p2) pos) ρ (.ow ((cutD xs l u).map .fz)) := by
  obtain ⟨τ, p, q⟩ := ha.use
  obtain ⟨τ1, p1, q1⟩ := hl
  obtain ⟨τ2, p2', q2⟩ := hu
  refine ⟨tSl (rSlL F.K) τ τ1 τ2, fun i => pe_slice (F.hK i ▸ sl_list) (p i) (p1 i) (p2' i), fun σ G H Q s rr k => ?_⟩
  refine q σ G H _ s rr fun x G1 H1 s1 hx => q1 σ G1 H1 _ s1.s (rr.mono s1.g) fun G2 H2 s2 => q2 σ G2 H2 _ s2.s (rr.mono (s1.trans s2).g) fun G3 H3 s3 => ?_
  rw [ea] at hx
  obtain ⟨b, vs, rfl, h1, h2⟩ := hx
  have st := s2.trans s3
  exact ⟨b, vs, rfl, (st.g.trans st.s).seq h1, fun p hp => (k.step (s1.trans st)).lst st.s ((h2.mono st.g).cut l u).owl hp⟩
theorem ev_callB {id : String} {x : Str} {r : List V → Hp → VK → Prop} (hc : ∀ i, CallR (F.cx i) (.builtin id) r) (hm : F.mg x = none) (hv : bootBuiltins x = some (.builtin id)) (ha : EvA F (e :: es) ρ ts)
    (h : ∀ G H xs Q, Same G H → HvL F.K G (ers ts) xs → Kv F.K G H t Q → r xs H Q) {p' : Pos} (hg : ∀ i, Gl (F.cx i) x := by intro _; rfl) (hn : x ≠ "__name__" := by decide) (hdb : (x == ("__debug__" : Str)) = false := by decide)
    (he : ∀ i, starEach (e :: es) (F.cx i).env = (false, eval e (F.cx i).env) :: starEach es (F.cx i).env := by intro _; rfl) (hpl : ∀ i, (backTo pos (starEach es (F.cx i).env)).any (·.1) = false := by intro _; rfl) : Ev F (.Call (.Name x p') (e :: es) [] pos) ρ t := by
  obtain ⟨τ, y, z⟩ := ha.use
  refine ⟨tCB r τ, fun i => pe_callB (hc i) (hg i) ((F.hm i).symm ▸ hm) hv (y i) hn hdb (he i) (hpl i), fun σ G H Q s rr k => z σ G H _ s rr fun vs G1 H1 s1 hx => ?_⟩
  exact h G1 H1 vs Q s1.s hx (k.step s1)
theorem ev_callT {T : String} {x : Str} {r : List V → Hp → VK → Prop} (hc : ∀ i, CallR (F.cx i) (.type T) r) (hm : F.mg x = none) (hv : bootBuiltins x = some (.type T)) (ha : EvA F (e :: es) ρ ts)
    (h : ∀ G H xs Q, Same G H → HvL F.K G (ers ts) xs → Kv F.K G H t Q → r xs H Q) {p' : Pos} (hg : ∀ i, Gl (F.cx i) x := by intro _; rfl) (hn : x ≠ "__name__" := by decide) (hdb : (x == ("__debug__" : Str)) = false := by decide)
    (he : ∀ i, starEach (e :: es) (F.cx i).env = (false, eval e (F.cx i).env) :: starEach es (F.cx i).env := by intro _; rfl) (hpl : ∀ i, (backTo pos (starEach es (F.cx i).env)).any (·.1) = false := by intro _; rfl) : Ev F (.Call (.Name x p') (e :: es) [] pos) ρ t := by
  obtain ⟨τ, y, z⟩ := ha.use
  refine ⟨tCB r τ, fun i => pe_callTy (hc i) (hg i) ((F.hm i).symm ▸ hm) hv (y i) hn hdb (he i) (hpl i), fun σ G H Q s rr k => z σ G H _ s rr fun vs G1 H1 s1 hx => ?_⟩
  exact h G1 H1 vs Q s1.s hx (k.step s1)
theorem hvl1 {K : PySem.W.Frag} {G : Hp} {d : Dv} {xs : List V} (h : HvL K G [d] xs) : ∃ x, xs = [x] ∧ Hv K G d x := by
  obtain ⟨x, r, h1, h2, h3⟩ := h
  exact ⟨x, by rw [h1, show r = [] from h3], h2⟩
theorem hvl2 {K : PySem.W.Frag} {G : Hp} {d d' : Dv} {xs : List V} (h : HvL K G [d, d'] xs) : ∃ x y, xs = [x, y] ∧ Hv K G d x ∧ Hv K G d' y := by
  obtain ⟨x, r, h1, h2, h3⟩ := h
  obtain ⟨y, rfl, h4⟩ := hvl1 h3
  exact ⟨x, y, h1, h2, h4⟩
theorem ev_len {xs : List Dv} (hm : F.mg "len" = none) (ha : Ev F e ρ ta) (ea : er ta = .lst xs ∨ er ta = .tup xs) {p' : Pos} (hg : ∀ i, Gl (F.cx i) "len" := by intro _; rfl)
    (hs : ∀ i, starEach [e] (F.cx i).env = [(false, eval e (F.cx i).env)] := by intro _; rfl) : Ev F (.Call (.Name "len" p') [e] [] pos) ρ (ti xs.length) :=
  ev_callB (r := fun xs H Q => ∃ p ys, xs = [.ref p] ∧ (SqL F.K H p ys ∨ SqT F.K H p ys) ∧ Q (.int ys.length) H) (fun i => call_lenK (F.hK i)) hm bt_len (eva_cons ha eva_nil hs) (fun G H vs Q s hx k => by
    obtain ⟨x, rfl, hxx⟩ := hvl1 hx
    replace hx := hxx
    rcases ea with ea | ea
    · rw [ea] at hx
      obtain ⟨l, ys, rfl, h1, h2⟩ := hx
      exact ⟨l, ys, rfl, .inl (s.seq h1), by rw [← h2.length]; exact k.sc s rfl⟩
    · rw [ea] at hx
      obtain ⟨l, ys, rfl, h1, h2⟩ := hx
      exact ⟨l, ys, rfl, .inr (s.tup h1), by rw [← h2.length]; exact k.sc s rfl⟩) hg (by decide) (by decide) hs (fun _ => rfl)
theorem ev_list {xs : List Dv} (hm : F.mg "list" = none) (ha : Ev F e ρ ta) (ea : er ta = .lst xs ∨ er ta = .tup xs) {p' : Pos} (hg : ∀ i, Gl (F.cx i) "list" := by intro _; rfl)
    (hs : ∀ i, starEach [e] (F.cx i).env = [(false, eval e (F.cx i).env)] := by intro _; rfl) : Ev F (.Call (.Name "list" p') [e] [] pos) ρ (.ow (xs.map .fz)) :=
  ev_callT (r := fun xs H Q => ∃ p ys, xs = [.ref p] ∧ (SqL F.K H p ys ∨ SqT F.K H p ys) ∧ ∀ l, H l = none → Q (.ref l) (upd H l (.lst ys))) (fun i => F.hK i ▸ call_list_of) hm bt_list (eva_cons ha eva_nil hs) (fun G H vs Q s hx k => by
    obtain ⟨x, rfl, hxx⟩ := hvl1 hx
    replace hx := hxx
    rcases ea with ea | ea
    · rw [ea] at hx
      obtain ⟨l, ys, rfl, h1, h2⟩ := hx
      exact ⟨l, ys, rfl, .inl (s.seq h1), fun p hp => k.lst s h2.owl hp⟩
    · rw [ea] at hx
      obtain ⟨l, ys, rfl, h1, h2⟩ := hx
      exact ⟨l, ys, rfl, .inr (s.tup h1), fun p hp => k.lst s h2.owl hp⟩) hg (by decide) (by decide) hs (fun _ => rfl)
theorem ev_sum {ns : List Int} (hm : F.mg "sum" = none) (ha : Ev F e ρ ta) (ea : er ta = dis ns) {p' : Pos} (hg : ∀ i, Gl (F.cx i) "sum" := by intro _; rfl)
    (hs : ∀ i, starEach [e] (F.cx i).env = [(false, eval e (F.cx i).env)] := by intro _; rfl) : Ev F (.Call (.Name "sum" p') [e] [] pos) ρ (ti ns.sum) :=
  ev_callB (r := rSum F.K) (fun i => F.hK i ▸ call_sum (F.calm i)) hm bt_sum (eva_cons ha eva_nil hs) (fun G H vs Q s hx k => by
    obtain ⟨x, rfl, hxx⟩ := hvl1 hx
    replace hx := hxx
    rw [ea] at hx
    obtain ⟨l, ys, rfl, h1, h2⟩ := hx
    have := hvl_ints h2
    subst this
    exact ⟨l, ns, rfl, s.seq h1, k.sc s rfl⟩) hg (by decide) (by decide) hs (fun _ => rfl)
theorem ev_abs {n : Int} (hm : F.mg "abs" = none) (ha : Ev F e ρ (ti n)) {p' : Pos} (hg : ∀ i, Gl (F.cx i) "abs" := by intro _; rfl)
    (hs : ∀ i, starEach [e] (F.cx i).env = [(false, eval e (F.cx i).env)] := by intro _; rfl) : Ev F (.Call (.Name "abs" p') [e] [] pos) ρ (ti (if n < 0 then -n else n)) :=
  ev_callB (fun i => call_abs) hm bt_abs (eva_cons ha eva_nil hs) (fun G H vs Q s hx k => by
    obtain ⟨x, rfl, hxx⟩ := hvl1 hx
    replace hx := hxx
    exact ⟨n, by rw [hvi hx], k.sc s rfl⟩) hg (by decide) (by decide) hs (fun _ => rfl)
def tyD : Dv → Value
  | .fl .non => .type "NoneType"
  | .fl (.bl _) => .type "bool"
  | .fl (.int _) => .type "int"
  | .fl (.str _) => .type "str"
  | .fl _ => .none
  | .lst _ => .type "list"
  | .tup _ => .type "tuple"
def rIsD (K : PySem.W.Frag) (d : Dv) (n : String) (b : Bool) : List V → Hp → VK → Prop := fun xs H Q => ∃ x, xs = [x, .ty n] ∧ Hv K H d x ∧ PySem.W.kitOne K (tyD d) (.type n) = some b ∧ Q (.bl b) H
theorem call_isD {X : Cx} {d : Dv} {n : String} {b : Bool} : CallR X (.builtin "isinstance") (rIsD X.K d n b) := by
  intro pins s σ H xs us Q I r h
  obtain ⟨x, rfl, hx, hb, q⟩ := h
  cases r with
  | cons r1 rr => cases rr with
    | cons r2 rr =>
      cases rr
      cases (show _ = Value.type n from r2)
      have fin : ∀ tk, EP X pins σ Q (.bool b) { s with toks := tk } := fun tk => ⟨.bl b, H, I.tok tk, rfl, q⟩
      cases d with
      | fl v =>
        obtain ⟨rfl, f⟩ := hx
        cases x with
        | non => exact isinst_ok I r1 .non hb fin
        | bl y => exact isinst_ok I r1 (.bl y) hb fin
        | int y => exact isinst_ok I r1 (.int y) hb fin
        | str y => exact isinst_ok I r1 (.str y) hb fin
        | byt y => cases f
        | flt y => cases f
        | ref y => cases f
        | ty y => cases f
      | lst ds =>
        obtain ⟨a, xs, rfl, h1, _⟩ := hx
        cases r1
        obtain ⟨its, _, ⟨o, n, h2, h3, _⟩, _⟩ := I.list h1
        exact PySem.W.kia_one PySem.W.kitx_list I.kIn ⟨o, h2, h3⟩ hb (fun z => nomatch z) fin
      | tup ds =>
        obtain ⟨a, xs, rfl, h1, _⟩ := hx
        cases r1
        obtain ⟨its, _, ⟨o, h2, h3, _⟩, _⟩ := I.tuple h1
        exact PySem.W.kia_one PySem.W.kitx_tuple I.kIn ⟨o, h2, h3⟩ hb (fun z => nomatch z) fin
theorem ev_isi {x : Str} {n : String} {bo : Bool} (hm : F.mg "isinstance" = none) (hm2 : F.mg x = none) (hv : bootBuiltins x = some (.type n)) (ha : Ev F e ρ ta) (hk : PySem.W.kitOne F.K (tyD (er ta)) (.type n) = some bo) {p' p2 : Pos} (hg : ∀ i, Gl (F.cx i) "isinstance" := by intro _; rfl)
    (hg2 : ∀ i, Gl (F.cx i) x := by intro _; rfl) (hn : x ≠ "__name__" := by decide) (hd : (x == ("__debug__" : Str)) = false := by decide)
    (hs : ∀ i, starEach [e, .Name x p2] (F.cx i).env = [(false, eval e (F.cx i).env), (false, eval (.Name x p2) (F.cx i).env)] := by intro _; rfl) : Ev F (.Call (.Name "isinstance" p') [e, .Name x p2] [] pos) ρ (tb bo) := by
  obtain ⟨τ, y, z⟩ := ha.use
  refine ⟨tCB (rIsD F.K (er ta) n bo) (tCons τ (tCons (tC (.ty n)) tNil)), fun i => pe_callB (F.hK i ▸ call_isD) (hg i) ((F.hm i).symm ▸ hm) bt_isinstance (pa_cons (y i) (pa_cons (pe_bltn (v := .ty n) (hg2 i) ((F.hm i).symm ▸ hm2) hv rfl hn hd) pa_nil rfl) (hs i)) (by decide) (by decide) (hs i) rfl, fun σ G H Q s rr k => z σ G H _ s rr fun vs G1 H1 s1 hx => ?_⟩
  exact ⟨vs, rfl, hx.mono s1.s, hk, (k.step s1).sc s1.s rfl⟩
def spT (K : PySem.W.Frag) (R : List Dv → Tr → Prop) : Sp := fun vs H Q _ => ∃ G ds t, Same G H ∧ HvL K G ds vs ∧ R ds t ∧ Kv K G H t Q
theorem ev_call {k : Nat} {f : Addr} {fd : FuncData} {ps : List Str} {R : List Dv → Tr → Prop} {x : Str} (Fn : Kn F.P F.w F.K F.mg F.base CX0 k x f fd ps (spT F.K R)) (hk : k ≤ F.room) (ha : EvA F (e :: es) ρ ts) (hR : R (ers ts) t) {p' : Pos} (hg : ∀ i, Gl (F.cx i) x := by intro _; rfl) (hdb : (x == ("__debug__" : Str)) = false := by decide)
    (he : ∀ i, starEach (e :: es) (F.cx i).env = (false, eval e (F.cx i).env) :: starEach es (F.cx i).env := by intro _; rfl) (hpl : ∀ i, (backTo pos (starEach es (F.cx i).env)).any (·.1) = false := by intro _; rfl) : Ev F (.Call (.Name x p') (e :: es) [] pos) ρ t := by
  obtain ⟨τ, y, z⟩ := ha.use
  refine ⟨tCall (spT F.K R) [] E0 τ, fun i => ?_, fun σ G H Q s rr k => z σ G H _ s rr fun vs G1 H1 s1 hx => ?_⟩
  · have Fn' : Kn (F.cx i).prog (F.cx i).w (F.cx i).K (F.cx i).mg (F.cx i).base CX0 k x f fd ps (spT F.K R) := by
      rw [F.hP i, F.hw i, F.hK i, F.hm i, F.hb i]
      exact Fn
    exact pe_kn Fn' ((F.hr i).mono hk) (hg i) (y i) hdb (he i) (hpl i)
  · show spT F.K R (vs ++ []) H1 Q E0
    rw [List.append_nil]
    exact ⟨G1, _, t, s1.s, hx, hR, k.step s1⟩
end
end L2
namespace L2
open PySem PySem.Spec PyProof.Rows
def OwS (K : PySem.W.Frag) (G H : Hp) : En → St → List Addr → Prop
  | [], σ, fp => σ = [] ∧ fp = []
  | none :: ρ, σ, fp => ∃ o r, σ = o :: r ∧ OwS K G H ρ r fp
  | some t :: ρ, σ, fp => ∃ v r f1 f2, σ = some v :: r ∧ fp = f1 ++ f2 ∧ Ow K G H t v f1 ∧ OwS K G H ρ r f2
theorem OwS.mono {K : PySem.W.Frag} {G G' H H' : Hp} (e : Same G G') (e' : Same H H') : ∀ {ρ : En} {σ : St} {fp : List Addr}, OwS K G H ρ σ fp → OwS K G' H' ρ σ fp
  | [], _, _, h => h
  | none :: _, _, _, ⟨o, r, h1, h2⟩ => ⟨o, r, h1, OwS.mono e e' h2⟩
  | some _ :: _, _, _, ⟨v, r, f1, f2, h1, h2, h3, h4⟩ => ⟨v, r, f1, f2, h1, h2, h3.mono e e', OwS.mono e e' h4⟩
theorem OwS.frame {K : PySem.W.Frag} {G H : Hp} {a : Addr} {o : HO} : ∀ {ρ : En} {σ : St} {fp : List Addr}, OwS K G H ρ σ fp → a ∉ fp → OwS K G (upd H a o) ρ σ fp
  | [], _, _, h, _ => h
  | none :: _, _, _, ⟨o, r, h1, h2⟩, n => ⟨o, r, h1, OwS.frame h2 n⟩
  | some _ :: _, _, _, ⟨v, r, f1, f2, h1, h2, h3, h4⟩, n => by
    subst h2
    exact ⟨v, r, f1, f2, h1, rfl, h3.frame fun z => n (List.mem_append_left _ z), OwS.frame h4 fun z => n (List.mem_append_right _ z)⟩
theorem OwS.there {K : PySem.W.Frag} {G H : Hp} : ∀ {ρ : En} {σ : St} {fp : List Addr}, OwS K G H ρ σ fp → ∀ a ∈ fp, ∃ o, H a = some o
  | [], _, _, ⟨_, h⟩, a, ha => by subst h; cases ha
  | none :: _, _, _, ⟨o, r, h1, h2⟩, a, ha => OwS.there h2 a ha
  | some _ :: _, _, _, ⟨v, r, f1, f2, h1, h2, h3, h4⟩, a, ha => by
    subst h2
    rcases List.mem_append.mp ha with ha | ha
    · exact h3.there a ha
    · exact OwS.there h4 a ha
theorem OwS.off {K : PySem.W.Frag} {G H G1 H1 : Hp} {ρ : En} {σ : St} {fp : List Addr} (r : OwS K G H ρ σ fp) (s1 : Step G H G1 H1) (g : ∀ a ∈ fp, G a = none) : ∀ a ∈ fp, G1 a = none := fun a ha => by
  cases q : G1 a with
  | none => rfl
  | some u =>
    obtain ⟨u', hu'⟩ := r.there a ha
    have := s1.n a (g a ha) (by rw [q]; exact fun z => nomatch z)
    rw [hu'] at this
    cases this
theorem OwS.rpd {K : PySem.W.Frag} {G H : Hp} : ∀ {ρ : En} {σ : St} {fp : List Addr}, OwS K G H ρ σ fp → RpD K G ρ σ
  | [], _, _, _, j, d, h => by cases j <;> cases h
  | none :: _, _, _, ⟨o, r, h1, h2⟩, 0, d, h => by cases h
  | none :: _, _, _, ⟨o, r, h1, h2⟩, j + 1, d, h => by subst h1; exact OwS.rpd h2 j d h
  | some _ :: _, _, _, ⟨v, r, f1, f2, h1, h2, h3, h4⟩, 0, d, h => by cases h; subst h1; exact ⟨v, rfl, h3.2⟩
  | some _ :: _, _, _, ⟨v, r, f1, f2, h1, h2, h3, h4⟩, j + 1, d, h => by subst h1; exact OwS.rpd h4 j d h
def pk (ρ : En) : En := ρ.map (Option.map fun t => .fz (er t))
theorem OwS.pk {K : PySem.W.Frag} {G H G' : Hp} (e : Same G G') : ∀ {ρ : En} {σ : St} {fp : List Addr}, OwS K G H ρ σ fp → (∀ a ∈ fp, G' a = H a) → RpD K G' (pk ρ) σ
  | [], _, _, _, _, j, d, h => by cases j <;> cases h
  | none :: _, _, _, ⟨o, r, h1, h2⟩, _, 0, d, h => by cases h
  | none :: _, _, _, ⟨o, r, h1, h2⟩, q, j + 1, d, h => by subst h1; exact OwS.pk e h2 q j d h
  | some _ :: _, _, _, ⟨v, r, f1, f2, h1, h2, h3, h4⟩, q, 0, d, h => by
    cases h; subst h1 h2; exact ⟨v, rfl, h3.hv e fun a ha => q a (List.mem_append_left _ ha)⟩
  | some _ :: _, _, _, ⟨v, r, f1, f2, h1, h2, h3, h4⟩, q, j + 1, d, h => by
    subst h1 h2; exact OwS.pk e h4 (fun a ha => q a (List.mem_append_right _ ha)) j d h
theorem OwS.split {K : PySem.W.Frag} {G H : Hp} : ∀ {ρ : En} {σ : St} {fp : List Addr} {j : Nat} {t : Tr}, OwS K G H ρ σ fp → ρ[j]? = some (some t) →
    ∃ v f fr, σ[j]? = some (some v) ∧ Ow K G H t v f ∧ OwS K G H (ρ.set j none) σ fr ∧ fp.Perm (f ++ fr)
  | none :: _, _, _, 0, _, _, h => by cases h
  | none :: _, _, _, j + 1, t, ⟨o, r, h1, h2⟩, h => by
    subst h1
    obtain ⟨v, f, fr, q1, q2, q3, q4⟩ := OwS.split (j := j) h2 h
    exact ⟨v, f, fr, q1, q2, ⟨o, r, rfl, q3⟩, q4⟩
  | some _ :: _, _, _, 0, t, ⟨v, r, f1, f2, h1, h2, h3, h4⟩, h => by
    cases h; subst h1 h2
    exact ⟨v, f1, f2, rfl, h3, ⟨some v, r, rfl, h4⟩, .refl _⟩
  | some _ :: _, _, _, j + 1, t, ⟨v, r, f1, f2, h1, h2, h3, h4⟩, h => by
    subst h1 h2
    obtain ⟨v', f, fr, q1, q2, q3, q4⟩ := OwS.split (j := j) h4 h
    refine ⟨v', f, f1 ++ fr, q1, q2, ⟨v, r, f1, fr, rfl, rfl, h3, q3⟩, ?_⟩
    refine (List.Perm.append_left f1 q4).trans ?_
    rw [← List.append_assoc, ← List.append_assoc]
    exact List.Perm.append_right fr List.perm_append_comm
theorem OwS.forget {K : PySem.W.Frag} {G H : Hp} : ∀ {ρ : En} {σ : St} {fp : List Addr} (j : Nat), OwS K G H ρ σ fp → ∃ fr, OwS K G H (ρ.set j none) σ fr ∧ fr.Sublist fp
  | [], _, _, _, h => ⟨_, h, .refl _⟩
  | none :: _, _, _, 0, ⟨o, r, h1, h2⟩ => ⟨_, ⟨o, r, h1, h2⟩, .refl _⟩
  | none :: _, _, _, j + 1, ⟨o, r, h1, h2⟩ => by
    obtain ⟨fr, q1, q2⟩ := OwS.forget j h2
    exact ⟨fr, ⟨o, r, h1, q1⟩, q2⟩
  | some _ :: _, _, _, 0, ⟨v, r, f1, f2, h1, h2, h3, h4⟩ => ⟨f2, ⟨some v, r, h1, h4⟩, h2 ▸ List.sublist_append_right _ _⟩
  | some _ :: _, _, _, j + 1, ⟨v, r, f1, f2, h1, h2, h3, h4⟩ => by
    obtain ⟨fr, q1, q2⟩ := OwS.forget j h4
    exact ⟨f1 ++ fr, ⟨v, r, f1, fr, h1, rfl, h3, q1⟩, h2 ▸ List.Sublist.append (.refl _) q2⟩
theorem OwS.put {K : PySem.W.Frag} {G H : Hp} : ∀ {ρ : En} {σ : St} {fr : List Addr} {j : Nat} {t : Tr} {v : V} {f : List Addr}, OwS K G H ρ σ fr → ρ[j]? = some none → Ow K G H t v f →
    ∃ fp, OwS K G H (ρ.set j (some t)) (σ.set j (some v)) fp ∧ fp.Perm (f ++ fr)
  | none :: _, _, fr, 0, t, v, f, ⟨o, r, h1, h2⟩, _, w => by subst h1; exact ⟨_, ⟨v, r, f, fr, rfl, rfl, w, h2⟩, .refl _⟩
  | none :: _, _, _, j + 1, t, v, f, ⟨o, r, h1, h2⟩, h, w => by
    subst h1
    obtain ⟨fp, q1, q2⟩ := OwS.put (j := j) h2 h w
    exact ⟨fp, ⟨o, _, rfl, q1⟩, q2⟩
  | some _ :: _, _, _, 0, _, _, _, _, h, _ => by cases h
  | some _ :: _, _, _, j + 1, t, v, f, ⟨v', r, f1, f2, h1, h2, h3, h4⟩, h, w => by
    subst h1 h2
    obtain ⟨fp, q1, q2⟩ := OwS.put (j := j) h4 h w
    refine ⟨f1 ++ fp, ⟨v', _, f1, fp, rfl, rfl, h3, q1⟩, ?_⟩
    refine (List.Perm.append_left f1 q2).trans ?_
    rw [← List.append_assoc, ← List.append_assoc]
    exact List.Perm.append_right f2 List.perm_append_comm
structure RSf (K : PySem.W.Frag) (G0 H0 G H : Hp) (ρ : En) (σ : St) (fp : List Addr) : Prop where
  st : Step G0 H0 G H
  own : OwS K G H ρ σ fp
  g : ∀ a ∈ fp, G a = none
  n : ∀ a ∈ fp, H0 a = none
  d : fp.Nodup
def RS (K : PySem.W.Frag) (G0 H0 G H : Hp) (ρ : En) (σ : St) : Prop := ∃ fp, RSf K G0 H0 G H ρ σ fp
theorem get_set_none {α : Type} {ρ : List (Option α)} {j : Nat} (h : j < ρ.length) : (ρ.set j none)[j]? = some none := by rw [List.getElem?_set]; simp [h]
theorem RSf.forget {K : PySem.W.Frag} {G0 H0 G H : Hp} {ρ : En} {σ : St} {fp : List Addr} (r : RSf K G0 H0 G H ρ σ fp) (j : Nat) : ∃ fr, RSf K G0 H0 G H (ρ.set j none) σ fr ∧ fr.Sublist fp := by
  obtain ⟨fr, q1, q2⟩ := r.own.forget j
  exact ⟨fr, ⟨r.st, q1, fun a ha => r.g a (q2.subset ha), fun a ha => r.n a (q2.subset ha), r.d.sublist q2⟩, q2⟩
theorem RS.forget {K : PySem.W.Frag} {G0 H0 G H : Hp} {ρ : En} {σ : St} (r : RS K G0 H0 G H ρ σ) (j : Nat) : RS K G0 H0 G H (ρ.set j none) σ := by
  obtain ⟨fp, r⟩ := r
  obtain ⟨fr, q, _⟩ := r.forget j
  exact ⟨fr, q⟩
theorem RSf.set {K : PySem.W.Frag} {G0 H0 G H G1 H1 : Hp} {ρ : En} {σ : St} {fp fq : List Addr} {j : Nat} {t : Tr} {v : V} (r : RSf K G0 H0 G H ρ σ fp) (hj : j < ρ.length) (e : Step G H G1 H1) (o : Ow K G1 H1 t v fq) (w : Nw H G1 fq) :
    RS K G0 H0 G1 H1 (ρ.set j (some t)) (σ.set j (some v)) := by
  obtain ⟨fr, r1, sub⟩ := r.forget j
  have own1 := r1.own.mono e.g e.h
  obtain ⟨fp', q1, q2⟩ := own1.put (get_set_none hj) o
  rw [List.set_set] at q1
  have dis : ∀ a ∈ fq, ∀ b ∈ fr, a ≠ b := fun a ha b hb z => by
    subst z
    obtain ⟨u, hu⟩ := r1.own.there a hb
    rw [w.n a ha] at hu; cases hu
  refine ⟨fp', r.st.trans e, q1, fun a ha => ?_, fun a ha => ?_, q2.nodup_iff.mpr (List.nodup_append.mpr ⟨w.d, r1.d, dis⟩)⟩
  · rcases List.mem_append.mp (q2.mem_iff.mp ha) with z | z
    · exact w.g a z
    · cases q : G1 a with
      | none => rfl
      | some u =>
        obtain ⟨u', hu'⟩ := r1.own.there a z
        have := e.n a (r1.g a z) (by rw [q]; exact fun z => nomatch z)
        rw [hu'] at this; cases this
  · rcases List.mem_append.mp (q2.mem_iff.mp ha) with z | z
    · exact r.st.h.free (w.n a z)
    · exact r1.n a z
def less (H : Hp) (fp : List Addr) : Hp := fun a => if a ∈ fp then none else H a
theorem less_in {H : Hp} {fp : List Addr} {a : Addr} (h : a ∈ fp) : less H fp a = none := by unfold less; rw [if_pos h]
theorem less_out {H : Hp} {fp : List Addr} {a : Addr} (h : a ∉ fp) : less H fp a = H a := by unfold less; rw [if_neg h]
theorem less_sub {H : Hp} {fp : List Addr} : Same (less H fp) H := fun b o e => by
  by_cases q : b ∈ fp
  · rw [less_in q] at e; cases e
  · rw [less_out q] at e; exact e
theorem same_less {G H : Hp} {fp : List Addr} (s : Same G H) (h : ∀ a ∈ fp, G a = none) : Same G (less H fp) := fun b o e => by
  by_cases q : b ∈ fp
  · rw [h b q] at e; cases e
  · rw [less_out q]; exact s b o e
theorem RSf.rebase {K : PySem.W.Frag} {G0 H0 G H : Hp} {ρ : En} {σ : St} {fp : List Addr} (r : RSf K G0 H0 G H ρ σ fp) : RSf K G (less H fp) G H ρ σ fp :=
  ⟨⟨Same.refl _, less_sub, r.st.s, fun a h h' => absurd h h'⟩, r.own, r.g, fun a ha => less_in ha, r.d⟩
theorem RSf.base {K : PySem.W.Frag} {G0 H0 G H : Hp} {ρ : En} {σ : St} {fp : List Addr} (r : RSf K G0 H0 G H ρ σ fp) : Step G0 H0 G (less H fp) :=
  ⟨r.st.g, same_less r.st.h r.n, same_less r.st.s r.g, r.st.n⟩
theorem RS.under {K : PySem.W.Frag} {G0 H0 G1 H1 G H : Hp} {ρ : En} {σ : St} (e : Step G0 H0 G1 H1) (r : RS K G1 H1 G H ρ σ) : RS K G0 H0 G H ρ σ := by
  obtain ⟨fp, r⟩ := r
  exact ⟨fp, e.trans r.st, r.own, r.g, fun a ha => e.h.free (r.n a ha), r.d⟩
inductive Out where
  | nx (ρ : En)
  | rt (t : Tr)
def Post (K : PySem.W.Frag) (G0 H0 : Hp) (D : Ends) : Out → Prop
  | .nx ρ => ∀ σ G H, RS K G0 H0 G H ρ σ → D.nx σ H
  | .rt t => ∀ v G H fq, Step G0 H0 G H → Ow K G H t v fq → Nw H0 G fq → D.rt v H
theorem Post.under {K : PySem.W.Frag} {G0 H0 G1 H1 : Hp} {D : Ends} {o : Out} (e : Step G0 H0 G1 H1) (p : Post K G0 H0 D o) : Post K G1 H1 D o := by
  cases o with
  | nx ρ => exact fun σ G H r => p σ G H (r.under e)
  | rt t => exact fun v G H fq s o w => p v G H fq (e.trans s) o ⟨fun a ha => e.h.free (w.n a ha), w.g, w.d⟩
def Sm1 (K : PySem.W.Frag) (τ : TS) (ρ : En) (o : Out) : Prop := ∀ D σ G0 H0 G H, RS K G0 H0 G H ρ σ → Post K G0 H0 D o → τ D σ H
section
variable {ι : Type}
def Rn (F : Fam ι) (st : Stmt) (ρ : En) (o : Out) : Prop := ∃ τ : TS, (∀ i, PS (F.cx i) st τ) ∧ Sm1 F.K τ ρ o
def Rns (F : Fam ι) (sts : List Stmt) (ρ : En) (o : Out) : Prop := ∃ τ : TS, (∀ i, PSs (F.cx i) sts τ) ∧ Sm1 F.K τ ρ o
def EvS (F : Fam ι) (e : Expr) (ρ : En) (t : Tr) : Prop := ∃ τ : TE, (∀ i, PE (F.cx i) e τ) ∧ ∀ σ G H fp Q, Same G H → OwS F.K G H ρ σ fp → (∀ a ∈ fp, G a = none) → Kv F.K G H t Q → τ σ H Q
def EtS (F : Fam ι) (e : Expr) (ρ : En) (b : Bool) : Prop := ∃ τ : TT, (∀ i, PT (F.cx i) e τ) ∧ ∀ σ G H fp Q, Same G H → OwS F.K G H ρ σ fp → (∀ a ∈ fp, G a = none) → (∀ G' H', Step G H G' H' → Q b H') → τ σ H Q
variable {F : Fam ι} {e a b c : Expr} {es : List Expr} {ρ ρ1 : En} {t : Tr} {ts : List Tr} {pos : Pos} {o : Out} {st : Stmt} {sts A B : List Stmt}
theorem Ev.s (h : Ev F e ρ t) : EvS F e ρ t := let ⟨τ, x, y⟩ := h; ⟨τ, x, fun σ G H fp Q s r _ k => y σ G H Q s r.rpd k⟩
theorem Et.s {p : Bool} (h : Et F e ρ p) : EtS F e ρ p := let ⟨τ, x, y⟩ := h; ⟨τ, x, fun σ G H fp Q s r _ k => y σ G H Q s r.rpd k⟩
mutual
def Cl : Tr → Prop
  | .fz (.fl _) => True
  | .fz _ => False
  | .ow ts => Cls' ts
  | .tp ts => Cls' ts
def Cls' : List Tr → Prop
  | [] => True
  | t :: ts => Cl t ∧ Cls' ts
end
mutual
theorem Ow.cl {K : PySem.W.Frag} {G G' H : Hp} : ∀ {t : Tr} {v : V} {fp : List Addr}, Cl t → Ow K G H t v fp → Ow K G' H t v fp
  | .fz (.fl _), _, _, _, h => h
  | .fz (.lst _), _, _, c, _ => c.elim
  | .fz (.tup _), _, _, c, _ => c.elim
  | .ow _, _, _, c, ⟨b, vs, fq, h1, h2, h3, h4⟩ => ⟨b, vs, fq, h1, h2, OwL.cl c h3, h4⟩
  | .tp _, _, _, c, ⟨b, vs, fq, h1, h2, h3, h4⟩ => ⟨b, vs, fq, h1, h2, OwL.cl c h3, h4⟩
theorem OwL.cl {K : PySem.W.Frag} {G G' H : Hp} : ∀ {ts : List Tr} {vs : List V} {fp : List Addr}, Cls' ts → OwL K G H ts vs fp → OwL K G' H ts vs fp
  | [], _, _, _, h => h
  | _ :: _, _, _, ⟨c1, c2⟩, ⟨v, r, f1, f2, h1, h2, h3, h4⟩ => ⟨v, r, f1, f2, h1, h2, h3.cl c1, OwL.cl c2 h4⟩
end
theorem cl_ints : ∀ ns : List Int, Cls' (ns.map fun n => Tr.fz (di n))
  | [] => True.intro
  | _ :: ns => ⟨True.intro, cl_ints ns⟩
theorem Ev.pk (h : Ev F e (pk ρ) t) (c : Cl t) : EvS F e ρ t := by
  obtain ⟨τ, x, y⟩ := h
  refine ⟨τ, x, fun σ G H fp Q s r hg k => ?_⟩
  refine y σ (frzd G H fp) H Q (frzd_sub s) (r.pk (frzd_same hg) fun a ha => frzd_in ha) fun v G' H' fq st o w => ?_
  refine k v G H' fq ⟨Same.refl _, st.h, s.trans st.h, fun a h h' => absurd h h'⟩ (o.cl c) ⟨w.n, fun a ha => s.free (w.n a ha), w.d⟩
theorem Et.pk {p : Bool} (h : Et F e (pk ρ) p) : EtS F e ρ p := by
  obtain ⟨τ, x, y⟩ := h
  refine ⟨τ, x, fun σ G H fp Q s r hg k => ?_⟩
  refine y σ (frzd G H fp) H Q (frzd_sub s) (r.pk (frzd_same hg) fun a ha => frzd_in ha) fun G' H' st => ?_
  exact k G H' ⟨Same.refl _, st.h, s.trans st.h, fun a h h' => absurd h h'⟩
theorem rns_nil : Rns F [] ρ (.nx ρ) := ⟨tNext, fun _ => pss_nil, fun D σ G0 H0 G H r k => k σ G H r⟩
theorem rns_cons (h1 : Rn F st ρ (.nx ρ1)) (h2 : Rns F sts ρ1 o) : Rns F (st :: sts) ρ o := by
  obtain ⟨τ, x, y⟩ := h1
  obtain ⟨τ', x', y'⟩ := h2
  exact ⟨tSeq τ τ', fun i => pss_cons (x i) (x' i), fun D σ G0 H0 G H r k => y _ σ G0 H0 G H r fun σ1 G1 H1 r1 => y' D σ1 G0 H0 G1 H1 r1 k⟩
theorem rns_ret (h1 : Rn F st ρ (.rt t)) : Rns F (st :: sts) ρ (.rt t) := by
  obtain ⟨τ, x, y⟩ := h1
  exact ⟨tSeq τ tNever, fun i => pss_cons (x i) pss_never, fun D σ G0 H0 G H r k => y _ σ G0 H0 G H r k⟩
theorem rns_one (h1 : Rn F st ρ o) : Rns F [st] ρ o := by
  obtain ⟨τ, x, y⟩ := h1
  exact ⟨τ, fun i => pss_one (x i), y⟩
theorem rn_set (j : Nat) {x : Str} {pos' : Pos} (he : EvS F e ρ t) (hN : ∀ i, (F.cx i).N.Nodup) (hj : Nat.blt j ρ.length = true := by rfl) (hi : ∀ i, (F.cx i).N[j]? = some x := by intro _; rfl) (hx : ∀ i, Loc (F.cx i).env.scope x := by intro _; first | exact Or.inl rfl | exact Or.inr rfl)
    (hs : ∀ i, swapsWith e (some (.Name x pos')) pos.line (F.cx i).env = pure false := by intro _; rfl) (hf : ∀ i, (F.cx i).fn x = true ∨ (F.cx i).env.scope.names.lookup x = some .local := by intro _; first | exact .inl rfl | exact .inr rfl) :
    Rn F (.Assign [.Name x pos'] e pos) ρ (.nx (ρ.set j (some t))) := by
  obtain ⟨τ, y, z⟩ := he
  refine ⟨tAsg τ (gName j), fun i => ps_set (hN i) (hi i) (hx i) (y i) (hs i) (hf i), fun D σ G0 H0 G H r k => ?_⟩
  obtain ⟨fp, r⟩ := r
  exact z σ G H fp _ r.st.s r.own r.g fun v G1 H1 fq s1 o w => k _ G1 H1 (r.set (Nat.le_of_ble_eq_true hj) s1 o w)
theorem rn_ret (he : EvS F e ρ t) : Rn F (.Return (some e) pos) ρ (.rt t) := by
  obtain ⟨τ, y, z⟩ := he
  refine ⟨tRet τ, fun i => ps_ret (y i), fun D σ G0 H0 G H r k => ?_⟩
  obtain ⟨fp, r⟩ := r
  exact z σ G H fp _ r.st.s r.own r.g fun v G1 H1 fq s1 o w => k v G1 H1 fq (r.st.trans s1) o ⟨fun a ha => r.st.h.free (w.n a ha), w.g, w.d⟩
theorem rn_retO (j : Nat) {x : Str} {p' : Pos} (h : ρ[j]? = some (some t)) (hN : ∀ i, (F.cx i).N[j]? = some x := by intro _; rfl)
    (hv : ∀ i, Vis (F.cx i).env.scope x := by intro _; first | exact Or.inl rfl | exact Or.inr (Or.inl rfl) | exact Or.inr (Or.inr rfl)) (hd : (x == ("__debug__" : Str)) = false := by decide) (hc : (x == ("__classdict__" : Str)) = false := by decide) : Rn F (.Return (some (.Name x p')) pos) ρ (.rt t) := by
  refine ⟨tRet (tVar j), fun i => ps_ret (pe_var (hN i) (hv i) hd hc), fun D σ G0 H0 G H r k => ?_⟩
  obtain ⟨fp, r⟩ := r
  obtain ⟨v, f, fr, q1, q2, q3, q4⟩ := r.own.split h
  have sub : ∀ a ∈ f, a ∈ fp := fun a ha => q4.mem_iff.mpr (List.mem_append_left _ ha)
  exact ⟨v, q1, k v G H f r.st q2 ⟨fun a ha => r.n a (sub a ha), fun a ha => r.g a (sub a ha), (List.nodup_append.mp (q4.nodup_iff.mp r.d)).1⟩⟩
theorem rn_expr (he : EvS F e ρ t) (hs : ∀ i, swapsWith e none pos.line (F.cx i).env = pure false := by intro _; rfl) : Rn F (.Expr e pos) ρ (.nx ρ) := by
  obtain ⟨τ, y, z⟩ := he
  refine ⟨tDrop τ, fun i => ps_expr (y i) (hs i), fun D σ G0 H0 G H r k => ?_⟩
  obtain ⟨fp, r⟩ := r
  refine z σ G H fp _ r.st.s r.own r.g fun v G1 H1 fq s1 o w => k σ G1 H1 ⟨fp, r.st.trans s1, r.own.mono s1.g s1.h, r.own.off s1 r.g, r.n, r.d⟩
theorem rn_if {p : Bool} (hc : EtS F c ρ p) (h1 : p = true → Rns F A ρ o) (h2 : p = false → Rns F B ρ o) : Rn F (.If c A B pos) ρ o := by
  obtain ⟨τ, y, z⟩ := hc
  have key : ∀ {G0 H0 G H G1 H1 : Hp} {σ : St} {fp : List Addr}, RSf F.K G0 H0 G H ρ σ fp → Step G H G1 H1 → RS F.K G0 H0 G1 H1 ρ σ := fun {G0 H0 G H G1 H1 σ fp} r s1 => ⟨fp, r.st.trans s1, r.own.mono s1.g s1.h, r.own.off s1 r.g, r.n, r.d⟩
  cases p with
  | true =>
    obtain ⟨τ', x', y'⟩ := h1 rfl
    refine ⟨tIfS τ τ' tNever, fun i => ps_if (y i) (x' i) pss_never, fun D σ G0 H0 G H r k => ?_⟩
    obtain ⟨fp, r⟩ := r
    exact z σ G H fp _ r.st.s r.own r.g fun G1 H1 s1 => iteT (y' D σ G0 H0 G1 H1 (key r s1) k)
  | false =>
    obtain ⟨τ', x', y'⟩ := h2 rfl
    refine ⟨tIfS τ tNever τ', fun i => ps_if (y i) pss_never (x' i), fun D σ G0 H0 G H r k => ?_⟩
    obtain ⟨fp, r⟩ := r
    exact z σ G H fp _ r.st.s r.own r.g fun G1 H1 s1 => iteF (y' D σ G0 H0 G1 H1 (key r s1) k)
theorem set_self {α : Type} : ∀ {l : List α} {j : Nat} {v : α}, l[j]? = some v → l.set j v = l
  | _ :: _, 0, _, h => by cases h; rfl
  | _ :: _, j + 1, _, h => by rw [List.set_cons_succ, set_self (l := _) (j := j) h]
theorem rns_freeze (j : Nat) (hj : ρ[j]? = some (some t)) (h : Rns F sts (ρ.set j (some (.fz (er t)))) o) : Rns F sts ρ o := by
  obtain ⟨τ, x, y⟩ := h
  refine ⟨τ, x, fun D σ G0 H0 G H r k => ?_⟩
  obtain ⟨fp, r⟩ := r
  obtain ⟨v, f, fr, q1, q2, q3, q4⟩ := r.own.split hj
  have nd := List.nodup_append.mp (q4.nodup_iff.mp r.d)
  have sub : ∀ a ∈ f, a ∈ fp := fun a ha => q4.mem_iff.mpr (List.mem_append_left _ ha)
  have sub' : ∀ a ∈ fr, a ∈ fp := fun a ha => q4.mem_iff.mpr (List.mem_append_right _ ha)
  have sm : Same G (frzd G H f) := frzd_same fun a ha => r.g a (sub a ha)
  have lt : j < ρ.length := by
    rcases Nat.lt_or_ge j ρ.length with z | z
    · exact z
    · rw [List.getElem?_eq_none z] at hj; cases hj
  obtain ⟨fp', p1, p2⟩ := (q3.mono sm (Same.refl _)).put (f := []) (t := .fz (er t)) (get_set_none lt) ⟨rfl, q2.hv sm fun a ha => frzd_in ha⟩
  rw [List.set_set, set_self q1] at p1
  refine y D σ G0 H0 (frzd G H f) H ⟨fp', ⟨r.st.g.trans sm, r.st.h, frzd_sub r.st.s, fun a h h' => ?_⟩, p1, fun a ha => ?_, fun a ha => r.n a (sub' a (p2.mem_iff.mp ha)), p2.nodup_iff.mpr nd.2.1⟩ k
  · by_cases z : a ∈ f
    · exact r.n a (sub a z)
    · rw [frzd_out z] at h'; exact r.st.n a h h'
  · have z := p2.mem_iff.mp ha
    rw [frzd_out fun z' => nd.2.2 a z' a z rfl]
    exact r.g a (sub' a z)
theorem RSf.chg {K : PySem.W.Frag} {G0 H0 G H G1 H1 : Hp} {ρ : En} {σ : St} {fp : List Addr} {j : Nat} {t : Tr} (r : RSf K G0 H0 G H ρ σ fp) (hj : ρ[j]? = some (some t)) (s1 : Step G H G1 H1) :
    ∃ v f, σ[j]? = some (some v) ∧ Ow K G H t v f ∧ Ow K G1 H1 t v f ∧ f.Nodup ∧ (∀ a ∈ f, a ∈ fp) ∧ ∀ l o t' f', l ∈ f → Ow K G1 (upd H1 l o) t' v f' → f'.Nodup → (∀ a ∈ f', a ∈ f ∨ (H a = none ∧ G1 a = none)) → RS K G0 H0 G1 (upd H1 l o) (ρ.set j (some t')) σ := by
  obtain ⟨v, f, fr, q1, q2, q3, q4⟩ := r.own.split hj
  have nda := List.nodup_append.mp (q4.nodup_iff.mp r.d)
  have qfp : ∀ a ∈ f, a ∈ fp := fun a ha => q4.mem_iff.mpr (List.mem_append_left _ ha)
  have rfp : ∀ a ∈ fr, a ∈ fp := fun a ha => q4.mem_iff.mpr (List.mem_append_right _ ha)
  have lt : j < ρ.length := by
    rcases Nat.lt_or_ge j ρ.length with z | z
    · exact z
    · rw [List.getElem?_eq_none z] at hj; cases hj
  have lG : ∀ a ∈ fp, G1 a = none := fun a ha => by
    cases q : G1 a with
    | none => rfl
    | some u =>
      obtain ⟨u', hu'⟩ := r.own.there a ha
      have := s1.n a (r.g a ha) (by rw [q]; exact fun z => nomatch z)
      rw [hu'] at this; cases this
  refine ⟨v, f, q1, q2, q2.mono s1.g s1.h, nda.1, qfp, fun l o t' f' hl ow nw hw => ?_⟩
  have new : ∀ a, H a = none → a ∉ fp := fun a ha hb => by
    obtain ⟨u, hu⟩ := r.own.there a hb
    rw [ha] at hu; cases hu
  have q3' : OwS K G1 (upd H1 l o) (ρ.set j none) σ fr := (q3.mono s1.g s1.h).frame fun z => nda.2.2 l hl l z rfl
  obtain ⟨fp', p1', p2'⟩ := q3'.put (get_set_none lt) ow
  rw [List.set_set, set_self q1] at p1'
  have memf : ∀ a ∈ fp', a ∈ fp ∨ (H a = none ∧ G1 a = none) := fun a ha => by
    rcases List.mem_append.mp (p2'.mem_iff.mp ha) with z | z
    · exact (hw a z).imp (qfp a) id
    · exact .inl (rfp a z)
  refine ⟨fp', ⟨(r.st.trans s1).g, fun b u hb => ?_, fun b u hb => ?_, (r.st.trans s1).n⟩, p1', fun a ha => ?_, fun a ha => ?_, ?_⟩
  · have hb1 := (r.st.trans s1).h b u hb
    rw [upd_ne fun z => ?_]
    · exact hb1
    · subst z; rw [r.n _ (qfp _ hl)] at hb; cases hb
  · have hb1 := s1.s b u hb
    rw [upd_ne fun z => ?_]
    · exact hb1
    · subst z; rw [lG _ (qfp _ hl)] at hb; cases hb
  · exact (memf a ha).elim (lG a) fun z => z.2
  · exact (memf a ha).elim (r.n a) fun z => r.st.h.free z.1
  · refine p2'.nodup_iff.mpr (List.nodup_append.mpr ⟨nw, nda.2.1, fun a ha b hb z => ?_⟩)
    subst z
    rcases hw a ha with z | z
    · exact nda.2.2 a z a hb rfl
    · exact new a z.1 (rfp a hb)
theorem RSf.mut {K : PySem.W.Frag} {G0 H0 G H G1 H1 : Hp} {ρ : En} {σ : St} {fp : List Addr} {j : Nat} {us : List Tr} (r : RSf K G0 H0 G H ρ σ fp) (hj : ρ[j]? = some (some (.ow us))) (s1 : Step G H G1 H1) :
    ∃ l vs fq, σ[j]? = some (some (.ref l)) ∧ H l = some (.lst vs) ∧ H1 l = some (.lst vs) ∧ OwL K G1 H1 us vs fq ∧ fq.Nodup ∧ (∀ a ∈ fq, a ∈ fp) ∧ ∀ us' ws fw, OwL K G1 H1 us' ws fw → fw.Nodup → (∀ a ∈ fw, a ∈ fq ∨ (H a = none ∧ G1 a = none)) → RS K G0 H0 G1 (upd H1 l (.lst ws)) (ρ.set j (some (.ow us'))) σ := by
  obtain ⟨v, f, q1, q2, q3, nd, qfp, q⟩ := r.chg hj s1
  obtain ⟨l, vs, fq, rfl, hl, ol, rfl⟩ := q3
  obtain ⟨l', vs', fq', e1, hl', _, e2⟩ := q2
  cases e1
  have ev : vs' = vs := by
    have := s1.h _ _ hl'
    rw [hl] at this
    cases this; rfl
  subst ev
  have ndl := List.nodup_cons.mp nd
  refine ⟨l, vs', fq, q1, hl', hl, ol, ndl.2, fun a ha => qfp a (.tail _ ha), fun us' ws fw ow nw hw => ?_⟩
  have lfw : l ∉ fw := fun z => (hw l z).elim ndl.1 fun z => by rw [z.1] at hl'; cases hl'
  exact q l (.lst ws) (.ow us') (l :: fw) (.head _) ⟨l, ws, fw, rfl, upd_same, ow.frame lfw, rfl⟩ (List.nodup_cons.mpr ⟨lfw, nw⟩) fun a ha => (List.mem_cons.mp ha).elim (fun z => .inl (z ▸ .head _)) fun z => (hw a z).imp (fun z => .tail _ z) id
theorem rn_append (j : Nat) {x : Str} {us : List Tr} {p1 p2 p3 : Pos} (h : ρ[j]? = some (some (.ow us))) (he : EvS F e ρ t) (hz : us.length < sizeLine) (hN : ∀ i, (F.cx i).N[j]? = some x := by intro _; rfl)
    (hv : ∀ i, Vis (F.cx i).env.scope x := by intro _; first | exact Or.inl rfl | exact Or.inr (Or.inl rfl) | exact Or.inr (Or.inr rfl)) (hd : (x == ("__debug__" : Str)) = false := by decide) (hc : (x == ("__classdict__" : Str)) = false := by decide)
    (hbase : ∀ i, attributeBase (.Name x p1) "append" (F.cx i).env (eval (.Name x p1) (F.cx i).env) = eval (.Name x p1) (F.cx i).env := by intro _; rfl)
    (hfew : ∀ i, ((backTo p3 (starEach [e] (F.cx i).env)).all (fun x => !x.1) && (backToKw p3 (keywordEach [] (F.cx i).env)).all (fun x => x.1.isSome) && decide (([e] : List Expr).length + ([] : List Keyword).length + (if ([] : List Keyword).isEmpty then 0 else 1) < 30)) = true := by intro _; rfl)
    (hline : (p2.endLine == p3.line) = true := by rfl) (hs : ∀ i, starEach [e] (F.cx i).env = [(false, eval e (F.cx i).env)] := by intro _; rfl) (hsw : ∀ i, swapsWith (.Call (.Attribute (.Name x p1) "append" p2) [e] [] p3) none pos.line (F.cx i).env = pure false := by intro _; rfl) :
    Rn F (.Expr (.Call (.Attribute (.Name x p1) "append" p2) [e] [] p3) pos) ρ (.nx (ρ.set j (some (.ow (us ++ [t]))))) := by
  obtain ⟨τ, y, z⟩ := he
  refine ⟨tDrop (tBM F.K "list" rAppend (tVar j) (tCons τ tNil)), fun i => ps_expr (F.hK i ▸ pe_bm PySem.F.plainAttrs_list PySem.F.slot_list_append PySem.F.type_list_append mt_append (pe_var (hN i) (hv i) hd hc) (pa_cons (y i) pa_nil (hs i)) (hbase i) (hfew i) hline (hs i) rfl) (hsw i), fun D σ G0 H0 G H r k => ?_⟩
  obtain ⟨fp, r⟩ := r
  obtain ⟨l0, vs0, fq0, c1, c2, _⟩ := r.mut h (.refl r.st.s)
  refine ⟨_, c1, .inl ⟨rfl, _, SqL.of c2⟩, ?_⟩
  refine z σ G H fp _ r.st.s r.own r.g fun v1 G1 H1 f1 s1 o1 w1 => ?_
  obtain ⟨l, vs, fq, d1, d2, d3, d4, d5, d6, d7⟩ := r.mut h s1
  rw [c1] at d1
  cases d1
  refine ⟨l0, vs, v1, rfl, rfl, d3, by rw [← d4.length]; exact hz, k σ G1 _ (d7 (us ++ [t]) (vs ++ [v1]) (fq ++ (f1 ++ [])) (d4.append ⟨v1, [], f1, [], rfl, rfl, o1, rfl, rfl⟩) ?_ fun a ha => ?_)⟩
  · rw [List.append_nil]
    refine List.nodup_append.mpr ⟨d5, w1.d, fun a ha b hb e => ?_⟩
    subst e
    obtain ⟨u, hu⟩ := r.own.there a (d6 a ha)
    rw [w1.n a hb] at hu; cases hu
  · rw [List.append_nil] at ha
    exact (List.mem_append.mp ha).imp id fun z => ⟨w1.n a z, w1.g a z⟩
theorem rn_extend (j : Nat) {x : Str} {us : List Tr} {p1 p2 p3 : Pos} (h : ρ[j]? = some (some (.ow us))) {vs' : List Tr} (he : EvS F e ρ (.ow vs')) (hz : us.length + vs'.length ≤ sizeLine) (hN : ∀ i, (F.cx i).N[j]? = some x := by intro _; rfl)
    (hv : ∀ i, Vis (F.cx i).env.scope x := by intro _; first | exact Or.inl rfl | exact Or.inr (Or.inl rfl) | exact Or.inr (Or.inr rfl)) (hd : (x == ("__debug__" : Str)) = false := by decide) (hc : (x == ("__classdict__" : Str)) = false := by decide)
    (hbase : ∀ i, attributeBase (.Name x p1) "extend" (F.cx i).env (eval (.Name x p1) (F.cx i).env) = eval (.Name x p1) (F.cx i).env := by intro _; rfl)
    (hfew : ∀ i, ((backTo p3 (starEach [e] (F.cx i).env)).all (fun x => !x.1) && (backToKw p3 (keywordEach [] (F.cx i).env)).all (fun x => x.1.isSome) && decide (([e] : List Expr).length + ([] : List Keyword).length + (if ([] : List Keyword).isEmpty then 0 else 1) < 30)) = true := by intro _; rfl)
    (hline : (p2.endLine == p3.line) = true := by rfl) (hs : ∀ i, starEach [e] (F.cx i).env = [(false, eval e (F.cx i).env)] := by intro _; rfl) (hsw : ∀ i, swapsWith (.Call (.Attribute (.Name x p1) "extend" p2) [e] [] p3) none pos.line (F.cx i).env = pure false := by intro _; rfl) :
    Rn F (.Expr (.Call (.Attribute (.Name x p1) "extend" p2) [e] [] p3) pos) ρ (.nx (ρ.set j (some (.ow (us ++ vs'))))) := by
  obtain ⟨τ, y, z⟩ := he
  refine ⟨tDrop (tBM F.K "list" rExtend (tVar j) (tCons τ tNil)), fun i => ps_expr (F.hK i ▸ pe_bm PySem.F.plainAttrs_list PySem.F.slot_list_extend PySem.F.type_list_extend mt_extend (pe_var (hN i) (hv i) hd hc) (pa_cons (y i) pa_nil (hs i)) (hbase i) (hfew i) hline (hs i) rfl) (hsw i), fun D σ G0 H0 G H r k => ?_⟩
  obtain ⟨fp, r⟩ := r
  obtain ⟨l0, vs0, fq0, c1, c2, _⟩ := r.mut h (.refl r.st.s)
  refine ⟨_, c1, .inl ⟨rfl, _, SqL.of c2⟩, ?_⟩
  refine z σ G H fp _ r.st.s r.own r.g fun v1 G1 H1 f1 s1 o1 w1 => ?_
  obtain ⟨l, vs, fq, d1, d2, d3, d4, d5, d6, d7⟩ := r.mut h s1
  rw [c1] at d1
  cases d1
  obtain ⟨b, zs, fz', rfl, hb, ob, rfl⟩ := o1
  have wd := List.nodup_cons.mp w1.d
  refine ⟨l0, b, vs, zs, rfl, rfl, d3, hb, by rw [← d4.length, ← ob.length]; exact hz, k σ G1 _ (d7 (us ++ vs') (vs ++ zs) (fq ++ fz') (d4.append ob) ?_ fun a ha => ?_)⟩
  · refine List.nodup_append.mpr ⟨d5, wd.2, fun a ha b hb e => ?_⟩
    subst e
    obtain ⟨u, hu⟩ := r.own.there a (d6 a ha)
    rw [w1.n a (.tail _ hb)] at hu; cases hu
  · exact (List.mem_append.mp ha).imp id fun z => ⟨w1.n a (.tail _ z), w1.g a (.tail _ z)⟩
end
end L2
namespace L2
open PySem PySem.Spec PyProof.Rows
def ItD (K : PySem.W.Frag) (G : Hp) (J : It) (its : List Dv) : Prop := ∀ k G1 H1, Same G G1 → Same G1 H1 →
  (∀ d, its[k]? = some d → J.go k H1 ∧ ∀ x H3, J.yld k H1 x H3 → ∃ G3, Step G1 H1 G3 H3 ∧ Hv K G3 d x) ∧ (k = its.length → J.stop k H1)
def setAll {α : Type} : List Nat → List α → List (Option α) → List (Option α)
  | j :: js, v :: vs, σ => setAll js vs (σ.set j (some v))
  | _, _, σ => σ
def dropAll {α : Type} : List Nat → List (Option α) → List (Option α)
  | [], ρ => ρ
  | j :: js, ρ => dropAll js (ρ.set j none)
theorem RS.dropAll {K : PySem.W.Frag} {G0 H0 G H : Hp} : ∀ {ρ : En} {σ : St} (js : List Nat), RS K G0 H0 G H ρ σ → RS K G0 H0 G H (L2.dropAll js ρ) σ
  | _, _, [], r => r
  | _, _, j :: js, r => RS.dropAll js (r.forget j)
def Fg (ρ ρ' : En) : Prop := ∃ fs, L2.dropAll fs ρ = ρ'
theorem Fg.rs {K : PySem.W.Frag} {G0 H0 G H : Hp} {ρ ρ' : En} {σ : St} (f : Fg ρ ρ') (r : RS K G0 H0 G H ρ σ) : RS K G0 H0 G H ρ' σ := by
  obtain ⟨fs, rfl⟩ := f
  exact r.dropAll fs
theorem RS.setAll {K : PySem.W.Frag} {G0 H0 G H : Hp} : ∀ {js : List Nat} {ds : List Dv} {vs : List V} {ρ : En} {σ : St}, (∀ j ∈ js, j < ρ.length) → HvL K G ds vs → RS K G0 H0 G H ρ σ → RS K G0 H0 G H (L2.setAll js (ds.map .fz) ρ) (L2.setAll js vs σ)
  | [], _, _, _, _, _, _, r => r
  | _ :: _, [], _, _, _, _, h, r => by rw [show _ = [] from h]; exact r
  | j :: js, d :: ds, _, ρ, σ, hj, ⟨x, q, h1, h2, h3⟩, ⟨fp, r⟩ => by
    subst h1
    have r' : RS K G0 H0 G H (ρ.set j (some (.fz d))) (σ.set j (some x)) := r.set (t := .fz d) (v := x) (fq := []) (hj j (.head _)) (.refl r.st.s) ⟨rfl, h2⟩ .nil
    exact RS.setAll (js := js) (ds := ds) (fun i hi => by rw [List.length_set]; exact hj i (.tail _ hi)) h3 r'
theorem RpD.set {K : PySem.W.Frag} {G : Hp} {ρ : En} {σ : St} {j : Nat} {d : Dv} {v : V} (r : RpD K G ρ σ) (hj : j < σ.length) (h : Hv K G d v) : RpD K G (ρ.set j (some (.fz d))) (σ.set j (some v)) := fun i e hi => by
  by_cases q : i = j
  · subst q
    rw [List.getElem?_set_self (by
      rcases Nat.lt_or_ge i ρ.length with z | z
      · exact z
      · rw [List.getElem?_eq_none (by rw [List.length_set]; exact z)] at hi; cases hi)] at hi
    cases hi
    exact ⟨v, by rw [List.getElem?_set_self hj], h⟩
  · rw [List.getElem?_set_ne (Ne.symm q)] at hi
    obtain ⟨u, h1, h2⟩ := r i e hi
    exact ⟨u, by rw [List.getElem?_set_ne (Ne.symm q)]; exact h1, h2⟩
theorem setAll_len {α : Type} : ∀ (js : List Nat) (vs : List α) (σ : List (Option α)), (setAll js vs σ).length = σ.length
  | [], _, _ => rfl
  | _ :: _, [], _ => rfl
  | j :: js, v :: vs, σ => by
    show (setAll js vs (σ.set j (some v))).length = _
    rw [setAll_len js vs, List.length_set]
theorem RpD.setAll {K : PySem.W.Frag} {G : Hp} : ∀ {js : List Nat} {ds : List Dv} {vs : List V} {ρ : En} {σ : St}, (∀ j ∈ js, j < σ.length) → HvL K G ds vs → RpD K G ρ σ → RpD K G (L2.setAll js (ds.map .fz) ρ) (L2.setAll js vs σ)
  | [], _, _, _, _, _, _, r => r
  | _ :: _, [], _, _, _, _, h, r => by rw [show _ = [] from h]; exact r
  | j :: js, d :: ds, _, ρ, σ, hj, ⟨x, q, h1, h2, h3⟩, r => by
    subst h1
    exact RpD.setAll (js := js) (ds := ds) (ρ := ρ.set j (some (.fz d))) (fun i hi => by rw [List.length_set]; exact hj i (.tail _ hi)) h3 (r.set (hj j (.head _)) h2)
section
variable {ι : Type}
def EvI (F : Fam ι) (tg iter : Expr) (ρ : En) (its : List Dv) : Prop := ∃ wi : TI, (∀ i, PI (F.cx i) tg iter wi) ∧ ∀ σ G H (R : It → Hp → Prop), Same G H → RpD F.K G ρ σ → (∀ J G' H', Step G H G' H' → ItD F.K G' J its → R J H') → wi σ H R
def EvIS (F : Fam ι) (tg iter : Expr) (ρ : En) (its : List Dv) : Prop := ∃ wi : TI, (∀ i, PI (F.cx i) tg iter wi) ∧ ∀ σ G H fp (R : It → Hp → Prop), Same G H → OwS F.K G H ρ σ fp → (∀ a ∈ fp, G a = none) → (∀ J G' H', Step G H G' H' → ItD F.K G' J its → R J H') → wi σ H R
def EvG (F : Fam ι) (tg : Expr) (js : List Nat) (sp : Dv → Option (List Dv)) : Prop := ∃ g : TG, (∀ i, PG (F.cx i) tg g) ∧ ∀ d dd v σ G H Q, sp d = some dd → Same G H → Hv F.K G d v → (∀ vs, HvL F.K G dd vs → Q (setAll js vs σ) H) → g v σ H Q
def uS (F : Fam ι) (sts : List Stmt) : TS := fun D σ H => ∃ τ : TS, (∀ i, PSs (F.cx i) sts τ) ∧ τ D σ H
theorem uS_ok {F : Fam ι} {sts : List Stmt} (i : ι) : PSs (F.cx i) sts (uS F sts) := fun pins s σ H D I ⟨τ, h, q⟩ => h i pins s σ H D I q
def uT (F : Fam ι) (e : Expr) : TT := fun σ H Q => ∃ τ : TT, (∀ i, PT (F.cx i) e τ) ∧ τ σ H Q
theorem uT_ok {F : Fam ι} {e : Expr} (i : ι) : PT (F.cx i) e (uT F e) := fun pins s σ H D I ⟨τ, h, q⟩ => h i pins s σ H D I q
def uE (F : Fam ι) (e : Expr) : TE := fun σ H Q => ∃ τ : TE, (∀ i, PE (F.cx i) e τ) ∧ τ σ H Q
theorem uE_ok {F : Fam ι} {e : Expr} (i : ι) : PE (F.cx i) e (uE F e) := fun pins s σ H D I ⟨τ, h, q⟩ => h i pins s σ H D I q
variable {F : Fam ι} {e a b c tg iter elt : Expr} {es : List Expr} {ρ ρ1 : En} {t ta : Tr} {ts : List Tr} {pos : Pos} {o : Out} {body : List Stmt} {its : List Dv} {js : List Nat} {sp : Dv → Option (List Dv)}
theorem EvI.s (h : EvI F tg iter ρ its) : EvIS F tg iter ρ its := let ⟨w, x, y⟩ := h; ⟨w, x, fun σ G H fp R s r _ k => y σ G H R s r.rpd k⟩
theorem evg_nm (j : Nat) {x : Str} (hN : ∀ i, (F.cx i).N.Nodup) (hi : ∀ i, (F.cx i).N[j]? = some x := by intro _; rfl) (hx : ∀ i, Loc (F.cx i).env.scope x := by intro _; first | exact Or.inl rfl | exact Or.inr rfl)
    (hf : ∀ i, (F.cx i).fn x = true ∨ (F.cx i).env.scope.names.lookup x = some .local := by intro _; first | exact .inl rfl | exact .inr rfl) : EvG F (.Name x pos) [j] (fun d => some [d]) :=
  ⟨gName j, fun i => pg_name (hN i) (hi i) (hx i) (hf i), fun d dd v σ G H Q e s h k => by
    cases e
    exact k [v] ⟨v, [], rfl, h, rfl⟩⟩
def tupOf (n : Nat) : Dv → Option (List Dv)
  | .tup ds => if ds.length = n then some ds else none
  | _ => none
theorem evi_list {xs : List Dv} (ha : Ev F e ρ ta) (ea : er ta = .lst xs) : EvI F tg e ρ xs := by
  obtain ⟨τ, p, q⟩ := ha.use
  refine ⟨iList F.K τ, fun i => F.hK i ▸ pi_list (p i), fun σ G H R s r k => q σ G H _ s r fun x G1 H1 s1 hx => ?_⟩
  rw [ea] at hx
  obtain ⟨l, vs, rfl, h1, h2⟩ := hx
  refine ⟨l, rfl, ⟨vs, s1.s.seq h1⟩, k _ G1 H1 s1 fun j G2 H2 sg sh => ⟨fun d hd => ?_, fun hz => ⟨vs, (sg.trans sh).seq h1, by rw [← h2.length, hz]; exact Nat.le_refl _⟩⟩⟩
  obtain ⟨v, q1, q2⟩ := h2.get hd
  refine ⟨⟨vs, v, (sg.trans sh).seq h1, q1⟩, ?_⟩
  rintro x H3 ⟨rfl, hx⟩
  have := hx vs ((sg.trans sh).seq h1)
  rw [q1] at this
  cases this
  exact ⟨G2, .refl sh, q2.mono sg⟩
abbrev rngD (lo : Int) (n : Nat) : List Dv := (List.range n).map fun k => di (lo + (k : Nat))
theorem itd_rng {K : PySem.W.Frag} {G : Hp} (lo : Int) (n : Nat) : ItD K G (Itr lo n) (rngD lo n) := fun k G1 H1 sg sh => by
  refine ⟨fun d hd => ?_, fun hz => by show n ≤ k; rw [hz]; simp⟩
  rw [List.getElem?_map] at hd
  rcases Nat.lt_or_ge k n with hk | hk
  · rw [List.getElem?_range hk] at hd
    cases hd
    refine ⟨hk, ?_⟩
    rintro x H3 ⟨rfl, rfl⟩
    exact ⟨G1, .refl sh, rfl, rfl⟩
  · rw [List.getElem?_eq_none (by simpa using hk)] at hd; cases hd
theorem evi_range1 {n : Int} (hm : F.mg "range" = none) (ha : Ev F a ρ (ti n)) (hb : -(2 ^ 62) ≤ n ∧ n < 2 ^ 62) {p : Pos} (hg : ∀ i, Gl (F.cx i) "range" := by intro _; rfl) (hs : ∀ i, starEach [a] (F.cx i).env = [(false, eval a (F.cx i).env)] := by intro _; rfl) : EvI F tg (.Call (.Name "range" p) [a] [] pos) ρ (rngD 0 n.toNat) := by
  obtain ⟨τ, p, q⟩ := ha.use
  refine ⟨iRng1 (tCons τ tNil), fun i => pi_range1 (hg i) ((F.hm i).symm ▸ hm) (pa_cons (p i) pa_nil (hs i)) (hs i), fun σ G H R s r k => q σ G H _ s r fun x G1 H1 s1 hx => ?_⟩
  exact ⟨n, by rw [hvi hx], hb.1, hb.2, k _ G1 H1 s1 (itd_rng 0 n.toNat)⟩
theorem blts {js : List Nat} {n : Nat} (h : js.all (fun j => Nat.blt j n) = true) : ∀ j ∈ js, j < n := fun j hj => Nat.le_of_ble_eq_true (List.all_eq_true.mp h j hj)
theorem pOwn {i : ι} (hx : (F.cx i).xe = NoX) : PassesOwn (model (F.cx i).prog (F.cx i).w) (F.cx i).A (F.cx i).env (F.cx i).xe := by rw [hx]; exact PassesOwn.never
theorem rn_for_gen (hi : EvIS F tg iter ρ its) (hg : EvG F tg js sp) (inv : Nat → En) (m : Nat) (hm : m ≤ its.length) (h0 : inv 0 = ρ) (hlen : ∀ k, js.all (fun j => Nat.blt j (inv k).length) = true)
    (step : ∀ k d, k < m → its[k]? = some d → ∃ dd ρb, sp d = some dd ∧ Rns F body (setAll js (dd.map .fz) (inv k)) (.nx ρb) ∧ Fg ρb (inv (k + 1)))
    (fin : (m = its.length ∧ o = .nx (inv m)) ∨ ∃ d dd t, its[m]? = some d ∧ sp d = some dd ∧ Rns F body (setAll js (dd.map .fz) (inv m)) (.rt t) ∧ o = .rt t)
    (hx : ∀ i, (F.cx i).xe = NoX := by intro _; rfl) (hs : ∀ i x, foldedSetIterable iter (F.cx i).env x = pure x := by intro _ _; rfl) : Rn F (.For tg iter body [] pos) ρ o := by
  obtain ⟨wi, p, q⟩ := hi
  obtain ⟨g, pg, qg⟩ := hg
  subst h0
  refine ⟨tFor wi g (uS F body), fun i => ps_for (pOwn (hx i)) (F.calm i) (p i) (pg i) (uS_ok i) (hs i), fun D σ G0 H0 G H r k => ?_⟩
  obtain ⟨fp, r⟩ := r
  refine q σ G H fp _ r.st.s r.own r.g fun J G1 H1 s1 it => ?_
  have r1 : RSf F.K G0 H0 G1 H1 (inv 0) σ fp := ⟨r.st.trans s1, r.own.mono s1.g s1.h, r.own.off s1 r.g, r.n, r.d⟩
  have kb := k.under r1.base
  refine ⟨fun k m' σ' H' => m' = its.length - k ∧ k ≤ m ∧ ∃ G', RS F.K G1 (less H1 fp) G' H' (inv k) σ', ⟨_, rfl, Nat.zero_le _, G1, fp, r1.rebase⟩, ?_⟩
  rintro n m' σ' H' ⟨rfl, hn, G', r'⟩
  obtain ⟨fp', r'⟩ := r'
  obtain ⟨i1, i2⟩ := it n G' H' r'.st.g r'.st.s
  by_cases hlt : n < m
  · have hd : its[n]? = some its[n] := List.getElem?_eq_getElem (by omega)
    obtain ⟨j1, j2⟩ := i1 _ hd
    refine .inr ⟨j1, fun σ2 H2 => ∃ G2, RS F.K G1 (less H1 fp) G2 H2 (inv (n + 1)) σ2, fun σ2 H2 z => ⟨its.length - (n + 1), by omega, rfl, hlt, z⟩, fun x H3 y => ?_⟩
    obtain ⟨G3, s3, h3⟩ := j2 x H3 y
    obtain ⟨dd, ρb, e1, ⟨τ, pb, qb⟩, e2⟩ := step n _ hlt hd
    refine qg _ dd x σ' G3 H3 _ e1 s3.s h3 fun vs hvs => ⟨τ, pb, qb _ _ G1 (less H1 fp) G3 H3 (RS.setAll (blts (hlen n)) hvs ⟨fp', r'.st.trans s3, r'.own.mono s3.g s3.h, fun a ha => ?_, r'.n, r'.d⟩) fun σ4 G4 H4 r4 => ⟨G4, e2.rs r4⟩⟩
    cases q : G3 a with
    | none => rfl
    | some u =>
      obtain ⟨u', hu'⟩ := r'.own.there a ha
      have := s3.n a (r'.g a ha) (by rw [q]; exact fun z => nomatch z)
      rw [hu'] at this; cases this
  · have en : n = m := by omega
    subst en
    rcases fin with ⟨e, rfl⟩ | ⟨d, dd, t, hd, e1, ⟨τ, pb, qb⟩, rfl⟩
    · refine .inl ⟨i2 e, kb σ' G' H' ⟨fp', r'⟩⟩
    · obtain ⟨j1, j2⟩ := i1 d hd
      refine .inr ⟨j1, fun _ _ => False, fun _ _ z => z.elim, fun x H3 y => ?_⟩
      obtain ⟨G3, s3, h3⟩ := j2 x H3 y
      refine qg d dd x σ' G3 H3 _ e1 s3.s h3 fun vs hvs => ⟨τ, pb, qb _ _ G1 (less H1 fp) G3 H3 (RS.setAll (blts (hlen n)) hvs ⟨fp', r'.st.trans s3, r'.own.mono s3.g s3.h, fun a ha => ?_, r'.n, r'.d⟩) kb⟩
      cases q : G3 a with
      | none => rfl
      | some u =>
        obtain ⟨u', hu'⟩ := r'.own.there a ha
        have := s3.n a (r'.g a ha) (by rw [q]; exact fun z => nomatch z)
        rw [hu'] at this; cases this
theorem rn_for (hi : EvIS F tg iter ρ its) (hg : EvG F tg js sp) (inv : Nat → En) (h0 : inv 0 = ρ) (hlen : ∀ k, js.all (fun j => Nat.blt j (inv k).length) = true)
    (step : ∀ k d, its[k]? = some d → ∃ dd ρb, sp d = some dd ∧ Rns F body (setAll js (dd.map .fz) (inv k)) (.nx ρb) ∧ Fg ρb (inv (k + 1)))
    (hx : ∀ i, (F.cx i).xe = NoX := by intro _; rfl) (hs : ∀ i x, foldedSetIterable iter (F.cx i).env x = pure x := by intro _ _; rfl) : Rn F (.For tg iter body [] pos) ρ (.nx (inv its.length)) :=
  rn_for_gen hi hg inv its.length (Nat.le_refl _) h0 hlen (fun k d _ h => step k d h) (.inl ⟨rfl, rfl⟩) hx hs
theorem rns_look {sts : List Stmt} (hi : EvIS F tg iter ρ its) (hg : EvG F tg js sp) (hlen : js.all (fun j => Nat.blt j ρ.length) = true) (ok : Dv → Bool)
    (step : ∀ d ∈ its, ∃ dd, sp d = some dd ∧ (ok d = true → ∃ ρb, Rns F body (setAll js (dd.map .fz) ρ) (.nx ρb) ∧ Fg ρb ρ) ∧ (ok d = false → Rns F body (setAll js (dd.map .fz) ρ) (.rt t)))
    (good : its.all ok = true → Rns F sts ρ o) (bad : its.all ok = false → o = .rt t)
    (hx : ∀ i, (F.cx i).xe = NoX := by intro _; rfl) (hs : ∀ i x, foldedSetIterable iter (F.cx i).env x = pure x := by intro _ _; rfl) : Rns F (.For tg iter body [] pos :: sts) ρ o := by
  cases hall : its.all ok with
  | true =>
    refine rns_cons (rn_for hi hg (fun _ => ρ) rfl (fun _ => hlen) (fun k d h => ?_) hx hs) (good hall)
    obtain ⟨dd, e, s1, _⟩ := step d (List.mem_of_getElem? h)
    obtain ⟨ρb, q1, q2⟩ := s1 (List.all_eq_true.mp hall d (List.mem_of_getElem? h))
    exact ⟨dd, ρb, e, q1, q2⟩
  | false =>
    rw [bad hall]
    have : ∃ m d, m < its.length ∧ its[m]? = some d ∧ ok d = false ∧ ∀ k e, k < m → its[k]? = some e → ok e = true := by
      clear step good bad hi
      induction its with
      | nil => cases hall
      | cons x xs ih =>
        rw [List.all_cons] at hall
        cases hxx : ok x with
        | false => exact ⟨0, x, by simp, rfl, hxx, fun k e hk => absurd hk (Nat.not_lt_zero _)⟩
        | true =>
          rw [hxx, Bool.true_and] at hall
          obtain ⟨m, d, h1, h2, h3, h4⟩ := ih hall
          refine ⟨m + 1, d, by simpa using h1, h2, h3, fun k e hk he => ?_⟩
          cases k with
          | zero => cases he; exact hxx
          | succ k => exact h4 k e (by omega) he
    obtain ⟨m, d, h1, h2, h3, h4⟩ := this
    refine rns_ret (rn_for_gen hi hg (fun _ => ρ) m (Nat.le_of_lt h1) rfl (fun _ => hlen) (fun k e hk he => ?_) (.inr ?_) hx hs)
    · obtain ⟨dd, e', s1, _⟩ := step e (List.mem_of_getElem? he)
      obtain ⟨ρb, q1, q2⟩ := s1 (h4 k e hk he)
      exact ⟨dd, ρb, e', q1, q2⟩
    · obtain ⟨dd, e', _, s2⟩ := step d (List.mem_of_getElem? h2)
      exact ⟨d, dd, t, h2, e', s2 h3, rfl⟩
theorem rn_while (inv : Nat → En) (n : Nat) (h0 : inv 0 = ρ) (turn : ∀ k, k < n → EtS F c (inv k) true ∧ Rns F body (inv k) (.nx (inv (k + 1)))) (stop : EtS F c (inv n) false)
    (hx : ∀ i, (F.cx i).xe = NoX := by intro _; rfl) : Rn F (.While c body [] pos) ρ (.nx (inv n)) := by
  subst h0
  refine ⟨tWhile (uT F c) (uS F body), fun i => ps_while (pOwn (hx i)) (uT_ok i) (uS_ok i), fun D σ G0 H0 G H r k => ?_⟩
  refine ⟨fun m' σ' H' => ∃ j G', j ≤ n ∧ m' = n - j ∧ RS F.K G0 H0 G' H' (inv j) σ', ⟨_, 0, G, Nat.zero_le _, rfl, r⟩, ?_⟩
  rintro m' σ' H' ⟨j, G', hj, rfl, fp, r'⟩
  have key : ∀ {G1 H1 : Hp}, Step G' H' G1 H1 → RS F.K G0 H0 G1 H1 (inv j) σ' := fun {G1 H1} s1 => ⟨fp, r'.st.trans s1, r'.own.mono s1.g s1.h, r'.own.off s1 r'.g, r'.n, r'.d⟩
  by_cases hlt : j < n
  · obtain ⟨⟨τ, x, y⟩, ⟨τ', x', y'⟩⟩ := turn j hlt
    refine ⟨τ, x, y σ' G' H' fp _ r'.st.s r'.own r'.g fun G1 H1 s1 => iteT ⟨fun σ2 H2 => ∃ G2, RS F.K G0 H0 G2 H2 (inv (j + 1)) σ2, fun σ2 H2 ⟨G2, z⟩ => ⟨n - (j + 1), by omega, j + 1, G2, hlt, rfl, z⟩, τ', x', ?_⟩⟩
    exact y' _ σ' G0 H0 G1 H1 (key s1) fun σ4 G4 H4 r4 => ⟨G4, r4⟩
  · have e : j = n := by omega
    subst e
    obtain ⟨τ, x, y⟩ := stop
    exact ⟨τ, x, y σ' G' H' fp _ r'.st.s r'.own r'.g fun G1 H1 s1 => iteF (k σ' G1 H1 (key s1))⟩
theorem rn_while_by {α : Type} (S : α → En) (Pp : α → Prop) (p : α → Bool) (μ : α → Nat) (hc : ∀ a, Pp a → EtS F c (S a) (p a)) (hb : ∀ a, Pp a → p a = true → ∃ a', Pp a' ∧ μ a' < μ a ∧ Rns F body (S a) (.nx (S a'))) (a0 : α) (h0 : Pp a0)
    (hx : ∀ i, (F.cx i).xe = NoX := by intro _; rfl) : ∃ a', Pp a' ∧ p a' = false ∧ Rn F (.While c body [] pos) (S a0) (.nx (S a')) := by
  have : ∀ (m : Nat) (a : α), μ a ≤ m → Pp a → ∃ (n : Nat) (f : Nat → α), f 0 = a ∧ (∀ k, k < n → Pp (f k) ∧ p (f k) = true ∧ Rns F body (S (f k)) (.nx (S (f (k + 1))))) ∧ Pp (f n) ∧ p (f n) = false := by
    intro m
    induction m with
    | zero =>
      intro a hm ha
      cases hp : p a with
      | false => exact ⟨0, fun _ => a, rfl, fun k hk => absurd hk (Nat.not_lt_zero _), ha, hp⟩
      | true =>
        obtain ⟨a', _, h2, _⟩ := hb a ha hp
        omega
    | succ m ih =>
      intro a hm ha
      cases hp : p a with
      | false => exact ⟨0, fun _ => a, rfl, fun k hk => absurd hk (Nat.not_lt_zero _), ha, hp⟩
      | true =>
        obtain ⟨a', h1, h2, h3⟩ := hb a ha hp
        obtain ⟨n, f, f0, f1, f2, f3⟩ := ih a' (by omega) h1
        refine ⟨n + 1, fun k => match k with | 0 => a | k + 1 => f k, rfl, fun k hk => ?_, f2, f3⟩
        cases k with
        | zero => exact ⟨ha, hp, by show Rns F body (S a) (.nx (S (f 0))); rw [f0]; exact h3⟩
        | succ k => exact f1 k (by omega)
  obtain ⟨n, f, f0, f1, f2, f3⟩ := this (μ a0) a0 (Nat.le_refl _) h0
  refine ⟨f n, f2, f3, rn_while (fun k => S (f k)) n (by rw [f0]) (fun k hk => ?_) (by have := hc _ f2; rw [f3] at this; exact this) hx⟩
  obtain ⟨g1, g2, g3⟩ := f1 k hk
  exact ⟨by have := hc _ g1; rw [g2] at this; exact this, g3⟩
structure IxLc where
  C : Addr
  s : Shared
  H : Hp
  ex : List Addr
  pn : List (Addr × Obj)
def famLc (F : Fam ι) (own : List Str) (fr : List Nat) (sc : Scope) (cl : ι → List (Str × Addr)) : Fam (ι × IxLc) where
  cx i := cxLc (F.cx i.1) own fr sc (cl i.1) i.2.C i.2.s i.2.H i.2.ex i.2.pn
  P := F.P
  w := F.w
  K := F.K
  mg := F.mg
  base := F.base
  room := F.room
  hP i := F.hP i.1
  hw i := F.hw i.1
  hK i := F.hK i.1
  hm i := F.hm i.1
  hb i := F.hb i.1
  hr i := F.hr i.1
  calm i := F.calm i.1
def lcEn (own : List Str) (fr : List Nat) (ρ : En) : En := own.map (fun _ => none) ++ fr.map fun j => (ρ[j]?).join
theorem rpd_lc {K : PySem.W.Frag} {G : Hp} {own : List Str} {fr : List Nat} {ρ : En} {σ : St} (r : RpD K G ρ σ) : RpD K G (lcEn own fr ρ) (lcStart own fr σ) := fun i d h => by
  unfold lcEn at h
  unfold lcStart
  by_cases hi : i < own.length
  · rw [List.getElem?_append_left (by simpa using hi), List.getElem?_map] at h
    cases q : own[i]? with
    | none => rw [q] at h; cases h
    | some z => rw [q] at h; cases h
  · rw [List.getElem?_append_right (by simpa using hi), List.getElem?_map, List.length_map] at h
    rw [List.getElem?_append_right (by simpa using hi), List.getElem?_map, List.length_map]
    cases q : fr[i - own.length]? with
    | none => rw [q] at h; cases h
    | some j =>
      rw [q] at h
      have h' : (ρ[j]?).join = some (.fz d) := Option.some.inj h
      have hj : ρ[j]? = some (some (.fz d)) := by
        cases q2 : ρ[j]? with
        | none => rw [q2] at h'; cases h'
        | some o => rw [q2] at h'; exact congrArg some h'
      obtain ⟨v, h1, h2⟩ := r j d hj
      refine ⟨v, ?_, h2⟩
      show some ((σ[j]?).join) = _
      rw [h1]
      rfl
def El {κ : Type} (F : Fam κ) (ifs : List Expr) (ρ : En) (b : Bool) : Prop := ∃ tt : TT, (∀ i (pins : List (Addr × Obj)) (s1 : Shared) (σ1 : St) (H1 : Hp) (Q : Bool → Hp → Prop), Inv (F.cx i) pins σ1 H1 s1 → tt σ1 H1 Q →
      wpAny (model (F.cx i).prog (F.cx i).w) (F.cx i).A (lcTests ifs (F.cx i).env) (TP (F.cx i) pins σ1 Q) NoX s1) ∧ ∀ σ G H Q, Same G H → RpD F.K G ρ σ → (∀ G' H', Step G H G' H' → Q b H') → tt σ H Q
theorem el_nil : El F [] ρ true := ⟨tNoTest, fun i pins s1 σ1 H1 Q I h => lc_t0 pins s1 σ1 H1 Q I h, fun σ G H Q s r k => k G H (.refl s)⟩
theorem el_one {p : Bool} (h : Et F c ρ p) (hx : ∀ i, (F.cx i).xe = NoX := by intro _; rfl) : El F [c] ρ p := let ⟨τ, x, y⟩ := h; ⟨τ, fun i pins s1 σ1 H1 Q I h => lc_t1 (x i) (hx i) pins s1 σ1 H1 Q I h, y⟩
def uL {κ : Type} (F : Fam κ) (ifs : List Expr) : TT := fun σ H Q => ∃ tt : TT, (∀ i (pins : List (Addr × Obj)) (s1 : Shared) (σ1 : St) (H1 : Hp) (Q : Bool → Hp → Prop), Inv (F.cx i) pins σ1 H1 s1 → tt σ1 H1 Q →
      wpAny (model (F.cx i).prog (F.cx i).w) (F.cx i).A (lcTests ifs (F.cx i).env) (TP (F.cx i) pins σ1 Q) NoX s1) ∧ tt σ H Q
def LcV (F : Fam ι) (own : List Str) (fr : List Nat) (sc : Scope) (cl : ι → List (Str × Addr)) (elt tg iter : Expr) (ifs : List Expr) (τ : TE) : Prop := ∃ wi g tt te, τ = tLc wi g tt te own fr ∧ (∀ i, PI (F.cx i) tg iter wi) ∧ (∀ i, PG ((famLc F own fr sc cl).cx i) tg g) ∧
  (∀ i (pins : List (Addr × Obj)) (s1 : Shared) (σ1 : St) (H1 : Hp) (Q : Bool → Hp → Prop), Inv ((famLc F own fr sc cl).cx i) pins σ1 H1 s1 → tt σ1 H1 Q → wpAny (model ((famLc F own fr sc cl).cx i).prog ((famLc F own fr sc cl).cx i).w) ((famLc F own fr sc cl).cx i).A (lcTests ifs ((famLc F own fr sc cl).cx i).env) (TP ((famLc F own fr sc cl).cx i) pins σ1 Q) NoX s1) ∧
  ∀ i, PE ((famLc F own fr sc cl).cx i) elt te
def Elc (F : Fam ι) (own : List Str) (fr : List Nat) (sc : Scope) (cl : ι → List (Str × Addr)) (elt tg iter : Expr) (ifs : List Expr) (ρ : En) (t : Tr) : Prop := ∃ τ, LcV F own fr sc cl elt tg iter ifs τ ∧ ∀ σ G H Q, Same G H → RpD F.K G ρ σ → Kv F.K G H t Q → τ σ H Q
theorem elc {ifs : List Expr} {sc : Scope} {own : List Str} {fr : List Nat} {cl : ι → List (Str × Addr)} (hi : EvI F tg iter ρ its) (hg : EvG (famLc F own fr sc cl) tg js sp) (hjs : ∀ j ∈ js, j < own.length)
    (p : Nat → Bool) (f : Nat → Tr) (hz : its.length < sizeLine)
    (step : ∀ k d, its[k]? = some d → ∃ dd, sp d = some dd ∧ El (famLc F own fr sc cl) ifs (setAll js (dd.map .fz) (lcEn own fr ρ)) (p k) ∧ (p k = true → Ev (famLc F own fr sc cl) elt (setAll js (dd.map .fz) (lcEn own fr ρ)) (f k)))
    (hdrop : ∀ dd : List Dv, dropAll js (setAll js (dd.map .fz) (lcEn own fr ρ)) = lcEn own fr ρ) : Elc F own fr sc cl elt tg iter ifs ρ (.ow (((List.range its.length).filter p).map f)) := by
  obtain ⟨wi, pi, qi⟩ := hi
  obtain ⟨g, pg, qg⟩ := hg
  refine ⟨_, ⟨wi, g, uL (famLc F own fr sc cl) ifs, uE (famLc F own fr sc cl) elt, rfl, pi, pg, fun i pins s1 σ1 H1 Q I h => by
      obtain ⟨tt, h1, h2⟩ := h
      exact h1 i pins s1 σ1 H1 Q I h2, fun i => uE_ok i⟩, fun σ G H Q s r k => ?_⟩
  refine qi σ G H _ s r fun J G1 H1 s1 it acc hacc => ?_
  have k1 := k.step s1
  have rpDrop : ∀ {G' : Hp} {js' : List Nat} {ρ' : En} {σ' : St}, RpD F.K G' ρ' σ' → RpD F.K G' (dropAll js' ρ') σ' := by
    intro G' js'
    induction js' with
    | nil => intro ρ' σ' z; exact z
    | cons j js' ih =>
      intro ρ' σ' z
      refine ih (ρ' := ρ'.set j none) fun i d hd => ?_
      by_cases q : j = i
      · subst q
        rw [List.getElem?_set] at hd
        simp at hd
      · rw [List.getElem?_set_ne q] at hd
        exact z i d hd
  refine ⟨fun i m ys σ1 H2 => m = its.length - i ∧ i ≤ its.length ∧ σ1.length = own.length + fr.length ∧ H2 acc = some (.lst ys) ∧ ∃ G2 fq, Step G1 H1 G2 H2 ∧ OwL F.K G2 H2 (((List.range i).filter p).map f) ys fq ∧ Nw H1 G2 (acc :: fq) ∧ RpD F.K G2 (lcEn own fr ρ) σ1,
    ⟨_, rfl, Nat.zero_le _, by simp [lcStart], upd_same, G1, [], .newO s1.s hacc, ⟨rfl, rfl⟩, ⟨fun a ha => by rw [List.mem_singleton.mp ha]; exact hacc, fun a ha => by rw [List.mem_singleton.mp ha]; exact s1.s.free hacc, by simp⟩, (rpd_lc r).mono s1.g⟩, ?_⟩
  rintro i m ys σ1 H2 ⟨rfl, hi, hσ, ha2, G2, fq, s2, o2, w2, r2⟩
  have hlen : ys.length < sizeLine := by
    rw [← o2.length, List.length_map]
    have := List.length_filter_le p (List.range i)
    rw [List.length_range] at this
    omega
  refine ⟨ha2, hlen, ?_⟩
  obtain ⟨i1, i2⟩ := it i G2 H2 s2.g s2.s
  by_cases hlt : i < its.length
  · have hd : its[i]? = some its[i] := List.getElem?_eq_getElem hlt
    obtain ⟨j1, j2⟩ := i1 _ hd
    obtain ⟨dd, e1, el, ev⟩ := step i _ hd
    refine .inr ⟨j1, fun zs σ2 H3 => σ2.length = own.length + fr.length ∧ H3 acc = some (.lst zs) ∧ ∃ G3 fq, Step G1 H1 G3 H3 ∧ OwL F.K G3 H3 (((List.range (i + 1)).filter p).map f) zs fq ∧ Nw H1 G3 (acc :: fq) ∧ RpD F.K G3 (lcEn own fr ρ) σ2,
      fun zs σ2 H3 z => ⟨its.length - (i + 1), by omega, rfl, hlt, z⟩, fun x H3 y => ?_⟩
    obtain ⟨G3, s3, h3⟩ := j2 x H3 y
    refine qg _ dd x σ1 G3 H3 _ e1 s3.s h3 fun vs hvs => ?_
    have hjl : ∀ j ∈ js, j < σ1.length := fun j hj => by have := hjs j hj; omega
    have rr : RpD F.K G3 (setAll js (dd.map .fz) (lcEn own fr ρ)) (setAll js vs σ1) := RpD.setAll hjl hvs (r2.mono s3.g)
    have keepG : ∀ {Ga Ha Gb Hb : Hp} {fs : List Addr}, Step Ga Ha Gb Hb → (∀ a ∈ fs, Ga a = none) → (∀ a ∈ fs, ∃ o, Ha a = some o) → ∀ a ∈ fs, Gb a = none := fun {Ga Ha Gb Hb fs} st h1 h2 a ha => by
      cases q : Gb a with
      | none => rfl
      | some u =>
        obtain ⟨u', hu'⟩ := h2 a ha
        have := st.n a (h1 a ha) (by rw [q]; exact fun z => nomatch z)
        rw [hu'] at this; cases this
    have th2 : ∀ a ∈ acc :: fq, ∃ o, H2 a = some o := fun a ha => (List.mem_cons.mp ha).elim (fun z => ⟨_, z ▸ ha2⟩) (o2.there a)
    have er : (List.range (i + 1)).filter p = (List.range i).filter p ++ if p i = true then [i] else [] := by
      rw [List.range_succ, List.filter_append]
      congr 1
      simp only [List.filter_cons, List.filter_nil]
    obtain ⟨tt, pt, qt⟩ := el
    refine ⟨tt, pt, qt _ G3 H3 _ s3.s rr fun G5 H5 s5 => ?_⟩
    have s35 := s3.trans s5
    cases hp : p i with
    | false =>
      refine iteF ⟨by rw [setAll_len]; exact hσ, s35.h _ _ ha2, G5, fq, s2.trans s35, ?_, ⟨w2.n, keepG s35 w2.g th2, w2.d⟩, ?_⟩
      · rw [er, hp, if_neg (by decide), List.append_nil]
        exact o2.mono s35.g s35.h
      · have := rpDrop (js' := js) (rr.mono s5.g)
        rwa [hdrop dd] at this
    | true =>
      obtain ⟨te, pe, qe⟩ := ev hp
      refine iteT ⟨te, pe, qe _ G5 H5 _ s5.s (rr.mono s5.g) fun v G6 H6 f6 s6 o6 w6 => ?_⟩
      have s36 := s35.trans s6
      have ha6 := s36.h _ _ ha2
      have nf6 : ∀ a ∈ f6, a ∉ acc :: fq := fun a ha hb => by
        obtain ⟨u, hu⟩ := th2 a hb
        have := s35.h _ _ hu
        rw [w6.n a ha] at this; cases this
      have ndq := List.nodup_cons.mp w2.d
      have g6 := keepG s36 w2.g th2
      refine ⟨ha6, by rw [setAll_len]; exact hσ, upd_same, G6, fq ++ (f6 ++ []), ⟨(s2.trans s36).g, fun b u hb => ?_, fun b u hb => ?_, (s2.trans s36).n⟩, ?_, ⟨fun a ha => ?_, fun a ha => ?_, ?_⟩, ?_⟩
      · rw [upd_ne fun z => by subst z; rw [hacc] at hb; cases hb]
        exact (s2.trans s36).h b u hb
      · rw [upd_ne fun z => by subst z; rw [g6 _ (.head _)] at hb; cases hb]
        exact s6.s b u hb
      · rw [er, hp, if_pos rfl, List.map_append]
        refine OwL.append ((o2.mono s36.g s36.h).frame ndq.1) ⟨v, [], f6, [], rfl, rfl, o6.frame fun z => nf6 _ z (.head _), rfl, rfl⟩
      · rw [List.append_nil] at ha
        rcases List.mem_cons.mp ha with z | z
        · exact w2.n a (z ▸ .head _)
        · rcases List.mem_append.mp z with z | z
          · exact w2.n a (.tail _ z)
          · exact (s2.trans s35).h.free (w6.n a z)
      · rw [List.append_nil] at ha
        rcases List.mem_cons.mp ha with z | z
        · exact g6 a (z ▸ .head _)
        · rcases List.mem_append.mp z with z | z
          · exact g6 a (.tail _ z)
          · exact w6.g a z
      · rw [List.append_nil]
        refine List.nodup_cons.mpr ⟨fun z => ?_, List.nodup_append.mpr ⟨ndq.2, w6.d, fun a ha b hb z => ?_⟩⟩
        · rcases List.mem_append.mp z with z | z
          · exact ndq.1 z
          · exact nf6 _ z (.head _)
        · subst z; exact nf6 a hb (.tail _ ha)
      · have := rpDrop (js' := js) (rr.mono (s5.trans s6).g)
        rwa [hdrop dd] at this
  · have e : i = its.length := by omega
    subst e
    refine .inl ⟨i2 rfl, k1 (.ref acc) G2 H2 (acc :: fq) s2 ⟨acc, ys, fq, rfl, ha2, o2, rfl⟩ w2⟩
theorem ev_lc {ifs : List Expr} {sc : Scope} {own : List Str} {fr : List Nat} {cl : ι → List (Str × Addr)} (L : ∀ i, LcScope (F.cx i) sc (cl i) fr) (hi : EvI F tg iter ρ its) (hg : EvG (famLc F own fr sc cl) tg js sp) (hjs : ∀ j ∈ js, j < own.length)
    (p : Nat → Bool) (f : Nat → Tr) (hz : its.length < sizeLine)
    (step : ∀ k d, its[k]? = some d → ∃ dd, sp d = some dd ∧ El (famLc F own fr sc cl) ifs (setAll js (dd.map .fz) (lcEn own fr ρ)) (p k) ∧ (p k = true → Ev (famLc F own fr sc cl) elt (setAll js (dd.map .fz) (lcEn own fr ρ)) (f k)))
    (hdrop : ∀ dd : List Dv, dropAll js (setAll js (dd.map .fz) (lcEn own fr ρ)) = lcEn own fr ρ)
    (hs : ∀ i x, foldedSetIterable iter (F.cx i).env x = pure x := by intro _ _; rfl) :
    Ev F (.ListComp elt [⟨tg, iter, ifs, 0⟩] sc pos) ρ (.ow (((List.range its.length).filter p).map f)) := by
  obtain ⟨τ, ⟨wi, g, tt, te, rfl, h1, h2, h3, h4⟩, h5⟩ := elc (ifs := ifs) hi hg hjs p f hz step hdrop
  exact ⟨_, fun i => pe_lc (cl := cl i) (L i) (F.calm i) (h1 i) (fun C s H ex pn => h2 (i, ⟨C, s, H, ex, pn⟩)) (fun C s H ex pn => h3 (i, ⟨C, s, H, ex, pn⟩)) (fun C s H ex pn => h4 (i, ⟨C, s, H, ex, pn⟩)) (hs i), h5⟩
end
structure IxD (k : Nat) (qual : Str) (sc : Scope) (f : Addr) where
  cdv : Value
  A : Around
  outer : List Env
  s : Shared
  H : Hp
  E : XK
  hr : Room k (A.deeper (envOfC qual sc s.heap.objs.size f cdv))
def famD (P : Program) (w : World) (K : PySem.W.Frag) (mg : Str → Option Value) (base : Heap) (N : List Str) (qual : Str) (sc : Scope) (f : Addr) (k : Nat) : Fam (IxD k qual sc f) where
  cx i := (cxOf CX0 P w K mg base N qual sc f i.cdv i.A i.outer i.s i.H i.E).nox
  P := P
  w := w
  K := K
  mg := mg
  base := base
  room := k
  hP _ := rfl
  hw _ := rfl
  hK _ := rfl
  hm _ := rfl
  hb _ := rfl
  hr i := i.hr
  calm _ := rfl
def enD (N : List Str) (dd : List Dv) : En := dd.map (fun d => some (.fz d)) ++ List.replicate (N.length - dd.length) none
theorem ows_none {K : PySem.W.Frag} {G H : Hp} : ∀ n : Nat, OwS K G H (List.replicate n none) (List.replicate n none) []
  | 0 => ⟨rfl, rfl⟩
  | n + 1 => ⟨none, List.replicate n none, rfl, ows_none n⟩
theorem ows_start {K : PySem.W.Frag} {G H : Hp} {n : Nat} : ∀ {dd : List Dv} {vs : List V}, HvL K G dd vs → OwS K G H (dd.map (fun d => some (.fz d)) ++ List.replicate n none) (vs.map some ++ List.replicate n none) []
  | [], _, h => by rw [show _ = [] from h]; exact ows_none n
  | _ :: _, _, ⟨x, r, h1, h2, h3⟩ => by subst h1; exact ⟨x, _, [], [], rfl, rfl, ⟨rfl, h2⟩, ows_start h3⟩
theorem fn_ok {P : Program} {w : World} {K : PySem.W.Frag} {mg : Str → Option Value} {base : Heap} {x qual : Str} {st : Stmt} {dV : Value} {f : Addr} {fd : FuncData} {N ps : List Str} {k : Nat} {R : List Dv → Tr → Prop} (Fd : FunD K x qual st dV f fd) (S : FnScope N ps (defScope st))
    (hl : ∀ dd t, R dd t → dd.length = ps.length)
    (hb : ∀ dd t, R dd t → ∃ o, (o = .rt t ∨ (t = tn ∧ ∃ ρ', o = .nx ρ')) ∧ Rns (famD P w K mg base N qual (defScope st) f k) (defBody st) (enD N dd) o) : FnOk P w K mg base CX0 (k + 1) f fd ps (spT K R) := by
  refine Fd.ok S (fun vs H Q E ⟨G, dd, t, s, h1, h2, h3⟩ => by rw [← h1.length]; exact hl dd t h2) fun cdv A outer s H vs Q E hr h => ?_
  obtain ⟨G, dd, t, s', h1, h2, h3⟩ := h
  obtain ⟨o, ho, τ, x, y⟩ := hb dd t h2
  refine ⟨τ, x ⟨cdv, A, outer, s, H, E, hr⟩, y _ (start N vs) G H G H ⟨[], .refl s', ?_, fun _ z => (nomatch z), fun _ z => (nomatch z), .nil⟩ ?_⟩
  · unfold start enD
    rw [← h1.length]
    exact ows_start h1
  · rcases ho with rfl | ⟨rfl, ρ', rfl⟩
    · exact fun v G1 H1 fq s1 o1 w1 => h3 v G1 H1 fq s1 o1 w1
    · exact fun σ G1 H1 ⟨fp, r⟩ => h3 .non G1 H1 [] r.st ⟨rfl, rfl, rfl⟩ .nil
end L2
namespace L2
open PySem PySem.Spec PyProof.Rows
def Itz (K : PySem.W.Frag) (l1 l2 : Addr) (xs ys : List V) : It :=
  ⟨fun i H => SqL K H l1 xs ∧ SqL K H l2 ys ∧ i < min xs.length ys.length, fun i H x H' => ∃ T vx vy, H T = none ∧ xs[i]? = some vx ∧ ys[i]? = some vy ∧ x = .ref T ∧ H' = upd H T (.tup [vx, vy]), fun i H => SqL K H l1 xs ∧ SqL K H l2 ys ∧ i = min xs.length ys.length⟩
def Ite (K : PySem.W.Frag) (l : Addr) (xs : List V) : It :=
  ⟨fun i H => SqL K H l xs ∧ i < xs.length, fun i H x H' => ∃ T v, H T = none ∧ xs[i]? = some v ∧ x = .ref T ∧ H' = upd H T (.tup [.int (i : Nat), v]), fun i H => SqL K H l xs ∧ i = xs.length⟩
section
variable {X : Cx} {pins : List (Addr × Obj)} {σ : St} {H : Hp} {s : Shared}
theorem Inv.turnedL {t' : Nat} {fs : List Addr} {h' : Heap} (I : Inv X pins σ H s) (k : ∀ b o, b ∉ fs → s.heap.get? b = some o → h'.get? b = some o) (hf : ∀ b ∈ fs, FpOk X pins H b) : Inv X pins σ H { s with heap := h', toks := t' } := by
  have nit : ∀ b u, H b = some u → b ∉ fs := fun b u e z => by rw [(hf b z).1] at e; cases e
  refine I.step (g' := s.gens) (d' := s.drawn) (ch := fs) (fun b hb => ?_) (fun b o _ _ hc e _ => k b o hc e) (fun b o _ _ hc e _ => ⟨o.slots, k b o hc e⟩) (fun _ _ _ _ n => n)
    (fun b o hc e => ⟨o, k b o hc e⟩) (fun _ _ e => e) (fun _ _ _ e => e) (fun b ps e => ⟨#[], by rw [e]; simp⟩) (fun m hm => ?_) (fun b u e => ?_) I.bare
  · obtain ⟨f0, f1, f2, f3, f4, f5⟩ := hf b hb
    exact ⟨f3, f1, f4, f5⟩
  · obtain ⟨o, es, ep, ho, r⟩ := hm
    exact ⟨o, es, ep, k _ o (fun z => (hf _ z).2.1 rfl) ho, r⟩
  · refine (I.hok b u e).stay (fun c v hc q => k c v ?_ q) (fun _ q => q) fun _ _ q => q
    rcases hc with z | z
    · rw [z]; exact nit b u e
    · exact nit c _ z
theorem Inv.turnedT {t' : Nat} {fs : List Addr} {h' : Heap} {T : Addr} {vs : List V} (I : Inv X pins σ H s) (k : ∀ b o, b ∉ fs → s.heap.get? b = some o → h'.get? b = some o) (hf : ∀ b ∈ fs, FpOk X pins H b) (hT : s.heap.objs.size ≤ T)
    (new : ObjOk X.prog X.w (upd H T (.tup vs)) h' T (.tup vs)) : Inv X pins σ (upd H T (.tup vs)) { s with heap := h', toks := t' } := by
  have hn : H T = none := I.hok.fresh hT
  have nit : ∀ b u, H b = some u → b ∉ fs := fun b u e z => by rw [(hf b z).1] at e; cases e
  have ne : ∀ b o, s.heap.get? b = some o → b ≠ T := fun b o e z => by subst z; exact absurd (Nat.lt_of_lt_of_le (Heap.lt_size e) hT) (Nat.lt_irrefl _)
  refine I.step (g' := s.gens) (d' := s.drawn) (ch := fs) (fun b hb => ?_) (fun b o _ _ hc e _ => k b o hc e) (fun b o _ _ hc e _ => ⟨o.slots, k b o hc e⟩) (fun b o _ e n => by rw [upd_ne (ne b o e)]; exact n)
    (fun b o hc e => ⟨o, k b o hc e⟩) (fun _ _ e => by rw [upd_ne (ne_of_none e hn)]; exact e) (fun _ _ _ e => by rw [upd_ne (ne_of_none e hn)]; exact e) (fun b ps e => ⟨#[], by rw [upd_ne (ne_of_none e hn), e]; simp⟩) (fun m hm => ?_) (fun b u e => ?_) I.bare
  · obtain ⟨f0, f1, f2, f3, f4, f5⟩ := hf b hb
    exact ⟨f3, f1, f4, f5⟩
  · obtain ⟨o, es, ep, ho, r⟩ := hm
    exact ⟨o, es, ep, k _ o (fun z => (hf _ z).2.1 rfl) ho, r⟩
  · by_cases hb : b = T
    · subst hb; rw [upd_same] at e; cases e; exact new
    · rw [upd_ne hb] at e
      refine (I.hok b u e).stay (fun c v hc q => k c v ?_ q) (fun c q => by rw [upd_ne (ne_of_none q hn)]; exact q) fun c xs q => by rw [upd_ne (ne_of_none q hn)]; exact q
      rcases hc with z | z
      · rw [z]; exact nit b u e
      · exact nit c _ z
end
theorem turn_zip {P : Program} {w : World} {K : PySem.W.Frag} {elts : List Expr} {kk : Nat} {pos : Pos} {z TI TO i1 i2 l1 l2 : Addr} {xs ys : List V} (D : ZipApart z TI TO i1 i2 l1 l2) :
    Turn P w K (.Tuple elts kk pos) (Itz K l1 l2 xs ys) [z, TI, TO, i1, i2] z (fun i h => IsZip h z TI TO .none ∧ IsPair h TI (.ref i1) (.ref i2) ∧ (∃ a b, IsPair h TO a b) ∧ h.IsListIter i1 l1 i ∧ h.IsListIter i2 l2 i) where
  mem := by simp
  obj := by
    rintro i h ⟨h1, h2, ⟨a, c, h3⟩, ⟨o1, h4, _, h5⟩, ⟨o2, h6, _, h7⟩⟩ b hb
    simp only [List.mem_cons, List.not_mem_nil, or_false] at hb
    rcases hb with rfl | rfl | rfl | rfl | rfl
    · exact ⟨_, h1, fun v z => by cases z⟩
    · exact ⟨_, h2, fun v z => by cases z⟩
    · exact ⟨_, h3, fun v z => by cases z⟩
    · exact ⟨_, h4, fun v z => by rw [h5] at z; cases z⟩
    · exact ⟨_, h6, fun v z => by rw [h7] at z; cases z⟩
  keep := by
    rintro i h h' ⟨h1, h2, ⟨a, c, h3⟩, h4, h5⟩ k
    exact ⟨k _ (by simp) _ h1, k _ (by simp) _ h2, ⟨a, c, k _ (by simp) _ h3⟩, h4.at fun o e => k _ (by simp) o e, h5.at fun o e => k _ (by simp) o e⟩
  item := by
    intro X hP hw hK hc i pins s σ H E I hf st hg
    subst hP hw hK
    obtain ⟨hq1, hq2, hlt⟩ := hg
    obtain ⟨its1, rv1, p1, hz1⟩ := I.list hq1
    obtain ⟨its2, rv2, p2, hz2⟩ := I.list hq2
    have e1 := rv1.length
    have e2 := rv2.length
    have W := WalksT.zip2 (prog := X.prog) (w := X.w) (A := X.A) (I.ok.hd hc) z TI TO i1 i2 l1 l2 D its1.toArray its2.toArray
    refine W.item i s _ _ (by simp; omega) ⟨st.1, st.2.1, st.2.2.1, st.2.2.2.1, st.2.2.2.2, p1.isList, p2.isList⟩ fun T vals h' tk hPt hTn hTup hMid hk => ⟨.ref T, rfl, W.go elts kk pos i T _ _ _ hMid fun h'' st'' hk'' => ?_⟩
    obtain ⟨x, y, hx, hy, rfl⟩ := hPt
    have hx1 : xs[i]? = some (xs[i]'(by omega)) := List.getElem?_eq_getElem _
    have hy1 : ys[i]? = some (ys[i]'(by omega)) := List.getElem?_eq_getElem _
    obtain ⟨u, hu, ru⟩ := rv1.get hx1
    obtain ⟨u', hu', ru'⟩ := rv2.get hy1
    have ex : x = u := by
      have : its1[i]? = some x := by simpa using hx
      rw [hu] at this; exact (Option.some.inj this).symm
    have ey : y = u' := by
      have : its2[i]? = some y := by simpa using hy
      rw [hu'] at this; exact (Option.some.inj this).symm
    subst ex ey
    have sub : ∀ b ∈ [z, TO, i1, i2], b ∈ [z, TI, TO, i1, i2] := fun b hb => by
      simp only [List.mem_cons, List.not_mem_nil, or_false] at hb ⊢
      rcases hb with rfl | rfl | rfl | rfl <;> simp
    have hT2 : IsTup h'' T [x, y].toArray := hTup.at fun o e => hk'' T o (W.apart i T _ hMid) e
    refine ⟨.ref T, upd H T (.tup [xs[i]'(by omega), ys[i]'(by omega)]), I.turnedT (fs := [z, TO, i1, i2]) (fun b o hb e => hk'' b o hb (hk b o hb e)) (fun b hb => hf b (sub b hb)) hTn ⟨by show 2 ≤ sizeLine; decide, [x, y], .cons ru (.cons ru' .nil), hT2⟩, rfl,
      ⟨T, _, _, I.hok.fresh hTn, hx1, hy1, rfl, rfl⟩, ⟨st''.1, st''.2.1, st''.2.2.1, st''.2.2.2.1, st''.2.2.2.2.1⟩, fun b hb => ?_⟩
    obtain ⟨o, eo, _⟩ : ∃ o, s.heap.get? b = some o ∧ True := by
      obtain ⟨g1, g2, ⟨a, c, g3⟩, ⟨o1, g4, _⟩, ⟨o2, g6, _⟩⟩ := st
      simp only [List.mem_cons, List.not_mem_nil, or_false] at hb
      rcases hb with rfl | rfl | rfl | rfl | rfl
      · exact ⟨_, g1, trivial⟩
      · exact ⟨_, g2, trivial⟩
      · exact ⟨_, g3, trivial⟩
      · exact ⟨_, g4, trivial⟩
      · exact ⟨_, g6, trivial⟩
    rw [upd_ne (Nat.ne_of_lt (Nat.lt_of_lt_of_le (Heap.lt_size eo) hTn))]
    exact (hf b hb).1
  done := by
    intro X hP hw hK hc i pins s σ H E I hf st hg
    subst hP hw hK
    obtain ⟨hq1, hq2, rfl⟩ := hg
    obtain ⟨its1, rv1, p1, hz1⟩ := I.list hq1
    obtain ⟨its2, rv2, p2, hz2⟩ := I.list hq2
    have e1 := rv1.length
    have e2 := rv2.length
    have W := WalksT.zip2 (prog := X.prog) (w := X.w) (A := X.A) (I.ok.hd hc) z TI TO i1 i2 l1 l2 D its1.toArray its2.toArray
    have en : min its1.toArray.size its2.toArray.size = min xs.length ys.length := by simp only [List.size_toArray]; omega
    refine W.done s _ _ (by rw [en]; exact ⟨st.1, st.2.1, st.2.2.1, st.2.2.2.1, st.2.2.2.2, p1.isList, p2.isList⟩) fun h' tk hk => ⟨rfl, I.turnedL (fs := [z, TO, i1, i2]) hk fun b hb => hf b ?_⟩
    simp only [List.mem_cons, List.not_mem_nil, or_false] at hb ⊢
    rcases hb with rfl | rfl | rfl | rfl <;> simp
  self := fun A i s Q E st h => wpAny_pyIter_zip st.1 h
theorem turn_enum {P : Program} {w : World} {K : PySem.W.Frag} {elts : List Expr} {kk : Nat} {pos : Pos} {e it l : Addr} {xs : List V} (hei : e ≠ it) (hle : l ≠ e) (hli : l ≠ it) :
    Turn P w K (.Tuple elts kk pos) (Ite K l xs) [e, it] e (fun i h => (∃ old, IsEnum h e it i old) ∧ h.IsListIter it l i) where
  mem := by simp
  obj := by
    rintro i h ⟨⟨old, h1⟩, ⟨o1, h4, _, h5⟩⟩ b hb
    simp only [List.mem_cons, List.not_mem_nil, or_false] at hb
    rcases hb with rfl | rfl
    · exact ⟨_, h1, fun v z => by cases z⟩
    · exact ⟨_, h4, fun v z => by rw [h5] at z; cases z⟩
  keep := by
    rintro i h h' ⟨⟨old, h1⟩, h4⟩ k
    exact ⟨⟨old, k _ (by simp) _ h1⟩, h4.at fun o e => k _ (by simp) o e⟩
  item := by
    intro X hP hw hK hc i pins s σ H E I hf st hg
    subst hP hw hK
    obtain ⟨hq1, hlt⟩ := hg
    obtain ⟨its1, rv1, p1, hz1⟩ := I.list hq1
    have e1 := rv1.length
    have W := WalksT.enumerate (prog := X.prog) (w := X.w) (A := X.A) (I.ok.hd hc) e it l hei hle hli its1.toArray
    refine W.item i s _ _ (by simp; omega) ⟨st.1, st.2, p1.isList⟩ fun T vals h' tk hPt hTn hTup hMid hk => ⟨.ref T, rfl, W.go elts kk pos i T _ _ _ hMid fun h'' st'' hk'' => ?_⟩
    obtain ⟨t, x, hx, rfl⟩ := hPt
    have hx1 : xs[i]? = some (xs[i]'(by omega)) := List.getElem?_eq_getElem _
    obtain ⟨u, hu, ru⟩ := rv1.get hx1
    have ex : x = u := by
      have : its1[i]? = some x := by simpa using hx
      rw [hu] at this; exact (Option.some.inj this).symm
    subst ex
    have hT2 : IsTup h'' T [Value.int (i : Nat) t, x].toArray := hTup.at fun o e => hk'' T o (W.apart i T _ hMid) e
    refine ⟨.ref T, upd H T (.tup [.int (i : Nat), xs[i]'(by omega)]), I.turnedT (fs := [e, it]) (fun b o hb e => hk'' b o hb (hk b o hb e)) hf hTn ⟨by show 2 ≤ sizeLine; decide, [.int (i : Nat) t, x], .cons ⟨t, rfl⟩ (.cons ru .nil), hT2⟩, rfl,
      ⟨T, _, I.hok.fresh hTn, hx1, rfl, rfl⟩, ⟨st''.1, st''.2.1⟩, fun b hb => ?_⟩
    obtain ⟨o, eo, _⟩ : ∃ o, s.heap.get? b = some o ∧ True := by
      obtain ⟨⟨old, g1⟩, ⟨o1, g4, _⟩⟩ := st
      simp only [List.mem_cons, List.not_mem_nil, or_false] at hb
      rcases hb with rfl | rfl
      · exact ⟨_, g1, trivial⟩
      · exact ⟨_, g4, trivial⟩
    rw [upd_ne (Nat.ne_of_lt (Nat.lt_of_lt_of_le (Heap.lt_size eo) hTn))]
    exact (hf b hb).1
  done := by
    intro X hP hw hK hc i pins s σ H E I hf st hg
    subst hP hw hK
    obtain ⟨hq1, rfl⟩ := hg
    obtain ⟨its1, rv1, p1, hz1⟩ := I.list hq1
    have e1 := rv1.length
    have W := WalksT.enumerate (prog := X.prog) (w := X.w) (A := X.A) (I.ok.hd hc) e it l hei hle hli its1.toArray
    have en : its1.toArray.size = xs.length := by simp only [List.size_toArray]; omega
    exact W.done s _ _ (by rw [en]; exact ⟨st.1, st.2, p1.isList⟩) fun h' tk hk => ⟨rfl, I.turnedL (fs := [e, it]) hk hf⟩
  self := fun A i s Q E st h => by
    obtain ⟨⟨old, h1⟩, _⟩ := st
    exact wpAny_pyIter_enum h1 h
def iZip (K : PySem.W.Frag) (ta : TA) : TI := fun σ H R => ta σ H fun vs H1 => ∃ l1 l2 xs ys, vs = [.ref l1, .ref l2] ∧ SqL K H1 l1 xs ∧ SqL K H1 l2 ys ∧ R (Itz K l1 l2 xs ys) H1
def iEnu (K : PySem.W.Frag) (ta : TA) : TI := fun σ H R => ta σ H fun vs H1 => ∃ l xs, vs = [.ref l] ∧ SqL K H1 l xs ∧ R (Ite K l xs) H1
section
variable {X : Cx} {elts : List Expr} {kk : Nat} {tp : Pos}
theorem pi_zip {a b : Expr} {ta : TA} {p pos : Pos} (hg : Gl X "zip") (hm : X.mg "zip" = none) (ha : PA X [a, b] ta) (hs : starEach [a, b] X.env = [(false, eval a X.env), (false, eval b X.env)] := by rfl) (hs2 : starEach [b] X.env = [(false, eval b X.env)] := by rfl) :
    PI X (.Tuple elts kk tp) (.Call (.Name "zip" p) [a, b] [] pos) (iZip X.K ta) := by
  intro pins s σ H R I h
  refine Call_ (ld_blt I hg hm bt_zip (PyProof.Rows.callWith_type1 (thn (ha pos pins s σ H _ I h) fun us s1 ⟨vs, H1, I1, r1, q1⟩ => ?_) (by rw [hs, hs2]) (by rw [hs2]; rfl)))
  obtain ⟨l1, l2, xs, ys, rfl, hq1, hq2, q⟩ := q1
  obtain ⟨u1, u2, rfl, c1, c2⟩ := r1.two
  cases c1
  cases c2
  obtain ⟨its1, rv1, p1, hz1⟩ := I1.list hq1
  obtain ⟨its2, rv2, p2, hz2⟩ := I1.list hq2
  have lt1 : l1 < s1.heap.objs.size := by obtain ⟨o, n, e, _⟩ := p1; exact Heap.lt_size e
  have lt2 : l2 < s1.heap.objs.size := by obtain ⟨o, n, e, _⟩ := p2; exact Heap.lt_size e
  refine call_zip_2 p1.isList p2.isList fun h' hz hTI hTO hi1 hi2 hsz hk => wpAny_pyIter_zip hz ?_
  have I2 : Inv X pins σ H1 { s1 with heap := h' } := I1.kept (t' := s1.toks) hk
  refine ⟨s1.heap.objs.size + 4, [s1.heap.objs.size + 4, s1.heap.objs.size + 2, s1.heap.objs.size + 3, s1.heap.objs.size, s1.heap.objs.size + 1], _, _, H1, rfl, I2, turn_zip (PySem.W.ktu_apart _ _ _ lt1 lt2), ⟨hz, hTI, ⟨_, _, hTO⟩, hi1, hi2⟩, fun b hb => ?_, q⟩
  have hb' : s1.heap.objs.size ≤ b := by
    simp only [List.mem_cons, List.not_mem_nil, or_false] at hb
    rcases hb with rfl | rfl | rfl | rfl | rfl <;> omega
  obtain ⟨f0, f1, f2, f3, f4, f5⟩ := I1.fpOk (H' := H1) hb' (I1.hok.fresh hb')
  exact ⟨f0, f1, f2, f3, f4, f5⟩
theorem pi_enum {a : Expr} {ta : TA} {p pos : Pos} (hg : Gl X "enumerate") (hm : X.mg "enumerate" = none) (ha : PA X [a] ta) (hs : starEach [a] X.env = [(false, eval a X.env)] := by rfl) :
    PI X (.Tuple elts kk tp) (.Call (.Name "enumerate" p) [a] [] pos) (iEnu X.K ta) := by
  intro pins s σ H R I h
  refine Call_ (ld_blt I hg hm bt_enumerate (PyProof.Rows.callWith_type1 (thn (ha pos pins s σ H _ I h) fun us s1 ⟨vs, H1, I1, r1, q1⟩ => ?_) hs rfl))
  obtain ⟨l, xs, rfl, hq1, q⟩ := q1
  obtain ⟨u1, rfl, c1⟩ := r1.one
  cases c1
  obtain ⟨its1, rv1, p1, hz1⟩ := I1.list hq1
  have lt1 : l < s1.heap.objs.size := by obtain ⟨o, n, e, _⟩ := p1; exact Heap.lt_size e
  refine call_enumerate_list p1.isList fun h' hE hI hsz hk => wpAny_pyIter_enum hE ?_
  have I2 : Inv X pins σ H1 { s1 with heap := h' } := I1.kept (t' := s1.toks) hk
  refine ⟨s1.heap.objs.size + 1, [s1.heap.objs.size + 1, s1.heap.objs.size], _, _, H1, rfl, I2, turn_enum (Nat.succ_ne_self _) (PySem.W.ktu_ne 1 lt1) (Nat.ne_of_lt lt1), ⟨⟨_, hE⟩, hI⟩, fun b hb => ?_, q⟩
  have hb' : s1.heap.objs.size ≤ b := by
    simp only [List.mem_cons, List.not_mem_nil, or_false] at hb
    rcases hb with rfl | rfl <;> omega
  obtain ⟨f0, f1, f2, f3, f4, f5⟩ := I1.fpOk (H' := H1) hb' (I1.hok.fresh hb')
  exact ⟨f0, f1, f2, f3, f4, f5⟩
end
section
variable {ι : Type} {F : Fam ι} {a b tg : Expr} {ρ : En} {ta tb' : Tr} {elts : List Expr} {kk : Nat} {tp pos : Pos}
def zipD (xs ys : List Dv) : List Dv := List.zipWith (fun x y => .tup [x, y]) xs ys
def enuD (xs : List Dv) : List Dv := (List.range xs.length).zipWith (fun k x => .tup [di (k : Nat), x]) xs
theorem evi_zip {xs ys : List Dv} (hm : F.mg "zip" = none) (ha : Ev F a ρ ta) (hb : Ev F b ρ tb') (ea : er ta = .lst xs) (eb : er tb' = .lst ys) {p : Pos} (hg : ∀ i, Gl (F.cx i) "zip" := by intro _; rfl)
    (hs : ∀ i, starEach [a, b] (F.cx i).env = [(false, eval a (F.cx i).env), (false, eval b (F.cx i).env)] := by intro _; rfl) (hs2 : ∀ i, starEach [b] (F.cx i).env = [(false, eval b (F.cx i).env)] := by intro _; rfl) :
    EvI F (.Tuple elts kk tp) (.Call (.Name "zip" p) [a, b] [] pos) ρ (zipD xs ys) := by
  obtain ⟨τ, p, q⟩ := (eva_cons ha (eva_cons hb eva_nil hs2) (fun i => by rw [hs i, hs2 i])).use
  refine ⟨iZip F.K τ, fun i => F.hK i ▸ pi_zip (hg i) ((F.hm i).symm ▸ hm) (p i) (hs i) (hs2 i), fun σ G H R s r k => q σ G H _ s r fun vs G1 H1 s1 hx => ?_⟩
  obtain ⟨x, y, rfl, h1, h2⟩ := hvl2 hx
  rw [ea] at h1
  rw [eb] at h2
  obtain ⟨l1, us, rfl, g1, g2⟩ := h1
  obtain ⟨l2, ws, rfl, g3, g4⟩ := h2
  have e1 := g2.length
  have e2 := g4.length
  refine ⟨l1, l2, us, ws, rfl, s1.s.seq g1, s1.s.seq g3, k _ G1 H1 s1 fun j G2 H2 sg sh => ⟨fun d hd => ?_, fun hz => ?_⟩⟩
  · unfold zipD at hd
    rw [List.getElem?_zipWith] at hd
    cases qx : xs[j]? with
    | none => rw [qx] at hd; cases hd
    | some dx =>
      cases qy : ys[j]? with
      | none => rw [qx, qy] at hd; cases hd
      | some dy =>
        rw [qx, qy] at hd
        cases hd
        obtain ⟨vx, x1, x2⟩ := g2.get qx
        obtain ⟨vy, y1, y2⟩ := g4.get qy
        have lx : j < us.length := (List.getElem?_eq_some_iff.mp x1).1
        have ly : j < ws.length := (List.getElem?_eq_some_iff.mp y1).1
        refine ⟨⟨(sg.trans sh).seq g1, (sg.trans sh).seq g3, by omega⟩, ?_⟩
        rintro x H3 ⟨T, wx, wy, hT, z1, z2, rfl, rfl⟩
        rw [x1] at z1
        rw [y1] at z2
        cases z1
        cases z2
        refine ⟨_, .new sh hT, T, _, rfl, SqT.of upd_same, _, _, rfl, (x2.mono sg).mono (Same.new (sh.free hT)), _, _, rfl, (y2.mono sg).mono (Same.new (sh.free hT)), rfl⟩
  · refine ⟨(sg.trans sh).seq g1, (sg.trans sh).seq g3, ?_⟩
    rw [hz]
    unfold zipD
    rw [List.length_zipWith, e1, e2]
theorem evi_enum {xs : List Dv} (hm : F.mg "enumerate" = none) (ha : Ev F a ρ ta) (ea : er ta = .lst xs) {p : Pos} (hg : ∀ i, Gl (F.cx i) "enumerate" := by intro _; rfl)
    (hs : ∀ i, starEach [a] (F.cx i).env = [(false, eval a (F.cx i).env)] := by intro _; rfl) : EvI F (.Tuple elts kk tp) (.Call (.Name "enumerate" p) [a] [] pos) ρ (enuD xs) := by
  obtain ⟨τ, p, q⟩ := (eva_cons ha eva_nil hs).use
  refine ⟨iEnu F.K τ, fun i => F.hK i ▸ pi_enum (hg i) ((F.hm i).symm ▸ hm) (p i) (hs i), fun σ G H R s r k => q σ G H _ s r fun vs G1 H1 s1 hx => ?_⟩
  obtain ⟨x, rfl, h1⟩ := hvl1 hx
  rw [ea] at h1
  obtain ⟨l1, us, rfl, g1, g2⟩ := h1
  have e1 := g2.length
  refine ⟨l1, us, rfl, s1.s.seq g1, k _ G1 H1 s1 fun j G2 H2 sg sh => ⟨fun d hd => ?_, fun hz => ?_⟩⟩
  · unfold enuD at hd
    rw [List.getElem?_zipWith] at hd
    cases qx : xs[j]? with
    | none =>
      rw [qx] at hd
      cases q2 : (List.range xs.length)[j]? with
      | none => rw [q2] at hd; cases hd
      | some z => rw [q2] at hd; cases hd
    | some dx =>
      have lj : j < xs.length := (List.getElem?_eq_some_iff.mp qx).1
      rw [qx, List.getElem?_range lj] at hd
      cases hd
      obtain ⟨vx, x1, x2⟩ := g2.get qx
      refine ⟨⟨(sg.trans sh).seq g1, by omega⟩, ?_⟩
      rintro x H3 ⟨T, wx, hT, z1, rfl, rfl⟩
      rw [x1] at z1
      cases z1
      exact ⟨_, .new sh hT, T, _, rfl, SqT.of upd_same, _, _, rfl, ⟨rfl, rfl⟩, _, _, rfl, (x2.mono sg).mono (Same.new (sh.free hT)), rfl⟩
  · refine ⟨(sg.trans sh).seq g1, ?_⟩
    rw [hz]
    unfold enuD
    rw [List.length_zipWith, List.length_range, Nat.min_self, e1]
theorem tupOf_some {n : Nat} {ds dd : List Dv} (e : tupOf n (.tup ds) = some dd) : ds.length = n ∧ dd = ds := by
  have e' : (if ds.length = n then some ds else none) = some dd := e
  by_cases h : ds.length = n
  · rw [if_pos h] at e'; cases e'; exact ⟨h, rfl⟩
  · rw [if_neg h] at e'; cases e'
theorem evg_t2 (j1 j2 : Nat) {x y : Str} {px py : Pos} (hN : ∀ i, (F.cx i).N.Nodup) (h1 : ∀ i, (F.cx i).N[j1]? = some x := by intro _; rfl) (h2 : ∀ i, (F.cx i).N[j2]? = some y := by intro _; rfl)
    (hx : ∀ i, Loc (F.cx i).env.scope x := by intro _; first | exact Or.inl rfl | exact Or.inr rfl) (hy : ∀ i, Loc (F.cx i).env.scope y := by intro _; first | exact Or.inl rfl | exact Or.inr rfl)
    (fx : ∀ i, (F.cx i).fn x = true ∨ (F.cx i).env.scope.names.lookup x = some .local := by intro _; first | exact .inl rfl | exact .inr rfl) (fy : ∀ i, (F.cx i).fn y = true ∨ (F.cx i).env.scope.names.lookup y = some .local := by intro _; first | exact .inl rfl | exact .inr rfl) :
    EvG F (.Tuple [.Name x px, .Name y py] kk tp) [j1, j2] (tupOf 2) :=
  ⟨gTup F.K 2 (gCons (gName j1) (gCons (gName j2) gNil)), fun i => F.hK i ▸ pg_tup (F.calm i) (pgs_cons (pg_name (hN i) (h1 i) (hx i) (fx i)) (pgs_cons (pg_name (hN i) (h2 i) (hy i) (fy i)) pgs_nil)), fun d dd v σ G H Q e s h k => by
    cases d with
    | fl _ => cases e
    | lst _ => cases e
    | tup ds =>
      obtain ⟨hl, rfl⟩ := tupOf_some e
      obtain ⟨a, vs, rfl, q1, q2⟩ := h
      have hv : vs.length = 2 := by rw [← q2.length]; exact hl
      refine ⟨a, vs, rfl, s.tup q1, hv, ?_⟩
      match vs, hv with
      | [v1, v2], _ => exact ⟨v1, [v2], rfl, v2, [], rfl, rfl, k [v1, v2] q2⟩⟩
theorem evg_t3 (j1 j2 j3 : Nat) {x y z : Str} {px py pz : Pos} (hN : ∀ i, (F.cx i).N.Nodup) (h1 : ∀ i, (F.cx i).N[j1]? = some x := by intro _; rfl) (h2 : ∀ i, (F.cx i).N[j2]? = some y := by intro _; rfl) (h3 : ∀ i, (F.cx i).N[j3]? = some z := by intro _; rfl)
    (hx : ∀ i, Loc (F.cx i).env.scope x := by intro _; first | exact Or.inl rfl | exact Or.inr rfl) (hy : ∀ i, Loc (F.cx i).env.scope y := by intro _; first | exact Or.inl rfl | exact Or.inr rfl) (hz : ∀ i, Loc (F.cx i).env.scope z := by intro _; first | exact Or.inl rfl | exact Or.inr rfl)
    (fx : ∀ i, (F.cx i).fn x = true ∨ (F.cx i).env.scope.names.lookup x = some .local := by intro _; first | exact .inl rfl | exact .inr rfl) (fy : ∀ i, (F.cx i).fn y = true ∨ (F.cx i).env.scope.names.lookup y = some .local := by intro _; first | exact .inl rfl | exact .inr rfl)
    (fz : ∀ i, (F.cx i).fn z = true ∨ (F.cx i).env.scope.names.lookup z = some .local := by intro _; first | exact .inl rfl | exact .inr rfl) :
    EvG F (.Tuple [.Name x px, .Name y py, .Name z pz] kk tp) [j1, j2, j3] (tupOf 3) :=
  ⟨gTup F.K 3 (gCons (gName j1) (gCons (gName j2) (gCons (gName j3) gNil))), fun i => F.hK i ▸ pg_tup (F.calm i) (pgs_cons (pg_name (hN i) (h1 i) (hx i) (fx i)) (pgs_cons (pg_name (hN i) (h2 i) (hy i) (fy i)) (pgs_cons (pg_name (hN i) (h3 i) (hz i) (fz i)) pgs_nil))), fun d dd v σ G H Q e s h k => by
    cases d with
    | fl _ => cases e
    | lst _ => cases e
    | tup ds =>
      obtain ⟨hl, rfl⟩ := tupOf_some e
      obtain ⟨a, vs, rfl, q1, q2⟩ := h
      have hv : vs.length = 3 := by rw [← q2.length]; exact hl
      refine ⟨a, vs, rfl, s.tup q1, hv, ?_⟩
      match vs, hv with
      | [v1, v2, v3], _ => exact ⟨v1, [v2, v3], rfl, v2, [v3], rfl, v3, [], rfl, rfl, k [v1, v2, v3] q2⟩⟩
theorem rn_set2 {e : Expr} {t : Tr} {js : List Nat} {sp : Dv → Option (List Dv)} {dd : List Dv} (he : EvS F e ρ t) (hg : EvG F tg js sp) (hd : sp (er t) = some dd) (hj : js.all (fun j => Nat.blt j ρ.length) = true := by rfl)
    (hs : ∀ i, swapsWithSole [tg] e pos.line (F.cx i).env = pure false := by intro _; rfl) (hw : ∀ i, swappedStores [tg] e (F.cx i).env = pure none := by intro _; rfl)
    (h1 : ∀ i, (assignEach [tg] (F.cx i).env).map (·.2) = [assign tg (F.cx i).env] := by intro _; rfl) : Rn F (.Assign [tg] e pos) ρ (.nx (setAll js (dd.map .fz) ρ)) := by
  obtain ⟨τ, y, z⟩ := he
  obtain ⟨g, pg, qg⟩ := hg
  refine ⟨tAsg τ g, fun i => ps_asg (y i) (pg i) (hs i) (hw i) (h1 i), fun D σ G0 H0 G H r k => ?_⟩
  obtain ⟨fp, r⟩ := r
  refine z σ G H fp _ r.st.s r.own r.g fun v G1 H1 fq s1 o w => ?_
  refine qg (er t) dd v σ (frzd G1 H1 fq) H1 _ hd (frzd_sub s1.s) (o.hv (frzd_same w.g) fun a ha => frzd_in ha) fun vs hvs => k _ (frzd G1 H1 fq) H1 (RS.setAll (blts hj) hvs ⟨fp, r.st.trans (s1.frz w), r.own.mono (s1.frz w).g s1.h, fun a ha => ?_, r.n, r.d⟩)
  cases q : frzd G1 H1 fq a with
  | none => rfl
  | some u =>
    obtain ⟨u', hu'⟩ := r.own.there a ha
    have := (s1.frz w).n a (r.g a ha) (by rw [q]; exact fun z => nomatch z)
    rw [hu'] at this; cases this
theorem rn_par (j1 j2 : Nat) {x y : Str} {m n : Int} {px py pt : Pos} {kt k2 pt2} (ha : EvS F a ρ (ti m)) (hb : EvS F b ρ (ti n)) (hN : ∀ i, (F.cx i).N.Nodup) (hj1 : Nat.blt j1 ρ.length = true := by rfl) (hj2 : Nat.blt j2 ρ.length = true := by rfl) (hi : ∀ i, (F.cx i).N[j1]? = some x := by intro _; rfl) (hj : ∀ i, (F.cx i).N[j2]? = some y := by intro _; rfl) (hij : j1 ≠ j2 := by decide)
    (hx : ∀ i, (F.cx i).env.scope.names.lookup x = some .local := by intro _; rfl) (hy : ∀ i, (F.cx i).env.scope.names.lookup y = some .local := by intro _; rfl)
    (hw : ∀ i, swappedStores [.Tuple [.Name x px, .Name y py] kt pt] (.Tuple [a, b] k2 pt2) (F.cx i).env = pure (some [x, y]) := by intro _; rfl)
    (hs : ∀ i, swapsWithSole [.Tuple [.Name x px, .Name y py] kt pt] (.Tuple [a, b] k2 pt2) pos.line (F.cx i).env = pure false := by intro _; rfl)
    (st1 : ∀ i, starEach [a, b] (F.cx i).env = (false, eval a (F.cx i).env) :: starEach [b] (F.cx i).env := by intro _; rfl) (st2 : ∀ i, starEach [b] (F.cx i).env = (false, eval b (F.cx i).env) :: starEach [] (F.cx i).env := by intro _; rfl) :
    Rn F (.Assign [.Tuple [.Name x px, .Name y py] kt pt] (.Tuple [a, b] k2 pt2) pos) ρ (.nx ((ρ.set j1 (some (ti m))).set j2 (some (ti n)))) := by
  obtain ⟨τ, y1, z1⟩ := ha
  obtain ⟨τ', y2, z2⟩ := hb
  refine ⟨tPar j1 j2 (tCons τ (tCons τ' tNil)), fun i => ps_par (F.calm i) (hN i) (hi i) (hj i) hij (hx i) (hy i) (pa_cons (y1 i) (pa_cons (y2 i) pa_nil (st2 i)) (st1 i)) (hw i) (hs i), fun D σ G0 H0 G H r k => ?_⟩
  obtain ⟨fp, r⟩ := r
  have key : ∀ {G1 H1 : Hp}, Step G H G1 H1 → ∀ a ∈ fp, G1 a = none := fun {G1 H1} s1 a ha => by
    cases q : G1 a with
    | none => rfl
    | some u =>
      obtain ⟨u', hu'⟩ := r.own.there a ha
      have := s1.n a (r.g a ha) (by rw [q]; exact fun z => nomatch z)
      rw [hu'] at this; cases this
  refine z1 σ G H fp _ r.st.s r.own r.g fun v G1 H1 fq s1 o w => z2 σ G1 H1 fp _ s1.s (r.own.mono s1.g s1.h) (key s1) fun v' G2 H2 fq' s2 o' w' => ?_
  have e1 : v = .int m := hvi o.2
  have e2 : v' = .int n := hvi o'.2
  subst e1 e2
  refine ⟨_, _, rfl, ?_⟩
  have s12 := s1.trans s2
  obtain ⟨fp1, r1⟩ := (⟨r.st.trans s12, r.own.mono s12.g s12.h, key s12, r.n, r.d⟩ : RSf F.K G0 H0 G2 H2 ρ σ fp).set (t := ti m) (v := .int m) (Nat.le_of_ble_eq_true hj1) (.refl s12.s) ⟨rfl, rfl, rfl⟩ .nil
  exact k _ G2 H2 (r1.set (t := ti n) (v := .int n) (by rw [List.length_set]; exact Nat.le_of_ble_eq_true hj2) (.refl s12.s) ⟨rfl, rfl, rfl⟩ .nil)
end
end L2
namespace L2
open PySem PySem.Spec PyProof.Rows
theorem ps_lcset {X : Cx} {elt tg iter : Expr} {ifs : List Expr} {sc : Scope} {cl : List (Str × Addr)} {own : List Str} {fr : List Nat} {pos spos py : Pos} {wi : TI} {g : TG} {tt : TT} {te : TE} {y0 : Str} {j0 : Nat}
    (L : LcScope X sc cl fr) (hc : X.calm = true) (hi : PI X tg iter wi)
    (hg : ∀ C s H ex pn, PG (cxLc X own fr sc cl C s H ex pn) tg g)
    (ht : ∀ C s H ex pn (pins : List (Addr × Obj)) (s1 : Shared) (σ1 : St) (H1 : Hp) (Q : Bool → Hp → Prop), Inv (cxLc X own fr sc cl C s H ex pn) pins σ1 H1 s1 → tt σ1 H1 Q →
      wpAny (model X.prog X.w) X.A (lcTests ifs (compEnvC sc (cellsFrom (C + 1) sc.names cl) C X.env)) (TP (cxLc X own fr sc cl C s H ex pn) pins σ1 Q) NoX s1)
    (he : ∀ C s H ex pn, PE (cxLc X own fr sc cl C s H ex pn) elt te) (hN0 : X.N.Nodup) (hj0 : X.N[j0]? = some y0) (hx0 : Loc X.env.scope y0)
    (hsw : swapsWith (.ListComp elt [⟨tg, iter, ifs, 0⟩] sc pos) (some (.Name y0 py)) spos.line X.env = pure true) (hf0 : X.fn y0 = true ∨ X.env.scope.names.lookup y0 = some .local) (hs : ∀ x, foldedSetIterable iter X.env x = pure x := by intro _; rfl) :
    PS X (.Assign [.Name y0 py] (.ListComp elt [⟨tg, iter, ifs, 0⟩] sc pos) spos) (tAsg (tLc wi g tt te own fr) (gName j0)) := by
  intro pins s σ H D I h
  rw [exec_Assign_Name_used _ _ _ _ hsw]
  refine wpAny_bind (wpAny_standAt (wpAny_bind ?_))
  show wpAny _ X.A (do let _ ← comprehension (.ListComp elt [⟨tg, iter, ifs, 0⟩] sc pos) sc X.env _ (newList []) false (eval iter X.env) (some (assign (.Name y0 py) X.env))) _ _ s
  refine wpAny_bind (wpAny_mono (wpAny_comprehension_free (use := some (assign (.Name y0 py) X.env)) (Q := fun _ s' => SP X pins D .next s') rfl hs L.clos L.kind L.names (thn (hi pins s σ H _ I h) fun v s1 h1 => thn h1 fun itv s2 h2 => ?_)) (fun _ s' hq => wpAny_pure (wpAny_pure hq)) fun _ _ e => e)
  obtain ⟨it, fp, tn, J, H2, e, I2, T, st2, f2, h2⟩ := h2
  subst e
  refine wpAny_newObj_type ?_
  have I3 : Inv X pins σ (upd H2 s2.heap.objs.size (.lst [])) { s2 with heap := s2.heap.push { cls := .type "list", data := .seq ([] : List Value).toArray } } := I2.lnew (t' := s2.toks) .nil (Nat.zero_le _)
  have n2 : H2 s2.heap.objs.size = none := I2.fresh
  obtain ⟨W, ⟨m0, w0⟩, turn⟩ := h2 _ n2
  have lt2 : ∀ b ∈ fp, b < s2.heap.objs.size := fun b hb => by
    obtain ⟨o, eo, _⟩ := T.obj 0 _ st2 b hb
    exact Heap.lt_size eo
  have fp3 : ∀ b ∈ fp, FpOk X pins (upd H2 s2.heap.objs.size (.lst [])) b := fun b hb => ⟨by rw [upd_ne (Nat.ne_of_lt (lt2 b hb))]; exact (f2 b hb).1, (f2 b hb).2⟩
  generalize hs3 : ({ s2 with heap := s2.heap.push { cls := .type "list", data := .seq ([] : List Value).toArray } } : Shared) = s3 at I3
  have st3 : tn 0 s3.heap := by
    rw [← hs3]
    exact T.keep 0 _ _ st2 fun b hb o eo => Heap.get?_push_of_some _ eo
  have lt3 : ∀ b ∈ fp, b < s3.heap.objs.size := fun b hb => by
    obtain ⟨o, eo, _⟩ := T.obj 0 _ st3 b hb
    exact Heap.lt_size eo
  generalize hH3 : upd H2 s2.heap.objs.size (.lst []) = H3 at I3 fp3 w0
  generalize s2.heap.objs.size = acc at turn w0 hH3 ⊢
  refine newEnv_cells ?_
  have hns : (pushCells (s3.heap.push { cls := .type "dict", data := .dict #[] }) sc.names).Ns s3.heap.objs.size fun _ => none := (Heap.Ns.new s3.heap (.type "dict")).keeps (pushCells_keeps _ _)
  have kp : ∀ b o, s3.heap.get? b = some o → (pushCells (s3.heap.push { cls := .type "dict", data := .dict #[] }) sc.names).get? b = some o := fun b o eo => pushCells_keeps _ _ b o (Heap.get?_push_of_some _ eo)
  have ncl : ∀ y c, (cellsFrom (s3.heap.objs.size + 1) sc.names cl).lookup y = some c → cl.lookup y = some c ∨ (pushCells (s3.heap.push { cls := .type "dict", data := .dict #[] }) sc.names).IsCell c none := fun y c e =>
    cf_cell sc.names (s3.heap.push { cls := .type "dict", data := .dict #[] }) cl y c (by rw [Heap.size_push]; exact e)
  generalize hh4 : pushCells (s3.heap.push { cls := .type "dict", data := .dict #[] }) sc.names = h4 at hns kp ncl
  have I4 := lcInv (own := own) (tk := s3.toks) L I3 fp3 lt3 hns kp ncl
  have st4 : tn 0 h4 := T.keep 0 _ _ st3 fun b hb o eo => kp b o eo
  have stat : ∀ {H' : Hp}, (∀ b ∈ fp, H' b = none) → ∀ b ∈ fp, FpOk (cxLc X own fr sc cl s3.heap.objs.size s3 H3 fp (X.pn ++ pins)) [] H' b := fun {H'} hn b hb =>
    ⟨hn b hb, Nat.ne_of_lt (lt3 b hb), fun z => (List.mem_cons.mp (I3.stkSub b z)).elim (fp3 b hb).2.1 (fp3 b hb).2.2.1, .inl hb, fun y c e => (cf_lookup _ _ _ y c e).elim (fun q => (fp3 b hb).2.2.2.2.1 y c (L.sub y c q)) fun q => Nat.ne_of_gt (Nat.lt_of_lt_of_le (lt3 b hb) (Nat.le_of_succ_le q.1)), fun p hp => (fp3 b hb).2.2.2.2.2 p (by
      have z : p ∈ (X.pn ++ pins) ++ [] := hp
      simpa using z)⟩
  have loop : codeAny (model X.prog X.w) X.A (.compLoop (.ListComp elt [⟨tg, iter, ifs, 0⟩] sc pos) 0 (.ref it) (.ref acc) (compEnvC sc (cellsFrom (s3.heap.objs.size + 1) sc.names cl) s3.heap.objs.size X.env))
      (compPost (model X.prog X.w) X.A X.xe (some (assign (.Name y0 py) X.env)) (fun _ s' => SP X pins D .next s') (.ref acc) s3.heap.objs.size) { s3 with heap := h4, toks := s3.toks } := by
    refine lcLoop (fun n s' => ∃ i ys σ1 H1, Inv (cxLc X own fr sc cl s3.heap.objs.size s3 H3 fp (X.pn ++ pins)) [] σ1 H1 s' ∧ tn i s'.heap ∧ (∀ b ∈ fp, H1 b = none) ∧ W i n ys σ1 H1) ?_ m0 ⟨0, [], _, H3, I4, st4, fun b hb => (fp3 b hb).1, w0⟩
    rintro n s5 ⟨i, ys, σ5, H5, I5, st5, fr5, w5⟩
    obtain ⟨hacc, hlen, hh⟩ := turn i n ys σ5 H5 w5
    rcases hh with ⟨stop, qn⟩ | ⟨go, N, hN, step⟩
    · refine thn (T.done (cxLc X own fr sc cl s3.heap.objs.size s3 H3 fp (X.pn ++ pins)) rfl rfl rfl hc i [] s5 σ5 H5 NoX I5 (stat fr5) st5 stop) fun r s6 ⟨hr, I6⟩ => ?_
      subst hr
      obtain ⟨m6, ns6, _⟩ := id I6.loc
      have back : ∀ h7, Heap.SameBut s3.heap.objs.size s6.heap h7 → Inv X pins σ H5 { s6 with heap := h7 } := fun h7 sb7 => by
        have old : ∀ b o, s3.heap.get? b = some o → b ≠ s3.heap.objs.size := fun b o eo => Nat.ne_of_lt (Heap.lt_size eo)
        have u6 : Un (frs X.stack) fp H3 H5 s3.heap s6.heap := I6.base
        have u7 : Un (frs X.stack) fp H3 H5 s3.heap h7 :=
          ⟨fun b o eo nn hb hx => (sb7.2 b (old b o eo)).trans (u6.keep b o eo nn hb hx), fun b o eo nn hb hx => by
            obtain ⟨sl, q⟩ := u6.slot b o eo nn hb hx
            exact ⟨sl, (sb7.2 b (old b o eo)).trans q⟩, u6.free, fun b o eo hx => by
            obtain ⟨o', q⟩ := u6.there b o eo hx
            exact ⟨o', (sb7.2 b (old b o eo)).trans q⟩, u6.tups, u6.frzs, u6.tbls⟩
        have fC : H5 s3.heap.objs.size = none := I6.free
        have hok7 : HOk X.prog X.w H5 h7 := fun b ob eb => by
          refine (I6.hok b ob eb).stay (fun c w' hc' q => (sb7.2 c ?_).trans q) (fun _ q => q) fun _ _ q => q
          rintro rfl
          rcases hc' with z | z
          · rw [← z, fC] at eb; cases eb
          · rw [fC] at z; cases z
        exact I3.call' (s' := { s6 with heap := h7 }) I6.os u7 hok7 I6.bare fun b hb => ⟨(fp3 b hb).2.2.2.1, (fp3 b hb).2.1, (fp3 b hb).2.2.2.2.1, (fp3 b hb).2.2.2.2.2⟩
      have fC0 : H5 s3.heap.objs.size = none := I6.free
      show wpAny _ _ (assign (.Name y0 py) X.env (.ref acc)) _ X.xe s6
      refine wpAny_assign_Name (store_ok2 (v := .ref acc) (back s6.heap (Heap.SameBut.refl ..)) hN0 hj0 hx0 rfl (fun s7 I7 ⟨a, sb, ha⟩ => ?_) hf0)
      have aC : s3.heap.objs.size ≠ a := by
        rcases ha with rfl | ha
        · exact Nat.ne_of_gt I3.lt
        · obtain ⟨v0, q0⟩ := I3.cell y0 a ha
          exact Nat.ne_of_gt q0.lt
      refine ⟨m6, ns6.sameBut sb aC, fun h8 sb8 => ⟨_, H5, ?_, qn⟩⟩
      exact Inv.turnedL (t' := s7.toks) (fs := [s3.heap.objs.size]) I7 (fun b o hb e => (sb8.2 b (fun z => hb (by rw [z]; exact .head _))).trans e) (fun b hb => by
        rw [List.mem_singleton.mp hb]
        exact I3.fpOk (H' := H5) (Nat.le_refl _) fC0)
    · refine thn (T.item (cxLc X own fr sc cl s3.heap.objs.size s3 H3 fp (X.pn ++ pins)) rfl rfl rfl hc i [] s5 σ5 H5 NoX I5 (stat fr5) st5 go) fun r s6 ⟨u, hr, h6⟩ => ?_
      subst hr
      refine thn h6 fun _ s7 ⟨x, H7, I7, r7, y7, st7, fr7⟩ => ?_
      have I7' := I7.pinned (stat fr7) (T.obj _ _ st7)
      refine thn (hg _ _ _ _ _ _ s7 σ5 H7 x u _ I7' r7 (step x H7 y7)) fun _ s8 ⟨σ8, H8, I8, q8⟩ => ?_
      have again : ∀ {zs : List V} {σ9 : St} {H9 : Hp} {s9 : Shared}, Inv (cxLc X own fr sc cl s3.heap.objs.size s3 H3 fp (X.pn ++ pins)) ([] ++ pinsAt fp s7.heap) σ9 H9 s9 → N zs σ9 H9 →
          ∃ m, m < n ∧ ∃ i ys σ1 H1, Inv (cxLc X own fr sc cl s3.heap.objs.size s3 H3 fp (X.pn ++ pins)) [] σ1 H1 s9 ∧ tn i s9.heap ∧ (∀ b ∈ fp, H1 b = none) ∧ W i m ys σ1 H1 := fun {zs σ9 H9 s9} I9 n9 => by
        obtain ⟨m', hm, w9⟩ := hN zs σ9 H9 n9
        refine ⟨m', hm, i + 1, zs, σ9, H9, I9.unpinned, T.keep _ _ _ st7 fun b hb o e => (I9.pin (b, o) (List.mem_append_right _ (List.mem_append_right _ (mem_pinsAt hb e)))).1, fun b hb => ?_, w9⟩
        obtain ⟨o, e, d⟩ := T.obj _ _ st7 b hb
        exact (I9.pin (b, o) (List.mem_append_right _ (List.mem_append_right _ (mem_pinsAt hb e)))).2.1
      refine thn (ht _ _ _ _ _ _ s8 σ8 H8 _ I8 q8) fun ok s9 ⟨H9, I9, q9⟩ => ?_
      cases ok with
      | false => exact again I9 (by simpa using q9)
      | true =>
        refine thn (he _ _ _ _ _ _ s9 σ8 H9 _ I9 q9) fun z s10 ⟨y, H10, I10, r10, a10, q10⟩ => ?_
        refine thn (mt_append _ s10 σ8 H10 (.ref acc) [y] (.ref acc) [z] (fun _ H' => N (ys ++ [y]) σ8 H') I10 rfl (.cons r10 .nil) ⟨acc, ys, y, rfl, rfl, a10, hlen, q10⟩) fun _ s11 ⟨_, H11, I11, _, q11⟩ => again I11 q11
  rw [← hs3] at loop ⊢
  exact codeAny_compStart_list loop (noX (T.self _ 0 _ _ _ st4 (by rw [hs3]; rw [hs3] at loop; exact loop)))
section
variable {ι : Type} {F : Fam ι} {elt tg iter : Expr} {ifs : List Expr} {sc : Scope} {own : List Str} {fr : List Nat} {cl : ι → List (Str × Addr)} {ρ : En} {t : Tr} {pos spos py : Pos}
theorem ElcS (h : Elc F own fr sc cl elt tg iter ifs ρ t) : ∃ τ, LcV F own fr sc cl elt tg iter ifs τ ∧ ∀ σ G H fp Q, Same G H → OwS F.K G H ρ σ fp → (∀ a ∈ fp, G a = none) → Kv F.K G H t Q → τ σ H Q :=
  let ⟨τ, v, y⟩ := h; ⟨τ, v, fun σ G H fp Q s r _ k => y σ G H Q s r.rpd k⟩
theorem rn_lcG (j : Nat) {x : Str} (h : ∃ τ, LcV F own fr sc cl elt tg iter ifs τ ∧ ∀ σ G H fp Q, Same G H → OwS F.K G H ρ σ fp → (∀ a ∈ fp, G a = none) → Kv F.K G H t Q → τ σ H Q) (L : ∀ i, LcScope (F.cx i) sc (cl i) fr) (hN : ∀ i, (F.cx i).N.Nodup) (hj : Nat.blt j ρ.length = true := by rfl) (hi : ∀ i, (F.cx i).N[j]? = some x := by intro _; rfl)
    (hx : ∀ i, Loc (F.cx i).env.scope x := by intro _; first | exact Or.inl rfl | exact Or.inr rfl) (hsw : ∀ i, swapsWith (.ListComp elt [⟨tg, iter, ifs, 0⟩] sc pos) (some (.Name x py)) spos.line (F.cx i).env = pure true := by intro _; rfl)
    (hf : ∀ i, (F.cx i).fn x = true ∨ (F.cx i).env.scope.names.lookup x = some .local := by intro _; first | exact .inl rfl | exact .inr rfl) (hs : ∀ i x, foldedSetIterable iter (F.cx i).env x = pure x := by intro _ _; rfl) :
    Rn F (.Assign [.Name x py] (.ListComp elt [⟨tg, iter, ifs, 0⟩] sc pos) spos) ρ (.nx (ρ.set j (some t))) := by
  obtain ⟨τ, ⟨wi, g, tt, te, rfl, h1, h2, h3, h4⟩, z⟩ := h
  refine ⟨_, fun i => ps_lcset (cl := cl i) (L i) (F.calm i) (h1 i) (fun C s H ex pn => h2 (i, ⟨C, s, H, ex, pn⟩)) (fun C s H ex pn => h3 (i, ⟨C, s, H, ex, pn⟩)) (fun C s H ex pn => h4 (i, ⟨C, s, H, ex, pn⟩)) (hN i) (hi i) (hx i) (hsw i) (hf i) (hs i), fun D σ G0 H0 G H r k => ?_⟩
  obtain ⟨fp, r⟩ := r
  exact z σ G H fp _ r.st.s r.own r.g fun v G1 H1 fq s1 o w => k _ G1 H1 (r.set (Nat.le_of_ble_eq_true hj) s1 o w)
theorem Elc.as {d : Dv} (h : Elc F own fr sc cl elt tg iter ifs ρ t) (e : er t = d) : Elc F own fr sc cl elt tg iter ifs ρ (.fz d) := by
  obtain ⟨τ, v, q⟩ := h
  refine ⟨τ, v, fun σ G H Q s r k => q σ G H Q s r fun v G' H' fq st o w => ?_⟩
  exact k v (frzd G' H' fq) H' [] (st.frz w) ⟨rfl, e ▸ o.hv (frzd_same w.g) fun a ha => frzd_in ha⟩ .nil
theorem Elc.to {t' : Tr} (h : Elc F own fr sc cl elt tg iter ifs ρ t) (e : t = t') : Elc F own fr sc cl elt tg iter ifs ρ t' := e ▸ h
end
end L2
namespace L2
open PySem PySem.Spec PyProof.Rows
section
variable {ι : Type} {F : Fam ι} {e a b c : Expr} {es : List Expr} {ρ : En} {t ta tb' tc : Tr} {ts : List Tr} {pos : Pos}
theorem ev_bm {nm : Str} {id : String} {r : V → List V → Hp → VK → Prop} {xs : List Dv} {o : Expr} {to : Tr} (slot : Slot "list" nm id) (hty : typeOf (.builtin id) = pure (.type "method_descriptor")) (hm : ∀ i, MtR (F.cx i) id r) (ho : Ev F o ρ to) (eo : er to = .lst xs) (ha : EvA F (e :: es) ρ ts)
    (h : ∀ G H x vs Q, Same G H → Hv F.K G (er to) x → HvL F.K G (ers ts) vs → Kv F.K G H t Q → r x vs H Q) {apos : Pos}
    (hbase : ∀ i, attributeBase o nm (F.cx i).env (eval o (F.cx i).env) = eval o (F.cx i).env := by intro _; rfl)
    (hfew : ∀ i, ((backTo pos (starEach (e :: es) (F.cx i).env)).all (fun x => !x.1) && (backToKw pos (keywordEach [] (F.cx i).env)).all (fun x => x.1.isSome) && decide ((e :: es).length + ([] : List Keyword).length + (if ([] : List Keyword).isEmpty then 0 else 1) < 30)) = true := by intro _; rfl)
    (hline : (apos.endLine == pos.line) = true := by rfl) (hs : ∀ i, starEach (e :: es) (F.cx i).env = (false, eval e (F.cx i).env) :: starEach es (F.cx i).env := by intro _; rfl) (hplain : ∀ i, (backTo pos (starEach es (F.cx i).env)).any (·.1) = false := by intro _; rfl) :
    Ev F (.Call (.Attribute o nm apos) (e :: es) [] pos) ρ t := by
  obtain ⟨τ, p, q⟩ := ho.use
  obtain ⟨τ', p', q'⟩ := ha.use
  refine ⟨tBM F.K "list" r τ τ', fun i => F.hK i ▸ pe_bm PySem.F.plainAttrs_list slot hty (hm i) (p i) (p' i) (hbase i) (hfew i) hline (hs i) (hplain i), fun σ G H Q s rr k => ?_⟩
  refine q σ G H _ s rr fun x G1 H1 s1 hx => ⟨?_, q' σ G1 H1 _ s1.s (rr.mono s1.g) fun vs G2 H2 s2 hv => h G2 H2 x vs Q s2.s (hx.mono s2.g) hv (k.step (s1.trans s2))⟩
  rw [eo] at hx
  obtain ⟨l, us, rfl, h1, h2⟩ := hx
  exact .inl ⟨rfl, _, s1.s.seq h1⟩
theorem hvl_bools {K : PySem.W.Frag} {G : Hp} : ∀ {bs : List Bool} {vs : List V}, HvL K G (bs.map db) vs → vs = bs.map V.bl
  | [], _, h => h
  | _ :: _, _, ⟨x, r, h1, h2, h3⟩ => by subst h1; rw [hvi h2, hvl_bools h3]; rfl
theorem map_range_get {α β : Type} (l : List α) (d : α) (f : α → β) : (List.range l.length).map (fun k => f ((l[k]?).getD d)) = l.map f := by
  refine List.ext_getElem? fun i => ?_
  rw [List.getElem?_map, List.getElem?_map]
  rcases Nat.lt_or_ge i l.length with h | h
  · rw [List.getElem?_range h, List.getElem?_eq_getElem h]
    show some (f ((l[i]?).getD d)) = _
    rw [List.getElem?_eq_getElem h]
    rfl
  · rw [List.getElem?_eq_none (by simpa using h), List.getElem?_eq_none h]
    rfl
theorem ers_fz : ∀ ds : List Dv, ers (ds.map .fz) = ds
  | [] => rfl
  | d :: ds => by show d :: ers (ds.map .fz) = _; rw [ers_fz ds]
theorem er_fzs (ds : List Dv) : er (.ow (ds.map .fz)) = .lst ds := by show Dv.lst _ = _; rw [ers_fz]
theorem Ev.to {t' : Tr} (h : Ev F e ρ t) (q : t = t') : Ev F e ρ t' := q ▸ h
theorem Et.to {p q : Bool} (h : Et F e ρ p) (z : p = q) : Et F e ρ q := z ▸ h
theorem EvS.to {t' : Tr} (h : EvS F e ρ t) (q : t = t') : EvS F e ρ t' := q ▸ h
theorem rn_ifT {A B : List Stmt} {o : Out} {p : Bool} (hc : EtS F c ρ p) (hp : p = true) (h1 : Rns F A ρ o) : Rn F (.If c A B pos) ρ o := rn_if hc (fun _ => h1) fun h => by rw [hp] at h; cases h
theorem rn_ifF {A B : List Stmt} {o : Out} {p : Bool} (hc : EtS F c ρ p) (hp : p = false) (h1 : Rns F B ρ o) : Rn F (.If c A B pos) ρ o := rn_if hc (fun h => by rw [hp] at h; cases h) fun _ => h1
theorem rn_skip {A : List Stmt} {p : Bool} (hc : EtS F c ρ p) (hp : p = false) : Rn F (.If c A [] pos) ρ (.nx ρ) := rn_ifF hc hp rns_nil
def rLaw (dd : List Dv) (t : Tr) : Prop := ∃ ns : List Int, ns.length ≤ 63 ∧ dd = [dis ns] ∧ t = tb true
def spLaw (K : PySem.W.Frag) : Sp := fun vs H Q _ => ∃ (a : Addr) (ns : List Int), vs = [.ref a] ∧ SqL K H a (ns.map V.int) ∧ ns.length ≤ 63 ∧ ∀ H', Q (.bl true) H'
theorem law_ok {P : Program} {w : World} {K : PySem.W.Frag} {mg : Str → Option Value} {base : Heap} {k : Nat} {f : Addr} {fd : FuncData} (F : FnOk P w K mg base CX0 k f fd ["_law_script"] (spT K rLaw)) : FnOk P w K mg base CX0 k f fd ["_law_script"] (spLaw K) :=
  F.imp fun vs H Q E ⟨a, ns, e, h1, h2, h3⟩ => ⟨H, [dis ns], tb true, Same.refl _, ⟨.ref a, [], e, ⟨a, _, rfl, h1, ints_hvl⟩, rfl⟩, ⟨ns, h2, rfl, rfl⟩, fun v G' H' fq st o w => by rw [hvi o.2]; exact h3 H'⟩
end
end L2
namespace Fra
def gc (a b : Int) : Int := (Int.gcd a b : Int)
theorem gc_pos {a b : Int} (h : b ≠ 0) : 0 < gc a b := by
  have : 0 < Int.gcd a b := Int.gcd_pos_of_ne_zero_right _ h
  unfold gc; omega
theorem gc_dvd_l (a b : Int) : gc a b ∣ a := Int.gcd_dvd_left ..
theorem gc_dvd_r (a b : Int) : gc a b ∣ b := Int.gcd_dvd_right ..
theorem gc_zero (a : Int) : gc a 0 = (a.natAbs : Int) := by unfold gc; rw [Int.gcd_zero_right]
theorem gc_step (a : Int) {b : Int} : gc b (a % b) = gc a b := by
  unfold gc
  congr 1
  apply Nat.dvd_antisymm
  · refine Int.dvd_gcd ?_ (Int.gcd_dvd_left ..)
    have h1 : (↑(Int.gcd b (a % b)) : Int) ∣ b := Int.gcd_dvd_left ..
    have h2 : (↑(Int.gcd b (a % b)) : Int) ∣ a % b := Int.gcd_dvd_right ..
    have := Int.dvd_add (Int.dvd_trans h1 (Int.dvd_mul_right b (a / b))) h2
    rwa [Int.mul_ediv_add_emod] at this
  · refine Int.dvd_gcd (Int.gcd_dvd_right ..) ?_
    have h1 : (↑(Int.gcd a b) : Int) ∣ a := Int.gcd_dvd_left ..
    have h2 : (↑(Int.gcd a b) : Int) ∣ b := Int.gcd_dvd_right ..
    rw [Int.emod_def]
    exact Int.dvd_sub h1 (Int.dvd_trans h2 (Int.dvd_mul_right b (a / b)))
theorem gc_abs (a b : Int) : gc (a.natAbs : Int) (b.natAbs : Int) = gc a b := by
  unfold gc; simp [Int.gcd]
theorem gc_le_r {a b : Int} (h : 0 < b) : gc a b ≤ b := Int.le_of_dvd h (gc_dvd_r a b)
def lT (t b : Int) : Int := (if b < 0 then -t else t) / gc t b
def lB (t b : Int) : Int := (b.natAbs : Int) / gc t b
theorem lT_pos {t b : Int} (h : 0 < b) : lT t b = t / gc t b := by unfold lT; rw [if_neg (by omega)]
theorem lB_pos {t b : Int} (h : 0 < b) : lB t b = b / gc t b := by unfold lB; rw [show (b.natAbs : Int) = b by omega]
theorem lT_mul (t b : Int) : lT t b * gc t b = if b < 0 then -t else t := by
  unfold lT
  refine Int.ediv_mul_cancel ?_
  split
  · exact Int.dvd_neg.mpr (gc_dvd_l t b)
  · exact gc_dvd_l t b
theorem lB_mul (t b : Int) : lB t b * gc t b = (b.natAbs : Int) := by
  unfold lB
  refine Int.ediv_mul_cancel ?_
  exact Int.dvd_natAbs.mpr (gc_dvd_r t b)
theorem lB_ge {t b : Int} (h : b ≠ 0) : 1 ≤ lB t b := by
  have h1 := lB_mul t b
  have h2 := gc_pos (a := t) h
  have h3 : 0 < lB t b := Int.pos_of_mul_pos_left (by rw [h1]; omega) h2
  omega
theorem l_cross {t b : Int} (h : b ≠ 0) : lT t b * b = t * lB t b := by
  have h1 := lT_mul t b
  have h2 := lB_mul t b
  have h3 := gc_pos (a := t) h
  apply Int.eq_of_mul_eq_mul_right (a := gc t b) (by omega)
  by_cases hb : b < 0
  · rw [if_pos hb] at h1
    have h4 : lB t b * gc t b = -b := by omega
    grind
  · rw [if_neg hb] at h1
    have h4 : lB t b * gc t b = b := by omega
    grind
theorem l_coprime {t b : Int} (h : b ≠ 0) : Int.gcd (lT t b) (lB t b) = 1 := by
  have h1 := lT_mul t b
  have h2 := lB_mul t b
  have h3 := gc_pos (a := t) h
  have hd1 : ((Int.gcd (lT t b) (lB t b) : Int)) ∣ lT t b := Int.gcd_dvd_left ..
  have hd2 : ((Int.gcd (lT t b) (lB t b) : Int)) ∣ lB t b := Int.gcd_dvd_right ..
  have e1 : ((Int.gcd (lT t b) (lB t b) : Int)) * gc t b ∣ t := by
    have := Int.mul_dvd_mul hd1 (Int.dvd_refl (gc t b))
    rw [h1] at this
    split at this
    · exact Int.dvd_neg.mp this
    · exact this
  have e2 : ((Int.gcd (lT t b) (lB t b) : Int)) * gc t b ∣ b := by
    have := Int.mul_dvd_mul hd2 (Int.dvd_refl (gc t b))
    rw [h2] at this
    exact Int.dvd_natAbs.mp this
  have e3 : ((Int.gcd (lT t b) (lB t b) : Int)) * gc t b ∣ gc t b := Int.dvd_coe_gcd e1 e2
  have e4 := Int.le_of_dvd h3 e3
  have e5 : 0 < Int.gcd (lT t b) (lB t b) := Int.gcd_pos_of_ne_zero_right _ (by have := lB_ge (t := t) h; omega)
  by_cases hh : Int.gcd (lT t b) (lB t b) = 1
  · exact hh
  · have e6 : (2 : Int) ≤ ((Int.gcd (lT t b) (lB t b) : Nat) : Int) := by omega
    have : 2 * gc t b ≤ ((Int.gcd (lT t b) (lB t b) : Nat) : Int) * gc t b := Int.mul_le_mul_of_nonneg_right e6 (by omega)
    omega
theorem l_unique {t b p q : Int} (hb : b ≠ 0) (hq : 0 < q) (hg : Int.gcd p q = 1) (h : p * b = t * q) : p = lT t b ∧ q = lB t b := by
  have c := l_cross (t := t) hb
  have g := l_coprime (t := t) hb
  have k := lB_ge (t := t) hb
  have e : p * lB t b = lT t b * q := by
    apply Int.eq_of_mul_eq_mul_right (a := b) hb
    grind
  have d1 : q ∣ lB t b := by
    have z : q ∣ p * lB t b := by rw [e]; exact Int.dvd_mul_left _ _
    have z' : q.natAbs ∣ p.natAbs * (lB t b).natAbs := by rw [← Int.natAbs_mul]; exact Int.natAbs_dvd_natAbs.mpr z
    have cp : Nat.Coprime q.natAbs p.natAbs := by
      have : Int.gcd q p = 1 := by rw [Int.gcd_comm]; exact hg
      exact this
    exact Int.natAbs_dvd_natAbs.mp (cp.dvd_of_dvd_mul_left z')
  have d2 : lB t b ∣ q := by
    have z : lB t b ∣ lT t b * q := by rw [← e]; exact Int.dvd_mul_left _ _
    have z' : (lB t b).natAbs ∣ (lT t b).natAbs * q.natAbs := by rw [← Int.natAbs_mul]; exact Int.natAbs_dvd_natAbs.mpr z
    have cp : Nat.Coprime (lB t b).natAbs (lT t b).natAbs := by
      have : Int.gcd (lB t b) (lT t b) = 1 := by rw [Int.gcd_comm]; exact g
      exact this
    exact Int.natAbs_dvd_natAbs.mp (cp.dvd_of_dvd_mul_left z')
  have eq : q = lB t b := Int.dvd_antisymm (by omega) (by omega) d1 d2
  refine ⟨?_, eq⟩
  rw [← eq] at e
  exact Int.eq_of_mul_eq_mul_right (a := q) (by omega) e
end Fra
namespace L2
open PySem PySem.Spec PyProof.Rows
theorem rng_get {lo : Int} {n j : Nat} {d : Dv} (h : (rngD lo n)[j]? = some d) : j < n ∧ d = di (lo + (j : Int)) := by
  rw [List.getElem?_map] at h
  rcases Nat.lt_or_ge j n with hj | hj
  · rw [List.getElem?_range hj] at h; cases h; exact ⟨hj, rfl⟩
  · rw [List.getElem?_eq_none (by simpa using hj)] at h; cases h
theorem map_get {α β : Type} {f : α → β} {l : List α} {j : Nat} {d : β} (h : (l.map f)[j]? = some d) : ∃ x, l[j]? = some x ∧ d = f x := by
  rw [List.getElem?_map] at h
  cases q : l[j]? with
  | none => rw [q] at h; cases h
  | some x => rw [q] at h; cases h; exact ⟨x, rfl, rfl⟩
theorem take_get {α : Type} {l : List α} {i : Nat} {x : α} (h : l[i]? = some x) : l.take (i + 1) = l.take i ++ [x] := by rw [List.take_succ, h]; rfl
theorem Rns.fg {ι : Type} {F : Fam ι} {sts : List Stmt} {ρ ρ1 ρ2 : En} (h : Rns F sts ρ (.nx ρ1)) (f : Fg ρ1 ρ2) : Rns F sts ρ (.nx ρ2) := by
  obtain ⟨τ, x, y⟩ := h
  exact ⟨τ, x, fun D σ G0 H0 G H r k => y D σ G0 H0 G H r fun σ' G' H' r' => k σ' G' H' (f.rs r')⟩
theorem rns_freezeTo {ι : Type} {F : Fam ι} {sts : List Stmt} {ρ : En} {o : Out} {t : Tr} {d : Dv} (j : Nat) (hj : ρ[j]? = some (some t)) (e : er t = d) (h : Rns F sts (ρ.set j (some (.fz d))) o) : Rns F sts ρ o := rns_freeze j hj (e ▸ h)
theorem rns_while_by {ι : Type} {F : Fam ι} {sts body : List Stmt} {ρ : En} {o : Out} {c : Expr} {pos : Pos} {α : Type} (S : α → En) (Pp : α → Prop) (p : α → Bool) (μ : α → Nat) (a0 : α) (e : S a0 = ρ) (h0 : Pp a0) (hc : ∀ a, Pp a → EtS F c (S a) (p a)) (hb : ∀ a, Pp a → p a = true → ∃ a', Pp a' ∧ μ a' < μ a ∧ Rns F body (S a) (.nx (S a')))
    (fin : ∀ a, Pp a → p a = false → Rns F sts (S a) o) (hx : ∀ i, (F.cx i).xe = NoX := by intro _; rfl) : Rns F (.While c body [] pos :: sts) ρ o := by
  subst e
  obtain ⟨a', h1, h2, h3⟩ := rn_while_by S Pp p μ hc hb a0 h0 hx
  exact rns_cons h3 (fin a' h1 h2)
def cellF (ns : List Int) (k : Int) : Int := ns.getD k.toNat 0
theorem cell_in {ns : List Int} {k : Int} (h0 : 0 ≤ k) (h : k < ns.length) : atI (ns.map di) k = some (di (cellF ns k)) := by
  obtain ⟨j, rfl⟩ : ∃ j : Nat, k = (j : Int) := ⟨k.toNat, by omega⟩
  have hj : j < ns.length := by omega
  refine atI_nat ?_
  unfold cellF
  rw [List.getElem?_map, List.getElem?_eq_getElem hj, List.getD_eq_getElem?_getD, show (j : Int).toNat = j by omega, List.getElem?_eq_getElem hj]
  rfl
theorem cell_out {ns : List Int} {k : Int} (h0 : 0 ≤ k) (h : ns.length ≤ k) : cellF ns k = 0 := by
  unfold cellF
  rw [List.getD_eq_getElem?_getD, List.getElem?_eq_none (by omega)]
  rfl
theorem cutD_map {α β : Type} (f : α → β) (l : List α) (a b : Option Int) : cutD (l.map f) a b = (cutD l a b).map f := by
  unfold cutD
  rw [List.length_map, List.map_take, List.map_drop]
mutual
def okD : Dv → Bool
  | .fl v => flatV v
  | .lst ds => okDs ds
  | .tup ds => okDs ds
def okDs : List Dv → Bool
  | [] => true
  | d :: ds => okD d && okDs ds
end
mutual
theorem eqD_refl : ∀ {d : Dv}, okD d = true → eqD d d = true
  | .fl v, h => eqV_refl h
  | .lst ds, h => eqDs_refl h
  | .tup ds, h => eqDs_refl h
theorem eqDs_refl : ∀ {ds : List Dv}, okDs ds = true → eqDs ds ds = true
  | [], _ => rfl
  | d :: ds, h => by
    have h' : (okD d && okDs ds) = true := h
    rw [Bool.and_eq_true] at h'
    show (eqD d d && eqDs ds ds) = true
    rw [eqD_refl h'.1, eqDs_refl h'.2]
    rfl
end
theorem okDs_map {α : Type} {f : α → Dv} (h : ∀ a, okD (f a) = true) : ∀ l : List α, okDs (l.map f) = true
  | [] => rfl
  | a :: l => by
    show (okD (f a) && okDs (l.map f)) = true
    rw [h a, okDs_map h l]
    rfl
theorem dpDs_le {n : Nat} : ∀ {ds : List Dv}, (∀ d ∈ ds, dpD d ≤ n) → dpDs ds ≤ n
  | [], _ => Nat.zero_le _
  | d :: ds, h => by
    show max (dpD d) (dpDs ds) ≤ n
    exact Nat.max_le.mpr ⟨h d (.head _), dpDs_le fun x hx => h x (.tail _ hx)⟩
theorem okD_dis (l : List Int) : okD (dis l) = true := okDs_map (fun _ => rfl) l
theorem dpD_dis (l : List Int) : dpD (dis l) ≤ 1 := by
  show dpDs _ + 1 ≤ 1
  have : dpDs (l.map di) ≤ 0 := dpDs_le fun d hd => by
    obtain ⟨_, _, rfl⟩ := List.mem_map.mp hd
    exact Nat.le_refl _
  omega
theorem dpD_lst {n : Nat} {ds : List Dv} (h : ∀ d ∈ ds, dpD d ≤ n) : dpD (.lst ds) ≤ n + 1 := Nat.succ_le_succ (dpDs_le h)
theorem dpD_tup {n : Nat} {ds : List Dv} (h : ∀ d ∈ ds, dpD d ≤ n) : dpD (.tup ds) ≤ n + 1 := Nat.succ_le_succ (dpDs_le h)
theorem okD_lst {α : Type} {f : α → Dv} (h : ∀ a, okD (f a) = true) (l : List α) : okD (.lst (l.map f)) = true := okDs_map h l
end L2
namespace L2
open PySem PySem.Spec PyProof.Rows
theorem OwL.setAt {K : PySem.W.Frag} {G H : Hp} : ∀ {us : List Tr} {vs : List V} {fq : List Addr} {m : Nat} {t : Tr} {v : V} {f : List Addr}, OwL K G H us vs fq → m < us.length → Ow K G H t v f → fq.Nodup → f.Nodup → (∀ a ∈ f, a ∉ fq) →
    ∃ fw, OwL K G H (us.set m t) (vs.set m v) fw ∧ fw.Nodup ∧ ∀ a ∈ fw, a ∈ fq ∨ a ∈ f
  | u :: us, _, _, 0, t, v, f, ⟨w, r, f1, f2, h1, h2, h3, h4⟩, _, o, nd, nf, dj => by
    subst h1 h2
    have nda := List.nodup_append.mp nd
    refine ⟨f ++ f2, ⟨v, r, f, f2, rfl, rfl, o, h4⟩, List.nodup_append.mpr ⟨nf, nda.2.1, fun a ha b hb e => dj a ha (e ▸ List.mem_append_right _ hb)⟩, fun a ha => ?_⟩
    rcases List.mem_append.mp ha with z | z
    · exact .inr z
    · exact .inl (List.mem_append_right _ z)
  | u :: us, _, _, m + 1, t, v, f, ⟨w, r, f1, f2, h1, h2, h3, h4⟩, hm, o, nd, nf, dj => by
    subst h1 h2
    have nda := List.nodup_append.mp nd
    obtain ⟨fw, q1, q2, q3⟩ := OwL.setAt (m := m) h4 (Nat.lt_of_succ_lt_succ hm) o nda.2.1 nf fun a ha z => dj a ha (List.mem_append_right _ z)
    refine ⟨f1 ++ fw, ⟨w, _, f1, fw, rfl, rfl, h3, q1⟩, List.nodup_append.mpr ⟨nda.1, q2, fun a ha b hb e => ?_⟩, fun a ha => ?_⟩
    · subst e
      rcases q3 a hb with z | z
      · exact nda.2.2 a ha a z rfl
      · exact dj a z (List.mem_append_left _ ha)
    · rcases List.mem_append.mp ha with z | z
      · exact .inl (List.mem_append_left _ z)
      · exact (q3 a z).imp (List.mem_append_right _) id
theorem rn_ixset {ι : Type} {F : Fam ι} {e : Expr} {ρ : En} {t : Tr} {pos : Pos} (j : Nat) {x : Str} {us : List Tr} {n : Int} {m : Nat} {nE : Expr} {p1 p2 : Pos} (h : ρ[j]? = some (some (.ow us))) (hn : EvS F nE ρ (ti n)) (hm : ixN us.length n = some m) (he : EvS F e ρ t) (hN : ∀ i, (F.cx i).N[j]? = some x := by intro _; rfl)
    (hv : ∀ i, Vis (F.cx i).env.scope x := by intro _; first | exact Or.inl rfl | exact Or.inr (Or.inl rfl) | exact Or.inr (Or.inr rfl)) (hd : (x == ("__debug__" : Str)) = false := by decide) (hc : (x == ("__classdict__" : Str)) = false := by decide)
    (hs : ∀ i, swapsWithSole [.Subscript (.Name x p1) nE p2] e pos.line (F.cx i).env = pure false := by intro _; rfl) (hw : ∀ i, swappedStores [.Subscript (.Name x p1) nE p2] e (F.cx i).env = pure none := by intro _; rfl)
    (h1 : ∀ i, (assignEach [.Subscript (.Name x p1) nE p2] (F.cx i).env).map (·.2) = [assign (.Subscript (.Name x p1) nE p2) (F.cx i).env] := by intro _; rfl)
    (hps : ∀ i, PG (F.cx i) (.Subscript (.Name x p1) nE p2) (gSub (tVar j) (uE F nE) rSetL)) :
    Rn F (.Assign [.Subscript (.Name x p1) nE p2] e pos) ρ (.nx (ρ.set j (some (.ow (us.set m t))))) := by
  obtain ⟨τ, y, z⟩ := he
  obtain ⟨τn, yn, zn⟩ := hn
  refine ⟨tAsg τ (gSub (tVar j) (uE F nE) rSetL), fun i => ps_asg (y i) (hps i) (hs i) (hw i) (h1 i), fun D σ G0 H0 G H r k => ?_⟩
  obtain ⟨fp, r⟩ := r
  refine z σ G H fp _ r.st.s r.own r.g fun v1 G1 H1 f1 s1 o1 w1 => ?_
  have r1 : RSf F.K G0 H0 G1 H1 ρ σ fp := ⟨r.st.trans s1, r.own.mono s1.g s1.h, r.own.off s1 r.g, r.n, r.d⟩
  obtain ⟨l0, vs0, fq0, c1, c2, _⟩ := r1.mut h (.refl r1.st.s)
  refine ⟨_, c1, τn, yn, zn σ G1 H1 fp _ r1.st.s r1.own r1.g fun vn G2 H2 f2 s2 o2 w2 => ?_⟩
  obtain ⟨l, vs, fq, d1, d2, d3, d4, d5, d6, d7⟩ := r.mut h (s1.trans s2)
  rw [c1] at d1
  cases d1
  have hm' : m < us.length := (ixN_seq hm).2.1
  have nf : ∀ a ∈ f1, a ∉ fq := fun a ha hb => by
    obtain ⟨u, hu⟩ := r.own.there a (d6 a hb)
    rw [w1.n a ha] at hu; cases hu
  obtain ⟨fw, q1, q2, q3⟩ := d4.setAt hm' (o1.mono s2.g s2.h) d5 w1.d nf
  refine ⟨l0, vs, n, m, rfl, hvi o2.2, d3, by rw [← d4.length]; exact hm, k σ G2 _ (d7 (us.set m t) (vs.set m v1) fw q1 q2 fun a ha => (q3 a ha).imp id fun z => ⟨w1.n a z, ?_⟩)⟩
  cases q : G2 a with
  | none => rfl
  | some u =>
    obtain ⟨u', hu'⟩ := o1.there a z
    have := s2.n a (w1.g a z) (by rw [q]; exact fun z => nomatch z)
    rw [hu'] at this; cases this
end L2
namespace L2
open PySem PySem.Spec PyProof.Rows
def tRange (ta : TA) : TE := fun σ H Q => ta σ H fun vs H1 => ∃ j : Int, vs = [.int j] ∧ ∀ p, H1 p = none → Q (.ref p) (upd H1 p (.rng 0 j))
section
variable {X : Cx}
theorem pe_range1 {a : Expr} {ta : TA} {p pos : Pos} (hg : Gl X "range") (hm : X.mg "range" = none) (ha : PA X [a] ta) (hs : starEach [a] X.env = [(false, eval a X.env)] := by rfl) : PE X (.Call (.Name "range" p) [a] [] pos) (tRange ta) := by
  intro pins s σ H Q I h
  refine Call_ (ld_blt I hg hm boot_range (PyProof.Rows.callWith_type1 (thn (ha pos pins s σ H _ I h) fun us s1 ⟨vs, H1, I1, r1, q1⟩ => ?_) hs rfl))
  obtain ⟨j, e, q⟩ := q1
  subst e
  cases r1 with
  | cons r rr =>
    cases rr
    obtain ⟨t, rfl⟩ := r
    refine call_range_1 ⟨.ref _, _, I1.laid (t' := s1.toks + 1 + 1) (o := .rng 0 j) (fun b ob q => Heap.get?_push_of_some _ q) (Nat.le_refl _) ?_, rfl, q _ (I1.hok.fresh (Nat.le_refl _))⟩
    exact ⟨_, _, _, Heap.get?_push_size _ rfl⟩
theorem call_list_rng (hc : X.calm = true) : CallR X (.type "list") (fun xs H Q => ∃ p n, xs = [.ref p] ∧ H p = some (.rng 0 n) ∧ 0 ≤ n ∧ n < 2 ^ 20 ∧ ∀ l, H l = none → Q (.ref l) (upd H l (.lst ((List.range n.toNat).map fun i => .int (0 + ((i : Nat) : Int)))))) := by
  intro pins s σ H xs us Q I r h
  obtain ⟨p, n, rfl, hH, h0, h1, q⟩ := h
  obtain ⟨u, rfl, rx⟩ := vals1 r
  cases rx
  obtain ⟨t, u, v, e⟩ := (show ObjOk X.prog X.w H s.heap p (.rng 0 n) from I.hok p _ hH)
  have hsize : Builtin.Range.rangeSize 0 n 1 = (n.toNat : Nat) := by rw [rangeSize_pos (by decide) h0]; omega
  refine call_list_range (n := n.toNat) (I.ok.hd hc) e (step_small h0 (by omega) (by decide) (by decide)) hsize (by omega) fun h' tk acc' c' kp e' it => ?_
  refine ⟨.ref s.heap.objs.size, _, I.laid (t' := tk) (o := .lst ((List.range n.toNat).map fun i => .int (0 + ((i : Nat) : Int)))) kp (Nat.le_refl _) ?_, rfl, q _ (I.hok.fresh (Nat.le_refl _))⟩
  have hs : sizeLine = 16777216 := sizeLine_eq
  refine ⟨by rw [List.length_map, List.length_range]; omega, acc'.toList, c', ?_, by rw [Array.toArray_toList]; exact e'⟩
  obtain ⟨i1, i2⟩ := it
  have gen : ∀ (l : List Value) (k : Nat), (∀ j v, l[j]? = some v → ∃ t, v = Value.int (0 + ((k + j : Nat) : Int)) t) → Vals ((List.range l.length).map fun i => V.int (0 + ((k + i : Nat) : Int))) l := by
    intro l
    induction l with
    | nil => intro k _; exact .nil
    | cons a l ih =>
      intro k hk
      rw [List.length_cons, List.range_succ_eq_map, List.map_cons, List.map_map]
      obtain ⟨t, ht⟩ := hk 0 a rfl
      refine .cons ⟨t, by rw [ht]⟩ ?_
      have := ih (k + 1) (fun j v hj => by
        obtain ⟨t, ht⟩ := hk (j + 1) v hj
        exact ⟨t, by rw [ht, show k + (j + 1) = k + 1 + j by omega]⟩)
      refine (List.map_congr_left fun i _ => ?_) ▸ this
      show V.int (0 + ((k + 1 + i : Nat) : Int)) = V.int (0 + ((k + (i + 1) : Nat) : Int))
      rw [show k + 1 + i = k + (i + 1) by omega]
  have g0 := gen acc'.toList 0 fun j v hj => by
    obtain ⟨t, ht⟩ := i2 j v (by rw [← Array.getElem?_toList]; exact hj)
    refine ⟨t, ?_⟩
    rw [ht, Int.mul_one, Nat.zero_add]
  rw [Array.length_toList, i1] at g0
  have e0 : ((List.range n.toNat).map fun i => V.int (0 + ((0 + i : Nat) : Int))) = (List.range n.toNat).map fun i => V.int (0 + ((i : Nat) : Int)) := List.map_congr_left fun i _ => by rw [Nat.zero_add]
  rw [e0] at g0
  exact g0
def rAny (K : PySem.W.Frag) : List V → Hp → VK → Prop := fun xs H Q => ∃ (p : Addr) (bs : List Bool), xs = [.ref p] ∧ SqL K H p (bs.map V.bl) ∧ Q (.bl (bs.any id)) H
theorem range_any (bs : List Bool) : ((List.range bs.length).any fun i => (bs[i]?).getD false) = bs.any id := by
  have := congrArg (fun l : List Bool => l.any id) (map_range_get bs false id)
  simp only [List.any_map, List.map_id] at this
  exact this
theorem call_any (hc : X.calm = true) : CallR X (.builtin "any") (rAny X.K) := by
  intro pins s σ H xs us Q I r h
  obtain ⟨p, bs, rfl, hq, q⟩ := h
  cases r with
  | cons r1 rr =>
    cases rr
    cases r1
    obtain ⟨its, rv, pl, hz⟩ := I.list hq
    have hb := boolsAre rv
    have hl : s.heap.IsList p its.toArray := pl.isList
    have hlt : p < s.heap.objs.size := by obtain ⟨_, e, _⟩ := hl; exact Heap.lt_size e
    refine call_any_walk (wpAny_pyIter_list hl ?_)
    refine ⟨s.heap.objs.size, [s.heap.objs.size, p], [s.heap.objs.size], its.toArray.size, _, _, fun i => (bs[i]?).getD false, rfl, Walks.list (A := X.A.in1) (I.ok.hd hc) _ p (Nat.ne_of_lt hlt) its.toArray,
      ⟨⟨_, Heap.get?_push_size _ rfl, rfl, rfl⟩, hl.push _⟩, fun i v s' Q' E' hP hQ => ?_, fun h' tk hk => ?_⟩
    · obtain ⟨b, e, rfl⟩ := hb.get i v (by simpa using hP)
      simp only [e, Option.getD_some] at hQ
      exact wpAny_truthy_bool hQ
    · have e : ((List.range its.toArray.size).any fun i => (bs[i]?).getD false) = bs.any id := by
        rw [List.size_toArray, hb.length]; exact range_any bs
      rw [e]
      exact ⟨.bl _, H, I.kept (t' := tk) (LSm.kept_iter hk), rfl, q⟩
def unlike (ns : List Int) : Nat := (firstMet (fun i => ns.getD i 0) ns.length).length
theorem call_set_ints (hc : X.calm = true) : CallR X (.type "set") (fun xs H Q => ∃ (p : Addr) (ns : List Int), xs = [.ref p] ∧ SqL X.K H p (ns.map V.int) ∧ ns.length < 1000 ∧ ∀ l S, H l = none → Q (.ref l) (upd H l (.set S (unlike ns)))) := by
  intro pins s σ H xs us Q I r h
  obtain ⟨p, ns, rfl, hq, hz, q⟩ := h
  obtain ⟨u, rfl, rx⟩ := vals1 r
  cases rx
  obtain ⟨its, rv, pl, _⟩ := I.list hq
  have hi := intsAre_of rv
  have hl := rv.length
  rw [List.length_map] at hl
  refine call_set_list (ns := ns) (I.ok.hd hc) pl.isList (by simpa using hi) (by rw [List.size_toArray, ← hl]; exact Nat.lt_of_lt_of_le (Nat.succ_lt_succ hz) (by decide)) fun h' tk hs kp => ?_
  have hsz : its.toArray.size = ns.length := by rw [List.size_toArray, ← hl]
  rw [hsz] at hs
  exact ⟨.ref s.heap.objs.size, _, I.laid (t' := tk) (o := .set _ (unlike ns)) (fun b o e => kp b o (Heap.lt_size e) e) (Nat.le_refl _) hs, rfl, q _ _ (I.hok.fresh (Nat.le_refl _))⟩
theorem call_len_setI : CallR X (.builtin "len") (fun xs H Q => ∃ p S n, xs = [.ref p] ∧ H p = some (.set S n) ∧ Q (.int n) H) := by
  intro pins s σ H xs us Q I r h
  obtain ⟨p, S, n, rfl, hH, q⟩ := h
  obtain ⟨u, rfl, rx⟩ := vals1 r
  cases rx
  obtain ⟨o, es, ep, t, h1, h2, h3, _, _, h4, h5, h6⟩ := (show ObjOk X.prog X.w H s.heap p (.set S n) from I.hok p _ hH)
  subst h6
  refine call_len_set h1 h2 h3 h5 (by have : es.size < 4096 := h4; omega) ⟨.int _, H, I.tok _, ⟨_, rfl⟩, q⟩
theorem unlike_nodup {ns : List Int} (h : ns.Nodup) : unlike ns = ns.length := by
  have gen : ∀ i, i ≤ ns.length → firstMet (fun i => ns.getD i 0) i = ns.take i := by
    intro i
    induction i with
    | zero => intro _; rw [firstMet_zero]; simp
    | succ i ih =>
      intro hi
      rw [firstMet_succ, ih (by omega)]
      have hx : ns[i]? = some (ns[i]'(by omega)) := List.getElem?_eq_getElem _
      rw [take_get hx]
      have e : ns.getD i 0 = ns[i]'(by omega) := by rw [List.getD_eq_getElem?_getD, hx]; rfl
      show step_dedup (ns.take i) (ns.getD i 0) = _
      rw [e]
      unfold step_dedup
      have : ((ns.take i).any (· == ns[i]'(by omega))) = false := by
        rw [Bool.eq_false_iff]
        intro z
        obtain ⟨y, hy, hyy⟩ := List.any_eq_true.mp z
        have hy' : y = ns[i]'(by omega) := by simpa using hyy
        subst hy'
        obtain ⟨j, hj, hje⟩ := List.mem_iff_getElem.mp hy
        rw [List.getElem_take] at hje
        rw [List.length_take] at hj
        have := (List.getElem_inj (xs := ns) h).mp hje
        omega
      rw [this]
      rfl
  unfold unlike
  rw [gen ns.length (Nat.le_refl _), List.take_length]
def rIndex (K : PySem.W.Frag) : V → List V → Hp → VK → Prop := fun x vs H Q => ∃ (l : Addr) (ns : List Int) (n : Int), x = .ref l ∧ vs = [.int n] ∧ SqL K H l (ns.map V.int) ∧ n ∈ ns ∧ Q (.int (ns.idxOf n : Nat)) H
theorem mt_index : MtM X "list.index" (rIndex X.K) := by
  intro pins s σ H x vs v us Q I rx rv h
  obtain ⟨l, ns, n, rfl, rfl, hq, hn, q⟩ := h
  cases rx
  obtain ⟨u, rfl, ru⟩ := rv.one
  obtain ⟨t, rfl⟩ := ru
  obtain ⟨its, r, pl, hz⟩ := I.list hq
  have hi := intsAre_of r
  have hlen := hi.length
  have hs : sizeLine = 16777216 := sizeLine_eq
  rw [List.length_map] at hz
  obtain ⟨⟨cls, dd, data, sl⟩, ho, hc, m, hd⟩ := id pl.isList
  simp only at hc hd
  subst hc hd
  have hj : ns.idxOf n < ns.length := List.idxOf_lt_length_iff.mpr hn
  refine call_meets PySem.F.slot_list_index ⟨_, ho, rfl⟩ PySem.F.entry_list_index (PySem.F.args_list_index_2 _ _)
    (SeqAt.list_indexAt l its.toArray m dd sl (.int n t) (isInt n) (ns.idxOf n) (by simpa [hlen] using hj) (by omega) ?_ ?_) ⟨ho, fun y hy => (eq_isInt n t hi y (by simpa using hy)).at _ _, ⟨.int _, H, I.tok _, ⟨_, rfl⟩, q⟩⟩
  · show isInt n its[ns.idxOf n] = true
    rw [isInt_at n hi _ (by omega) hj]
    simpa using List.getElem_idxOf hj
  · intro j hjs hlt
    show isInt n its[j] = false
    rw [isInt_at n hi j (by simpa using hjs) (by omega)]
    exact ne_of_lt_idxOf hlt _
end
section
variable {ι : Type} {F : Fam ι} {e a b c : Expr} {es : List Expr} {ρ : En} {t ta tb' : Tr} {ts : List Tr} {pos : Pos}
theorem ints_tr (l : List Int) : (l.map di).map Tr.fz = l.map fun n => Tr.fz (di n) := by rw [List.map_map]; rfl
theorem ev_listrange {n : Int} (hm : F.mg "list" = none) (hm2 : F.mg "range" = none) (ha : Ev F a ρ (ti n)) (h0 : 0 ≤ n) (h1 : n < 2 ^ 20) {p1 p2 pos1 : Pos} (hg : ∀ i, Gl (F.cx i) "list" := by intro _; rfl) (hg2 : ∀ i, Gl (F.cx i) "range" := by intro _; rfl)
    (hs : ∀ i, starEach [a] (F.cx i).env = [(false, eval a (F.cx i).env)] := by intro _; rfl) (hs2 : ∀ i, starEach [.Call (.Name "range" p2) [a] [] pos1] (F.cx i).env = [(false, eval (.Call (.Name "range" p2) [a] [] pos1) (F.cx i).env)] := by intro _; rfl) :
    Ev F (.Call (.Name "list" p1) [.Call (.Name "range" p2) [a] [] pos1] [] pos) ρ (.ow (((List.range n.toNat).map fun i => (0 + ((i : Nat) : Int))).map fun n => .fz (di n))) := by
  obtain ⟨τ, p, q⟩ := ha.use
  refine ⟨_, fun i => pe_callTy (call_list_rng (F.calm i)) (hg i) ((F.hm i).symm ▸ hm) bt_list (pa_cons (pe_range1 (hg2 i) ((F.hm i).symm ▸ hm2) (pa_cons (p i) pa_nil (hs i)) (hs i)) pa_nil (hs2 i)) (by decide) (by decide) (hs2 i) rfl, fun σ G H Q s rr k => q σ G H _ s rr fun x G1 H1 s1 hx => ?_⟩
  refine ⟨n, by rw [hvi hx], fun p0 hp0 => ⟨p0, n, rfl, upd_same, h0, h1, fun l hl => ?_⟩⟩
  have k2 := k.step (s1.trans (Step.newO (o := .rng 0 n) s1.s hp0))
  have e : ((List.range n.toNat).map fun i => V.int (0 + ((i : Nat) : Int))) = ((List.range n.toNat).map fun i => (0 + ((i : Nat) : Int))).map V.int := by rw [List.map_map]; rfl
  rw [e]
  refine k2.lst (s1.s.trans (Same.new hp0)) ?_ hl
  rw [← ints_tr]
  exact ints_hvl.owl
theorem ev_any {bs : List Bool} (hm : F.mg "any" = none) (ha : Ev F e ρ ta) (ea : er ta = .lst (bs.map db)) {p' : Pos} (hg : ∀ i, Gl (F.cx i) "any" := by intro _; rfl)
    (hs : ∀ i, starEach [e] (F.cx i).env = [(false, eval e (F.cx i).env)] := by intro _; rfl) : Ev F (.Call (.Name "any" p') [e] [] pos) ρ (tb (bs.any id)) :=
  ev_callB (r := rAny F.K) (fun i => F.hK i ▸ call_any (F.calm i)) hm bt_any (eva_cons ha eva_nil hs) (fun G H vs Q s hx k => by
    obtain ⟨x, rfl, hxx⟩ := hvl1 hx
    rw [ea] at hxx
    obtain ⟨l, ys, rfl, h1, h2⟩ := hxx
    have := hvl_bools h2
    subst this
    exact ⟨l, bs, rfl, s.seq h1, k.sc s rfl⟩) hg (by decide) (by decide) hs (fun _ => rfl)
theorem bt_set : bootBuiltins "set" = some (.type "set") := by decide +kernel
theorem ev_lenset {ns : List Int} (hm : F.mg "len" = none) (hm2 : F.mg "set" = none) (ha : Ev F a ρ ta) (ea : er ta = dis ns) (hz : ns.length < 1000) {p1 p2 pos1 : Pos} (hg : ∀ i, Gl (F.cx i) "len" := by intro _; rfl) (hg2 : ∀ i, Gl (F.cx i) "set" := by intro _; rfl)
    (hs : ∀ i, starEach [a] (F.cx i).env = [(false, eval a (F.cx i).env)] := by intro _; rfl) (hs2 : ∀ i, starEach [.Call (.Name "set" p2) [a] [] pos1] (F.cx i).env = [(false, eval (.Call (.Name "set" p2) [a] [] pos1) (F.cx i).env)] := by intro _; rfl) :
    Ev F (.Call (.Name "len" p1) [.Call (.Name "set" p2) [a] [] pos1] [] pos) ρ (ti (unlike ns : Nat)) := by
  obtain ⟨τ, p, q⟩ := ha.use
  refine ⟨tCB _ (tCons (tCB (fun xs H Q => ∃ (p : Addr) (ns : List Int), xs = [.ref p] ∧ SqL F.K H p (ns.map V.int) ∧ ns.length < 1000 ∧ ∀ l S, H l = none → Q (.ref l) (upd H l (.set S (unlike ns)))) (tCons τ tNil)) tNil), fun i => pe_callB call_len_setI (hg i) ((F.hm i).symm ▸ hm) bt_len (pa_cons (pe_callTy (F.hK i ▸ call_set_ints (F.calm i)) (hg2 i) ((F.hm i).symm ▸ hm2) bt_set (pa_cons (p i) pa_nil (hs i)) (by decide) (by decide) (hs i) rfl) pa_nil (hs2 i)) (by decide) (by decide) (hs2 i) rfl, fun σ G H Q s rr k => q σ G H _ s rr fun x G1 H1 s1 hx => ?_⟩
  rw [ea] at hx
  obtain ⟨l, ys, rfl, h1, h2⟩ := hx
  have := hvl_ints h2
  subst this
  refine ⟨l, ns, rfl, s1.s.seq h1, hz, fun l0 S hl0 => ⟨l0, S, _, rfl, upd_same, ?_⟩⟩
  exact (k.step (s1.trans (Step.newO (o := .set S (unlike ns)) s1.s hl0))).sc (s1.s.trans (Same.new hl0)) rfl
theorem ev_index {n : Int} {ns : List Int} {o : Expr} {to : Tr} (ho : Ev F o ρ to) (eo : er to = dis ns) (ha : Ev F e ρ (ti n)) (hn : n ∈ ns) {apos : Pos}
    (hbase : ∀ i, attributeBase o "index" (F.cx i).env (eval o (F.cx i).env) = eval o (F.cx i).env := by intro _; rfl)
    (hfew : ∀ i, ((backTo pos (starEach [e] (F.cx i).env)).all (fun x => !x.1) && (backToKw pos (keywordEach [] (F.cx i).env)).all (fun x => x.1.isSome) && decide (([e] : List Expr).length + ([] : List Keyword).length + (if ([] : List Keyword).isEmpty then 0 else 1) < 30)) = true := by intro _; rfl)
    (hline : (apos.endLine == pos.line) = true := by rfl) (hs : ∀ i, starEach [e] (F.cx i).env = [(false, eval e (F.cx i).env)] := by intro _; rfl) : Ev F (.Call (.Attribute o "index" apos) [e] [] pos) ρ (ti (ns.idxOf n : Nat)) :=
  ev_bm (r := rIndex F.K) PySem.F.slot_list_index PySem.F.type_list_index (fun i => F.hK i ▸ mt_index) ho eo (eva_cons ha eva_nil hs) (fun G H x vs Q s hx hv k => by
    rw [eo] at hx
    obtain ⟨l, us, rfl, h1, h2⟩ := hx
    have := hvl_ints h2
    subst this
    obtain ⟨y, rfl, hy⟩ := hvl1 hv
    exact ⟨l, ns, n, rfl, by rw [hvi hy], s.seq h1, hn, k.sc s rfl⟩) hbase hfew hline hs (fun _ => rfl)
theorem OwL.erase {K : PySem.W.Frag} {G H : Hp} : ∀ {us : List Tr} {vs : List V} {fq : List Addr} {m : Nat} {u : Tr}, OwL K G H us vs fq → us[m]? = some u → fq.Nodup → ∃ v f fw, vs[m]? = some v ∧ Ow K G H u v f ∧ OwL K G H (us.eraseIdx m) (vs.eraseIdx m) fw ∧ fw.Nodup ∧ f.Nodup ∧ (∀ a ∈ fw, a ∈ fq) ∧ (∀ a ∈ f, a ∈ fq) ∧ ∀ a ∈ f, a ∉ fw
  | t :: us, _, _, 0, u, ⟨v, r, f1, f2, h1, h2, h3, h4⟩, hu, nd => by
    cases hu
    subst h1 h2
    have nda := List.nodup_append.mp nd
    exact ⟨v, f1, f2, rfl, h3, h4, nda.2.1, nda.1, fun a ha => List.mem_append_right _ ha, fun a ha => List.mem_append_left _ ha, fun a ha hb => nda.2.2 a ha a hb rfl⟩
  | t :: us, _, _, m + 1, u, ⟨v, r, f1, f2, h1, h2, h3, h4⟩, hu, nd => by
    subst h1 h2
    have nda := List.nodup_append.mp nd
    obtain ⟨v', f, fw, q1, q2, q3, q4, q5, q6, q7, q8⟩ := OwL.erase (m := m) h4 hu nda.2.1
    refine ⟨v', f, f1 ++ fw, q1, q2, ⟨v, _, f1, fw, rfl, rfl, h3, q3⟩, List.nodup_append.mpr ⟨nda.1, q4, fun a ha b hb e => nda.2.2 a ha b (q6 b hb) e⟩, q5, fun a ha => ?_, fun a ha => List.mem_append_right _ (q7 a ha), fun a ha hb => ?_⟩
    · rcases List.mem_append.mp ha with z | z
      · exact List.mem_append_left _ z
      · exact List.mem_append_right _ (q6 a z)
    · rcases List.mem_append.mp hb with z | z
      · exact nda.2.2 a z a (q7 a ha) rfl
      · exact q8 a ha z
theorem rn_append_pop (j j2 : Nat) {x y : Str} {us ws : List Tr} {d : Dv} {n : Int} {m : Nat} {nE : Expr} {p1 p2 p3 p4 p5 p6 : Pos} (hjj : j ≠ j2) (h : ρ[j]? = some (some (.ow us))) (h2 : ρ[j2]? = some (some (.ow ws))) (hn : EvS F nE ρ (ti n)) (hm : ixN ws.length n = some m) (hb : -(2 ^ 62) ≤ n ∧ n < 2 ^ 62) (hu : ws[m]? = some (.fz d)) (hz : us.length < sizeLine)
    (hN : ∀ i, (F.cx i).N[j]? = some x := by intro _; rfl) (hN2 : ∀ i, (F.cx i).N[j2]? = some y := by intro _; rfl)
    (hv : ∀ i, Vis (F.cx i).env.scope x := by intro _; first | exact Or.inl rfl | exact Or.inr (Or.inl rfl) | exact Or.inr (Or.inr rfl)) (hv2 : ∀ i, Vis (F.cx i).env.scope y := by intro _; first | exact Or.inl rfl | exact Or.inr (Or.inl rfl) | exact Or.inr (Or.inr rfl))
    (hd : (x == ("__debug__" : Str)) = false := by decide) (hc : (x == ("__classdict__" : Str)) = false := by decide) (hd2 : (y == ("__debug__" : Str)) = false := by decide) (hc2 : (y == ("__classdict__" : Str)) = false := by decide)
    (hbase : ∀ i, attributeBase (.Name x p1) "append" (F.cx i).env (eval (.Name x p1) (F.cx i).env) = eval (.Name x p1) (F.cx i).env := by intro _; rfl) (hbase2 : ∀ i, attributeBase (.Name y p4) "pop" (F.cx i).env (eval (.Name y p4) (F.cx i).env) = eval (.Name y p4) (F.cx i).env := by intro _; rfl)
    (hfew : ∀ i, ((backTo p3 (starEach [.Call (.Attribute (.Name y p4) "pop" p5) [nE] [] p6] (F.cx i).env)).all (fun x => !x.1) && (backToKw p3 (keywordEach [] (F.cx i).env)).all (fun x => x.1.isSome) && decide (([.Call (.Attribute (.Name y p4) "pop" p5) [nE] [] p6] : List Expr).length + ([] : List Keyword).length + (if ([] : List Keyword).isEmpty then 0 else 1) < 30)) = true := by intro _; rfl)
    (hfew2 : ∀ i, ((backTo p6 (starEach [nE] (F.cx i).env)).all (fun x => !x.1) && (backToKw p6 (keywordEach [] (F.cx i).env)).all (fun x => x.1.isSome) && decide (([nE] : List Expr).length + ([] : List Keyword).length + (if ([] : List Keyword).isEmpty then 0 else 1) < 30)) = true := by intro _; rfl)
    (hline : (p2.endLine == p3.line) = true := by rfl) (hline2 : (p5.endLine == p6.line) = true := by rfl) (hs : ∀ i, starEach [.Call (.Attribute (.Name y p4) "pop" p5) [nE] [] p6] (F.cx i).env = [(false, eval (.Call (.Attribute (.Name y p4) "pop" p5) [nE] [] p6) (F.cx i).env)] := by intro _; rfl) (hs2 : ∀ i, starEach [nE] (F.cx i).env = [(false, eval nE (F.cx i).env)] := by intro _; rfl)
    (hsw : ∀ i, swapsWith (.Call (.Attribute (.Name x p1) "append" p2) [.Call (.Attribute (.Name y p4) "pop" p5) [nE] [] p6] [] p3) none pos.line (F.cx i).env = pure false := by intro _; rfl) :
    Rn F (.Expr (.Call (.Attribute (.Name x p1) "append" p2) [.Call (.Attribute (.Name y p4) "pop" p5) [nE] [] p6] [] p3) pos) ρ (.nx ((ρ.set j2 (some (.ow (ws.eraseIdx m)))).set j (some (.ow (us ++ [.fz d]))))) := by
  obtain ⟨τn, yn, zn⟩ := hn
  refine ⟨tDrop (tBM F.K "list" rAppend (tVar j) (tCons (tBM F.K "list" rPopAt (tVar j2) (tCons τn tNil)) tNil)), fun i => ps_expr (F.hK i ▸ pe_bm PySem.F.plainAttrs_list PySem.F.slot_list_append PySem.F.type_list_append mt_append (pe_var (hN i) (hv i) hd hc) (pa_cons (pe_bm PySem.F.plainAttrs_list PySem.F.slot_list_pop PySem.F.type_list_pop mt_popAt (pe_var (hN2 i) (hv2 i) hd2 hc2) (pa_cons (yn i) pa_nil (hs2 i)) (hbase2 i) (hfew2 i) hline2 (hs2 i) rfl) pa_nil (hs i)) (hbase i) (hfew i) hline (hs i) rfl) (hsw i), fun D σ G0 H0 G H r k => ?_⟩
  obtain ⟨fp, r⟩ := r
  obtain ⟨l0, vs0, fq0, c1, c2, _⟩ := r.mut h (.refl r.st.s)
  obtain ⟨l2, vs2, fq2, e1, e2, _⟩ := r.mut h2 (.refl r.st.s)
  refine ⟨_, c1, .inl ⟨rfl, _, SqL.of c2⟩, _, e1, .inl ⟨rfl, _, SqL.of e2⟩, ?_⟩
  refine zn σ G H fp _ r.st.s r.own r.g fun vn G1 H1 f1 s1 o1 w1 => ?_
  obtain ⟨l, vs, fq, d1, d2, d3, d4, d5, d6, d7⟩ := r.mut h2 s1
  rw [e1] at d1
  cases d1
  obtain ⟨v, f, fw, g1, g2, g3, g4, g5, g6, g7, g8⟩ := d4.erase hu d5
  obtain ⟨rfl, hv'⟩ := g2
  obtain ⟨ix1, ix2, ix3, ix4⟩ := ixN_seq hm
  refine ⟨l2, vs, n, m, v, rfl, by rw [hvi o1.2], d3, by omega, by omega, by rw [← d4.length]; exact ix1, g1, ?_⟩
  have r2 := d7 (ws.eraseIdx m) (vs.eraseIdx m) fw g3 g4 fun a ha => .inl (g6 a ha)
  obtain ⟨fp2, r2⟩ := r2
  have hj' : (ρ.set j2 (some (.ow (ws.eraseIdx m))))[j]? = some (some (.ow us)) := by rw [List.getElem?_set_ne (Ne.symm hjj)]; exact h
  obtain ⟨l3, vs3, fq3, b1, b2, b3, b4, b5, b6, b7⟩ := r2.mut hj' (.refl r2.st.s)
  rw [c1] at b1
  cases b1
  refine ⟨l0, vs3, v, rfl, rfl, b2, by rw [← b4.length]; exact hz, k σ G1 _ ?_⟩
  exact b7 (us ++ [.fz d]) (vs3 ++ [v]) (fq3 ++ ([] ++ [])) (b4.append (us := [.fz d]) ⟨v, [], [], [], rfl, rfl, ⟨rfl, hv'⟩, rfl, rfl⟩) (by simpa using b5) fun a ha => .inl (by simpa using ha)
end
end L2
namespace L2
open PySem PySem.Spec PyProof.Rows
theorem enu_get {xs : List Dv} {k : Nat} {d : Dv} (h : (enuD xs)[k]? = some d) : ∃ x, xs[k]? = some x ∧ d = .tup [di (k : Nat), x] := by
  unfold enuD at h
  rw [List.getElem?_zipWith] at h
  cases hx : xs[k]? with
  | none =>
    rw [hx] at h
    cases q2 : (List.range xs.length)[k]? with
    | none => rw [q2] at h; cases h
    | some z => rw [q2] at h; cases h
  | some x =>
    have lj : k < xs.length := (List.getElem?_eq_some_iff.mp hx).1
    rw [hx, List.getElem?_range lj] at h
    cases h
    exact ⟨x, rfl, rfl⟩
theorem enu_len (xs : List Dv) : (enuD xs).length = xs.length := by unfold enuD; rw [List.length_zipWith, List.length_range, Nat.min_self]
theorem er_map {α : Type} (l : List α) (f : α → Int) : er (.ow (l.map fun k => Tr.fz (di (f k)))) = dis (l.map f) := by
  show Dv.lst _ = Dv.lst _
  rw [ers_map, List.map_map, List.map_map]; rfl
abbrev tInts (l : List Int) : Tr := .ow (l.map fun n => .fz (di n))
abbrev tRows (L : List (List Int)) : Tr := .ow (L.map tInts)
theorem er_tInts (l : List Int) : er (tInts l) = dis l := by
  show Dv.lst _ = _
  rw [ers_map, List.map_map]; rfl
theorem er_tRows (L : List (List Int)) : er (tRows L) = .lst (L.map dis) := by
  show Dv.lst _ = _
  rw [ers_map, List.map_map]
  congr 1
  exact List.map_congr_left fun l _ => er_tInts l
theorem okD_rows (L : List (List Int)) : okD (.lst (L.map dis)) = true := okD_lst okD_dis L
theorem dpD_rows (L : List (List Int)) : dpD (.lst (L.map dis)) ≤ 2 := dpD_lst fun d hd => by
  obtain ⟨m, _, rfl⟩ := List.mem_map.mp hd
  exact dpD_dis m
def tabD (c : List Int) (os : List (List Int)) : Dv := .tup [dis c, .lst (os.map dis)]
theorem okD_tab (c : List Int) (os : List (List Int)) : okD (tabD c os) = true := by
  show (okD (dis c) && (okD (.lst (os.map dis)) && true)) = true
  rw [okD_dis, okD_rows]; rfl
theorem dpD_tab (c : List Int) (os : List (List Int)) : dpD (tabD c os) ≤ 3 := dpD_tup fun d hd => by
  rcases List.mem_cons.mp hd with rfl | hd
  · exact Nat.le_trans (dpD_dis c) (by decide)
  · rw [List.mem_singleton.mp hd]; exact dpD_rows os
def restF (n : Nat) (o : List Int) : List Int := ((List.range n).filter fun k => !o.contains (0 + ((k : Nat) : Int))).map fun k => 0 + ((k : Nat) : Int)
def fullF (n : Nat) (o : List Int) : List Int := o ++ [(n : Int)] ++ restF n o
theorem restF_len (n : Nat) (o : List Int) : (restF n o).length ≤ n := by
  unfold restF
  rw [List.length_map]
  have := List.length_filter_le (fun k => !o.contains (0 + ((k : Nat) : Int))) (List.range n)
  rwa [List.length_range] at this
structure TabOk (c : List Int) (os : List (List Int)) : Prop where
  c6 : c.length ≤ 6
  cnt : ∀ x ∈ c, 0 ≤ x ∧ x ≤ 9
  o1 : 1 ≤ os.length
  o6 : os.length ≤ 6
  nd : ∀ o ∈ os, o.Nodup
  rng : ∀ o ∈ os, ∀ x ∈ o, 0 ≤ x ∧ x < c.length
theorem nodup_len {n : Nat} {l : List Int} (nd : l.Nodup) (h : ∀ x ∈ l, 0 ≤ x ∧ x < n) : l.length ≤ n := by
  have sub : l ⊆ (List.range n).map fun k => ((k : Nat) : Int) := fun x hx => by
    obtain ⟨h0, h1⟩ := h x hx
    exact List.mem_map.mpr ⟨x.toNat, List.mem_range.mpr (by omega), by omega⟩
  have := nd.length_le_of_subset sub
  simpa using this
theorem TabOk.olen {c : List Int} {os : List (List Int)} (h : TabOk c os) {o : List Int} (ho : o ∈ os) : o.length ≤ 6 := Nat.le_trans (nodup_len (h.nd o ho) (h.rng o ho)) h.c6
end L2
namespace L2
open PySem PySem.Spec PyProof.Rows
theorem EvI.to {ι : Type} {F : Fam ι} {tg iter : Expr} {ρ : En} {a b : List Dv} (h : EvI F tg iter ρ a) (e : a = b) : EvI F tg iter ρ b := e ▸ h
theorem erase_perm {α : Type} : ∀ {l : List α} {m : Nat} (h : m < l.length), (l[m] :: l.eraseIdx m).Perm l
  | x :: l, 0, _ => .refl _
  | x :: l, m + 1, h => by
    have h' : m < l.length := by simpa using h
    show (l[m] :: x :: l.eraseIdx m).Perm (x :: l)
    exact (List.Perm.swap ..).trans ((erase_perm h').cons x)
theorem erase_map {α β : Type} (f : α → β) : ∀ (l : List α) (m : Nat), (l.map f).eraseIdx m = (l.eraseIdx m).map f
  | [], _ => rfl
  | _ :: _, 0 => rfl
  | x :: l, m + 1 => by
    show f x :: (l.map f).eraseIdx m = f x :: (l.eraseIdx m).map f
    rw [erase_map f l m]
end L2
namespace L2
open PySem PySem.Spec PyProof.Rows
theorem ev_mulS {ι : Type} {F : Fam ι} {a b : Expr} {ρ : En} {pos : Pos} {i j : Int} (ha : Ev F a ρ (ti i)) (hb : Ev F b ρ (ti j)) (hc : CMul i j) : Ev F (.BinOp a .Mult b pos) ρ (ti (i * j)) := ev_bin (fun _ => op_mul) ha hb fun G H x y Q s hx hy k => ⟨i, j, hvi hx, hvi hy, hc, k.sc s rfl⟩
end L2
namespace L2
open PySem PySem.Spec PyProof.Rows
section
variable {ι : Type} {F : Fam ι} {e a b c : Expr} {es : List Expr} {ρ : En} {t ta tb' : Tr} {ts : List Tr} {pos : Pos}
theorem RSf.move {K : PySem.W.Frag} {G0 H0 G H : Hp} {ρ : En} {σ : St} {fp : List Addr} {j j2 : Nat} {us : List Tr} {t : Tr} (r : RSf K G0 H0 G H ρ σ fp) (hjj : j ≠ j2) (h : ρ[j]? = some (some (.ow us))) (h2 : ρ[j2]? = some (some t)) :
    ∃ l vs v, σ[j]? = some (some (.ref l)) ∧ σ[j2]? = some (some v) ∧ H l = some (.lst vs) ∧ us.length = vs.length ∧ RS K G0 H0 G (upd H l (.lst (vs ++ [v]))) ((ρ.set j2 none).set j (some (.ow (us ++ [t])))) σ := by
  obtain ⟨v2, f2, fr2, a1, a2, a3, a4⟩ := r.own.split h2
  obtain ⟨v, f, fr, b1, b2, b3, b4⟩ := a3.split (j := j) (t := .ow us) (by rw [List.getElem?_set_ne (Ne.symm hjj)]; exact h)
  obtain ⟨l, vs, fq, rfl, hl, ol, rfl⟩ := b2
  have pm : fp.Perm (f2 ++ ((l :: fq) ++ fr)) := a4.trans (List.Perm.append_left _ b4)
  have nd := pm.nodup_iff.mp r.d
  have nd1 := List.nodup_append.mp nd
  have nd2 := List.nodup_append.mp nd1.2.1
  have nd3 := List.nodup_cons.mp nd2.1
  have lf2 : l ∉ f2 := fun z => nd1.2.2 l z l (List.mem_append_left _ (.head _)) rfl
  have lfr : l ∉ fr := fun z => nd2.2.2 l (.head _) l z rfl
  have hlp : l ∈ fp := pm.mem_iff.mpr (List.mem_append_right _ (List.mem_append_left _ (.head _)))
  have lt : j < (ρ.set j2 none).length := by
    rw [List.length_set]
    rcases Nat.lt_or_ge j ρ.length with z | z
    · exact z
    · rw [List.getElem?_eq_none z] at h; cases h
  have own : Ow K G (upd H l (.lst (vs ++ [v2]))) (.ow (us ++ [t])) (.ref l) (l :: (fq ++ (f2 ++ []))) :=
    ⟨l, vs ++ [v2], fq ++ (f2 ++ []), rfl, upd_same, (ol.frame nd3.1).append ⟨v2, [], f2, [], rfl, rfl, a2.frame lf2, rfl, rfl⟩, rfl⟩
  obtain ⟨fp', p1, p2⟩ := (b3.frame (o := .lst (vs ++ [v2])) lfr).put (get_set_none lt) own
  rw [List.set_set, set_self b1] at p1
  have pm2 : fp'.Perm fp := by
    refine p2.trans (List.Perm.trans ?_ pm.symm)
    rw [List.append_nil]
    have : ((l :: (fq ++ f2)) ++ fr).Perm ((f2 ++ (l :: fq)) ++ fr) := List.Perm.append_right fr (by
      show ((l :: fq) ++ f2).Perm (f2 ++ (l :: fq))
      exact List.perm_append_comm)
    rw [List.append_assoc] at this
    exact this
  refine ⟨l, vs, v2, b1, a1, hl, ol.length, fp', ⟨r.st.g, fun b u hb => ?_, fun b u hb => ?_, r.st.n⟩, p1, fun a ha => r.g a (pm2.mem_iff.mp ha), fun a ha => r.n a (pm2.mem_iff.mp ha), pm2.nodup_iff.mpr r.d⟩
  · have hb1 := r.st.h b u hb
    rw [upd_ne fun z => ?_]
    · exact hb1
    · subst z; rw [r.n _ hlp] at hb; cases hb
  · have hb1 := r.st.s b u hb
    rw [upd_ne fun z => ?_]
    · exact hb1
    · subst z; rw [r.g _ hlp] at hb; cases hb
theorem rn_append_mv (j j2 : Nat) {x y : Str} {us : List Tr} {p1 p2 p3 p4 : Pos} (hjj : j ≠ j2) (h : ρ[j]? = some (some (.ow us))) (h2 : ρ[j2]? = some (some t)) (hz : us.length < sizeLine)
    (hN : ∀ i, (F.cx i).N[j]? = some x := by intro _; rfl) (hN2 : ∀ i, (F.cx i).N[j2]? = some y := by intro _; rfl)
    (hv : ∀ i, Vis (F.cx i).env.scope x := by intro _; first | exact Or.inl rfl | exact Or.inr (Or.inl rfl) | exact Or.inr (Or.inr rfl)) (hv2 : ∀ i, Vis (F.cx i).env.scope y := by intro _; first | exact Or.inl rfl | exact Or.inr (Or.inl rfl) | exact Or.inr (Or.inr rfl))
    (hd : (x == ("__debug__" : Str)) = false := by decide) (hc : (x == ("__classdict__" : Str)) = false := by decide) (hd2 : (y == ("__debug__" : Str)) = false := by decide) (hc2 : (y == ("__classdict__" : Str)) = false := by decide)
    (hbase : ∀ i, attributeBase (.Name x p1) "append" (F.cx i).env (eval (.Name x p1) (F.cx i).env) = eval (.Name x p1) (F.cx i).env := by intro _; rfl)
    (hfew : ∀ i, ((backTo p3 (starEach [.Name y p4] (F.cx i).env)).all (fun x => !x.1) && (backToKw p3 (keywordEach [] (F.cx i).env)).all (fun x => x.1.isSome) && decide (([.Name y p4] : List Expr).length + ([] : List Keyword).length + (if ([] : List Keyword).isEmpty then 0 else 1) < 30)) = true := by intro _; rfl)
    (hline : (p2.endLine == p3.line) = true := by rfl) (hs : ∀ i, starEach [.Name y p4] (F.cx i).env = [(false, eval (.Name y p4) (F.cx i).env)] := by intro _; rfl) (hsw : ∀ i, swapsWith (.Call (.Attribute (.Name x p1) "append" p2) [.Name y p4] [] p3) none pos.line (F.cx i).env = pure false := by intro _; rfl) :
    Rn F (.Expr (.Call (.Attribute (.Name x p1) "append" p2) [.Name y p4] [] p3) pos) ρ (.nx ((ρ.set j2 none).set j (some (.ow (us ++ [t]))))) := by
  refine ⟨tDrop (tBM F.K "list" rAppend (tVar j) (tCons (tVar j2) tNil)), fun i => ps_expr (F.hK i ▸ pe_bm PySem.F.plainAttrs_list PySem.F.slot_list_append PySem.F.type_list_append mt_append (pe_var (hN i) (hv i) hd hc) (pa_cons (pe_var (hN2 i) (hv2 i) hd2 hc2) pa_nil (hs i)) (hbase i) (hfew i) hline (hs i) rfl) (hsw i), fun D σ G0 H0 G H r k => ?_⟩
  obtain ⟨fp, r⟩ := r
  obtain ⟨l, vs, v, c1, c2, c3, c4, c5⟩ := r.move hjj h h2
  exact ⟨_, c1, .inl ⟨rfl, _, SqL.of c3⟩, _, c2, l, vs, v, rfl, rfl, c3, by rw [← c4]; exact hz, k σ G _ c5⟩
theorem cutD_nat {α : Type} (l : List α) (a b : Nat) : cutD l (some (a : Int)) (some (b : Int)) = (l.drop (min a l.length)).take (min b l.length - min a l.length) := by
  unfold cutD
  rw [HT.sIx_nat, HT.sIx_nat]
theorem filt_get {α β : Type} (q : α → Bool) (h : α → β) (d : β) : ∀ l : List α, ((List.range l.length).filter fun k => ((l[k]?).map q).getD false).map (fun k => ((l[k]?).map h).getD d) = (l.filter q).map h
  | [] => rfl
  | a :: l => by
    have ih := filt_get q h d l
    rw [List.length_cons, List.range_succ_eq_map, List.filter_cons, List.filter_cons, List.filter_map]
    show List.map _ (if q a = true then _ else _) = _
    cases q a with
    | true =>
      show h a :: ((_ : List Nat).map Nat.succ).map _ = h a :: _
      rw [List.map_map, ← ih]; rfl
    | false =>
      show ((_ : List Nat).map Nat.succ).map _ = _
      rw [List.map_map]; exact ih
variable {js : List Nat} {sp : Dv → Option (List Dv)} {elt tg iter : Expr}
theorem elcf {α : Type} (l : List α) (g : α → Dv) (q : α → Bool) (h : α → Tr) {ifs : List Expr} {sc : Scope} {own : List Str} {fr : List Nat} {cl : ι → List (Str × Addr)} (hi : EvI F tg iter ρ (l.map g)) (hg : EvG (famLc F own fr sc cl) tg js sp) (hjs : ∀ j ∈ js, j < own.length) (hz : l.length < sizeLine)
    (step : ∀ a ∈ l, ∃ dd, sp (g a) = some dd ∧ El (famLc F own fr sc cl) ifs (setAll js (dd.map .fz) (lcEn own fr ρ)) (q a) ∧ (q a = true → Ev (famLc F own fr sc cl) elt (setAll js (dd.map .fz) (lcEn own fr ρ)) (h a)))
    (hdrop : ∀ dd : List Dv, dropAll js (setAll js (dd.map .fz) (lcEn own fr ρ)) = lcEn own fr ρ) : Elc F own fr sc cl elt tg iter ifs ρ (.ow ((l.filter q).map h)) := by
  have := elc (ifs := ifs) hi hg hjs (fun k => ((l[k]?).map q).getD false) (fun k => ((l[k]?).map h).getD tn) (by rw [List.length_map]; exact hz) (fun k d hd => by
    obtain ⟨a, ha, rfl⟩ := map_get hd
    obtain ⟨dd, s1, s2, s3⟩ := step a (List.mem_of_getElem? ha)
    refine ⟨dd, s1, ?_, ?_⟩
    · show El _ _ _ (((l[k]?).map q).getD false)
      rw [ha]; exact s2
    · show ((l[k]?).map q).getD false = true → Ev _ _ _ (((l[k]?).map h).getD tn)
      rw [ha]; exact s3) hdrop
  rw [List.length_map, filt_get] at this
  exact this
theorem elcm {α : Type} (l : List α) (g : α → Dv) (h : α → Tr) {sc : Scope} {own : List Str} {fr : List Nat} {cl : ι → List (Str × Addr)} (hi : EvI F tg iter ρ (l.map g)) (hg : EvG (famLc F own fr sc cl) tg js sp) (hjs : ∀ j ∈ js, j < own.length) (hz : l.length < sizeLine)
    (step : ∀ a ∈ l, ∃ dd, sp (g a) = some dd ∧ Ev (famLc F own fr sc cl) elt (setAll js (dd.map .fz) (lcEn own fr ρ)) (h a))
    (hdrop : ∀ dd : List Dv, dropAll js (setAll js (dd.map .fz) (lcEn own fr ρ)) = lcEn own fr ρ) : Elc F own fr sc cl elt tg iter [] ρ (.ow (l.map h)) := by
  have := elcf l g (fun _ => true) h hi hg hjs hz (fun a ha => let ⟨dd, s1, s2⟩ := step a ha; ⟨dd, s1, el_nil, fun _ => s2⟩) hdrop
  rwa [List.filter_eq_self.mpr fun _ _ => rfl] at this
theorem ev_lcf {α : Type} (l : List α) (g : α → Dv) (q : α → Bool) (h : α → Tr) {ifs : List Expr} {sc : Scope} {own : List Str} {fr : List Nat} {cl : ι → List (Str × Addr)} (L : ∀ i, LcScope (F.cx i) sc (cl i) fr) (hi : EvI F tg iter ρ (l.map g)) (hg : EvG (famLc F own fr sc cl) tg js sp) (hjs : ∀ j ∈ js, j < own.length) (hz : l.length < sizeLine)
    (step : ∀ a ∈ l, ∃ dd, sp (g a) = some dd ∧ El (famLc F own fr sc cl) ifs (setAll js (dd.map .fz) (lcEn own fr ρ)) (q a) ∧ (q a = true → Ev (famLc F own fr sc cl) elt (setAll js (dd.map .fz) (lcEn own fr ρ)) (h a)))
    (hdrop : ∀ dd : List Dv, dropAll js (setAll js (dd.map .fz) (lcEn own fr ρ)) = lcEn own fr ρ) (hs : ∀ i x, foldedSetIterable iter (F.cx i).env x = pure x := by intro _ _; rfl) : Ev F (.ListComp elt [⟨tg, iter, ifs, 0⟩] sc pos) ρ (.ow ((l.filter q).map h)) := by
  have := ev_lc (ifs := ifs) (pos := pos) L hi hg hjs (fun k => ((l[k]?).map q).getD false) (fun k => ((l[k]?).map h).getD tn) (by rw [List.length_map]; exact hz) (fun k d hd => by
    obtain ⟨a, ha, rfl⟩ := map_get hd
    obtain ⟨dd, s1, s2, s3⟩ := step a (List.mem_of_getElem? ha)
    refine ⟨dd, s1, ?_, ?_⟩
    · show El _ _ _ (((l[k]?).map q).getD false)
      rw [ha]; exact s2
    · show ((l[k]?).map q).getD false = true → Ev _ _ _ (((l[k]?).map h).getD tn)
      rw [ha]; exact s3) hdrop hs
  rw [List.length_map, filt_get] at this
  exact this
theorem ev_lcm {α : Type} (l : List α) (g : α → Dv) (h : α → Tr) {sc : Scope} {own : List Str} {fr : List Nat} {cl : ι → List (Str × Addr)} (L : ∀ i, LcScope (F.cx i) sc (cl i) fr) (hi : EvI F tg iter ρ (l.map g)) (hg : EvG (famLc F own fr sc cl) tg js sp) (hjs : ∀ j ∈ js, j < own.length) (hz : l.length < sizeLine)
    (step : ∀ a ∈ l, ∃ dd, sp (g a) = some dd ∧ Ev (famLc F own fr sc cl) elt (setAll js (dd.map .fz) (lcEn own fr ρ)) (h a))
    (hdrop : ∀ dd : List Dv, dropAll js (setAll js (dd.map .fz) (lcEn own fr ρ)) = lcEn own fr ρ) (hs : ∀ i x, foldedSetIterable iter (F.cx i).env x = pure x := by intro _ _; rfl) : Ev F (.ListComp elt [⟨tg, iter, [], 0⟩] sc pos) ρ (.ow (l.map h)) := by
  have := ev_lcf (pos := pos) l g (fun _ => true) h L hi hg hjs hz (fun a ha => let ⟨dd, s1, s2⟩ := step a ha; ⟨dd, s1, el_nil, fun _ => s2⟩) hdrop hs
  rwa [List.filter_eq_self.mpr fun _ _ => rfl] at this
theorem er_ow_map {α : Type} (l : List α) (h : α → Tr) : er (.ow (l.map h)) = .lst (l.map fun a => er (h a)) := by
  show Dv.lst (ers _) = _
  rw [ers_map, List.map_map]; rfl
end
end L2
namespace L2
open PySem PySem.Spec PyProof.Rows Fra
section
variable {ι : Type} {F : Fam ι} {e a b c : Expr} {es : List Expr} {ρ : En} {t ta tb' : Tr} {ts : List Tr} {pos : Pos}
theorem ev_callD {k : Nat} {f : Addr} {fd : FuncData} {ps : List Str} {R : List Dv → Tr → Prop} {x : Str} {n : Int} {tk : Tok} (Fn : Kn F.P F.w F.K F.mg F.base CX0 k x f fd ps (spT F.K R)) (B : Binds F.K fd ps [.int n tk]) (hk : k ≤ F.room) (ha : EvA F (e :: es) ρ ts) (hR : R (ers ts ++ [di n]) t) {p' : Pos} (hg : ∀ i, Gl (F.cx i) x := by intro _; rfl) (hdb : (x == ("__debug__" : Str)) = false := by decide)
    (he : ∀ i, starEach (e :: es) (F.cx i).env = (false, eval e (F.cx i).env) :: starEach es (F.cx i).env := by intro _; rfl) (hpl : ∀ i, (backTo pos (starEach es (F.cx i).env)).any (·.1) = false := by intro _; rfl) : Ev F (.Call (.Name x p') (e :: es) [] pos) ρ t := by
  obtain ⟨τ, y, z⟩ := ha.use
  refine ⟨tCall (spT F.K R) [.int n] E0 τ, fun i => ?_, fun σ G H Q s rr k => z σ G H _ s rr fun vs G1 H1 s1 hx => ?_⟩
  · have Fn' : Kn (F.cx i).prog (F.cx i).w (F.cx i).K (F.cx i).mg (F.cx i).base CX0 k x f fd ps (spT F.K R) := by
      rw [F.hP i, F.hw i, F.hK i, F.hm i, F.hb i]
      exact Fn
    exact pe_call Fn'.ok ((F.hr i).mono hk) (hg i) Fn'.mgx Fn'.kp (by rw [F.hK i]; exact B) (.cons ⟨tk, rfl⟩ .nil) pass0 (y i) hdb (he i) (hpl i)
  · show spT F.K R (vs ++ [.int n]) H1 Q E0
    have app : ∀ {ds : List Dv} {vs : List V}, HvL F.K G1 ds vs → HvL F.K G1 (ds ++ [di n]) (vs ++ [.int n]) := by
      intro ds
      induction ds with
      | nil => intro vs h; have h' : vs = [] := h; subst h'; exact ⟨_, _, rfl, ⟨rfl, rfl⟩, rfl⟩
      | cons d ds ih => intro vs ⟨x, r, h1, h2, h3⟩; subst h1; exact ⟨x, _, rfl, h2, ih h3⟩
    exact ⟨G1, _, t, s1.s, app hx, hR, k.step s1⟩
theorem ev_intb {q : Bool} (hm : F.mg "int" = none) (ha : Ev F e ρ (tb q)) {p' : Pos} (hg : ∀ i, Gl (F.cx i) "int" := by intro _; rfl)
    (hs : ∀ i, starEach [e] (F.cx i).env = [(false, eval e (F.cx i).env)] := by intro _; rfl) : Ev F (.Call (.Name "int" p') [e] [] pos) ρ (ti (if q then 1 else 0)) :=
  ev_callT (r := fun xs H Q => (∃ i, xs = [.int i] ∧ Q (.int i) H) ∨ ∃ k, xs = [.bl k] ∧ Q (.int (if k then 1 else 0)) H) (fun i => call_int1) hm bt_int (eva_cons ha eva_nil hs) (fun G H vs Q s hx k => by
    obtain ⟨x, rfl, hxx⟩ := hvl1 hx
    exact .inr ⟨q, by rw [hvi hxx], k.sc s rfl⟩) hg (by decide) (by decide) hs (fun _ => rfl)
end
abbrev dF (p : Int × Int) : Dv := .tup [di p.1, di p.2]
abbrev tF (p : Int × Int) : Tr := .fz (dF p)
def fW (W s : Int) : Int × Int := (lT s W, lB s W)
theorem fW_pos {W s : Int} (h : 0 < W) : 0 < (fW W s).2 := by have := lB_ge (t := s) (show W ≠ 0 by omega); show 0 < lB s W; omega
theorem fW_cross {W s : Int} (h : 0 < W) : (fW W s).1 * W = s * (fW W s).2 := l_cross (show W ≠ 0 by omega)
theorem fW_nonneg {W s : Int} (h : 0 < W) (hs : 0 ≤ s) : 0 ≤ (fW W s).1 := by
  have c := fW_cross (s := s) h
  have p := fW_pos (s := s) h
  rcases Int.lt_or_le (fW W s).1 0 with z | z
  · have : (fW W s).1 * W < 0 := Int.mul_neg_of_neg_of_pos z h
    have : 0 ≤ s * (fW W s).2 := Int.mul_nonneg hs (by omega)
    omega
  · exact z
theorem fW_inj {W s t : Int} (h : 0 < W) (e : fW W s = fW W t) : s = t := by
  have c1 := fW_cross (s := s) h
  have c2 := fW_cross (s := t) h
  rw [e] at c1
  have p := fW_pos (s := t) h
  have : s * (fW W t).2 = t * (fW W t).2 := by rw [← c1, ← c2]
  exact Int.eq_of_mul_eq_mul_right (by omega) this
theorem fW_zero {W : Int} (h : 0 < W) : fW W 0 = (0, 1) := by
  have := l_unique (t := 0) (b := W) (p := 0) (q := 1) (by omega) (by decide) (by decide) (by rw [Int.zero_mul, Int.zero_mul])
  show (_, _) = _
  rw [← this.1, ← this.2]
end L2
namespace L2
open PySem PySem.Spec PyProof.Rows
section
variable {ι : Type} {F : Fam ι} {e a b c : Expr} {es : List Expr} {ρ : En} {t ta tb' : Tr} {ts : List Tr} {pos : Pos}
theorem Rn.to {st : Stmt} {ρ1 ρ2 : En} (h : Rn F st ρ (.nx ρ1)) (e : ρ1 = ρ2) : Rn F st ρ (.nx ρ2) := e ▸ h
theorem rn_set_pop (j j2 : Nat) {x y : Str} {ws : List Tr} {d : Dv} {n : Int} {m : Nat} {nE : Expr} {pos' p4 p5 p6 : Pos} (hjj : j ≠ j2) (h2 : ρ[j2]? = some (some (.ow ws))) (hn : EvS F nE ρ (ti n)) (hm : ixN ws.length n = some m) (hb : -(2 ^ 62) ≤ n ∧ n < 2 ^ 62) (hu : ws[m]? = some (.fz d)) (hN : ∀ i, (F.cx i).N.Nodup)
    (hj : Nat.blt j ρ.length = true := by rfl) (hi : ∀ i, (F.cx i).N[j]? = some x := by intro _; rfl) (hN2 : ∀ i, (F.cx i).N[j2]? = some y := by intro _; rfl)
    (hx : ∀ i, Loc (F.cx i).env.scope x := by intro _; first | exact Or.inl rfl | exact Or.inr rfl) (hv2 : ∀ i, Vis (F.cx i).env.scope y := by intro _; first | exact Or.inl rfl | exact Or.inr (Or.inl rfl) | exact Or.inr (Or.inr rfl))
    (hd2 : (y == ("__debug__" : Str)) = false := by decide) (hc2 : (y == ("__classdict__" : Str)) = false := by decide)
    (hbase2 : ∀ i, attributeBase (.Name y p4) "pop" (F.cx i).env (eval (.Name y p4) (F.cx i).env) = eval (.Name y p4) (F.cx i).env := by intro _; rfl)
    (hfew2 : ∀ i, ((backTo p6 (starEach [nE] (F.cx i).env)).all (fun x => !x.1) && (backToKw p6 (keywordEach [] (F.cx i).env)).all (fun x => x.1.isSome) && decide (([nE] : List Expr).length + ([] : List Keyword).length + (if ([] : List Keyword).isEmpty then 0 else 1) < 30)) = true := by intro _; rfl)
    (hline2 : (p5.endLine == p6.line) = true := by rfl) (hs2 : ∀ i, starEach [nE] (F.cx i).env = [(false, eval nE (F.cx i).env)] := by intro _; rfl)
    (hs : ∀ i, swapsWith (.Call (.Attribute (.Name y p4) "pop" p5) [nE] [] p6) (some (.Name x pos')) pos.line (F.cx i).env = pure false := by intro _; rfl) (hf : ∀ i, (F.cx i).fn x = true ∨ (F.cx i).env.scope.names.lookup x = some .local := by intro _; first | exact .inl rfl | exact .inr rfl) :
    Rn F (.Assign [.Name x pos'] (.Call (.Attribute (.Name y p4) "pop" p5) [nE] [] p6) pos) ρ (.nx ((ρ.set j2 (some (.ow (ws.eraseIdx m)))).set j (some (.fz d)))) := by
  obtain ⟨τn, yn, zn⟩ := hn
  refine ⟨tAsg (tBM F.K "list" rPopAt (tVar j2) (tCons τn tNil)) (gName j), fun i => ps_set (hN i) (hi i) (hx i) (F.hK i ▸ pe_bm PySem.F.plainAttrs_list PySem.F.slot_list_pop PySem.F.type_list_pop mt_popAt (pe_var (hN2 i) (hv2 i) hd2 hc2) (pa_cons (yn i) pa_nil (hs2 i)) (hbase2 i) (hfew2 i) hline2 (hs2 i) rfl) (hs i) (hf i), fun D σ G0 H0 G H r k => ?_⟩
  obtain ⟨fp, r⟩ := r
  obtain ⟨l2, vs2, fq2, e1, e2, _⟩ := r.mut h2 (.refl r.st.s)
  refine ⟨_, e1, .inl ⟨rfl, _, SqL.of e2⟩, ?_⟩
  refine zn σ G H fp _ r.st.s r.own r.g fun vn G1 H1 f1 s1 o1 w1 => ?_
  obtain ⟨l, vs, fq, d1, d2, d3, d4, d5, d6, d7⟩ := r.mut h2 s1
  rw [e1] at d1
  cases d1
  obtain ⟨v, f, fw, g1, g2, g3, g4, g5, g6, g7, g8⟩ := d4.erase hu d5
  obtain ⟨rfl, hv'⟩ := g2
  obtain ⟨ix1, ix2, ix3, ix4⟩ := ixN_seq hm
  refine ⟨l2, vs, n, m, v, rfl, by rw [hvi o1.2], d3, by omega, by omega, by rw [← d4.length]; exact ix1, g1, ?_⟩
  have r2 := d7 (ws.eraseIdx m) (vs.eraseIdx m) fw g3 g4 fun a ha => .inl (g6 a ha)
  obtain ⟨fp2, r2⟩ := r2
  have hj' : j < (ρ.set j2 (some (.ow (ws.eraseIdx m)))).length := by rw [List.length_set]; exact Nat.le_of_ble_eq_true hj
  exact k _ G1 _ (r2.set hj' (.refl r2.st.s) ⟨rfl, hv'⟩ .nil)
end
end L2
namespace L2
open PySem PySem.Spec PyProof.Rows
section
variable {ι : Type} {F : Fam ι} {ρ : En} {t : Tr} {c : Expr} {A sts : List Stmt} {pos : Pos}
theorem rns_ifr {p : Bool} (hc : EtS F c ρ p) (h1 : p = true → Rns F A ρ (.rt t)) (h2 : p = false → Rns F sts ρ (.rt t)) : Rns F (.If c A [] pos :: sts) ρ (.rt t) := by
  cases p with
  | true => exact rns_ret (rn_ifT hc rfl (h1 rfl))
  | false => exact rns_cons (rn_skip hc rfl) (h2 rfl)
end
end L2
namespace L2
open PySem PySem.Spec PyProof.Rows
theorem EtS.to {ι : Type} {F : Fam ι} {e : Expr} {ρ : En} {p q : Bool} (h : EtS F e ρ p) (z : p = q) : EtS F e ρ q := z ▸ h
theorem Rns.to {ι : Type} {F : Fam ι} {sts : List Stmt} {ρ : En} {o o' : Out} (h : Rns F sts ρ o) (z : o = o') : Rns F sts ρ o' := z ▸ h
end L2
namespace L2
open PySem PySem.Spec PyProof.Rows
theorem below_cut_go (xs : Array Nat) (j k : Nat) (h0 : ∀ i, i < k → i < xs.size → xs.getD i j < j) (h9 : ∀ i, k ≤ i → i < xs.size → ¬ xs.getD i j < j) : ∀ fuel lo hi, hi ≤ xs.size → lo ≤ k → k ≤ hi → hi - lo ≤ fuel → SetTable.below.go xs j fuel lo hi = k
  | 0, lo, hi, _, h2, h3, h4 => by
    have : lo = k := by omega
    subst this
    rfl
  | fuel + 1, lo, hi, h1, h2, h3, h4 => by
    unfold SetTable.below.go
    by_cases h : lo < hi
    · rw [if_pos h]
      dsimp only
      by_cases hm : (lo + hi) / 2 < k
      · rw [if_pos (h0 _ hm (by omega))]
        exact below_cut_go xs j k h0 h9 fuel _ hi h1 (by omega) h3 (by omega)
      · rw [if_neg (h9 _ (by omega) (by omega))]
        exact below_cut_go xs j k h0 h9 fuel lo _ (by omega) h2 (by omega) (by omega)
    · rw [if_neg h]
      omega
theorem below_cut {xs : Array Nat} {j k : Nat} (hk : k ≤ xs.size) (h0 : ∀ i, i < k → i < xs.size → xs.getD i j < j) (h9 : ∀ i, k ≤ i → i < xs.size → ¬ xs.getD i j < j) : SetTable.below xs j = k :=
  below_cut_go xs j k h0 h9 _ 0 _ (Nat.le_refl _) (Nat.zero_le _) hk (by omega)
theorem getD_list (ns : List Nat) (i j : Nat) : ns.toArray.getD i j = ns.getD i j := by
  simp [Array.getD, List.getD]
  split <;> simp_all
section
variable {prog : Program} {w : World} {A : Around} {E : Value → Shared → Prop} {s : Shared} {R : Result → Shared → Prop} {I : Addr} {fp wr : List Addr} {n : Nat} {P : Nat → Value → Prop} {St : Nat → Heap → Prop}
theorem new_small (a : Value) {Q₁ : Value → Shared → Prop}
    (h : Q₁ (.ref s.heap.objs.size) { s with heap := s.heap.push { cls := .type "set", dict := none, data := .set #[] 0 (.fresh 0 0 (!w.params.followText "set-order")) } }) :
    codeAny (model prog w) A (.call (.builtin "set.__new__") ⟨[.type "set", a], []⟩) (wants Q₁ E) s := by
  refine codeAny_of_tree ?_
  show wpAny _ A.in1 (do checkBuiltinCall "set.__new__" ⟨[.type "set", a], []⟩; again (.builtin "set.__new__" ⟨[.type "set", a], []⟩)) _ _ s
  refine wpAny_bind (wpAny_of_eq (F.newCall_set_1 a) (wpAny_pure ⟨plainId_quiet F.plain_set_new _, codeAny_builtin F.entry_set_new ?_⟩))
  rw [Around.under_plainId F.plain_set_new _]
  unfold Builtin.«set.__new__» Builtin.Frozenset.newClass
  have hsub := sub_set_self
  obtain ⟨hp, g, d, tk, os⟩ := s
  dsimp only
  wp_walk
  refine wpAny_askSetting (wpAny_pure ?_)
  dsimp only
  simp only [newObj]
  refine wpAny_bind (wpAny_alloc (wpAny_pure ?_))
  exact wpAny_pure h
end
section
variable {prog : Program} {w : World} {A : Around} {E : Value → Shared → Prop} {s : Shared}
def setO (b : Bool) : Obj := { cls := .type "set", dict := none, data := .set #[] 0 (.fresh 0 0 b) }
end
theorem slot_sit_next : Slot "set_iterator" "__next__" "set_iterator.__next__" :=
  .of (owner := "set_iterator") (n := "__next__") (by rw [typeLookup_type, builtinLookup_eq_fast]; kernel_rfl) (by decide +kernel) (by decide +kernel) (by decide +kernel)
    (by first | exact .inl (by decide +kernel) | exact .inr (by decide +kernel)) (by rw [isSubtype_type]; kernel_rfl)
theorem entry_sit_next : entryFor table "set_iterator.__next__" = some Builtin.«set_iterator.__next__» := entryFor_of_tree (by kernel_rfl)
theorem owner_sit : Manifest.owners.lookup (String.ofList ['r', 'o', 't', 'a', 'r', 'e', 't', 'i', '_', 't', 'e', 's'].reverse) = some Manifest.sig_set_iterator := by kernel_rfl
theorem args_sit_next (a : Value) : argsOk "set_iterator.__next__" ⟨[a], []⟩ := by
  unfold argsOk; rw [signature?_of (id := "set_iterator.__next__") (n := ['_', '_', 't', 'x', 'e', 'n', '_', '_']) (o := ['r', 'o', 't', 'a', 'r', 'e', 't', 'i', '_', 't', 'e', 's']) (by kernel_rfl) owner_sit]; kernel_rfl
theorem slot_sit_iter : Slot "set_iterator" "__iter__" "set_iterator.__iter__" :=
  .of (owner := "set_iterator") (n := "__iter__") (by rw [typeLookup_type, builtinLookup_eq_fast]; kernel_rfl) (by decide +kernel) (by decide +kernel) (by decide +kernel)
    (by first | exact .inl (by decide +kernel) | exact .inr (by decide +kernel)) (by rw [isSubtype_type]; kernel_rfl)
theorem entry_sit_iter : entryFor table "set_iterator.__iter__" = some Builtin.«dict_keyiterator.__iter__» :=
  entryFor_alias (id' := "dict_keyiterator.__iter__") (by kernel_rfl) rfl (by decide +kernel) (by kernel_rfl)
theorem args_sit_iter (a : Value) : argsOk "set_iterator.__iter__" ⟨[a], []⟩ := by
  unfold argsOk; rw [signature?_of (id := "set_iterator.__iter__") (n := ['_', '_', 'r', 'e', 't', 'i', '_', '_']) (o := ['r', 'o', 't', 'a', 'r', 'e', 't', 'i', '_', 't', 'e', 's']) (by kernel_rfl) owner_sit]; kernel_rfl
theorem entry_set_iter : entryFor table "set.__iter__" = some Builtin.«frozenset.__iter__» :=
  entryFor_alias (id' := "frozenset.__iter__") (by kernel_rfl) rfl (by decide +kernel) (by kernel_rfl)
theorem pick_go {α : Type} (next : Nat → Nat) : ∀ (fuel k : Nat) (left : List α) (out : Array α), fuel = left.length → (pickOrder.go next fuel k left out).toList.Perm (out.toList ++ left)
  | 0, k, left, out, h => by
    have : left = [] := List.eq_nil_of_length_eq_zero h.symm
    subst this
    unfold pickOrder.go
    rw [List.append_nil]
  | fuel + 1, k, left, out, h => by
    have hlt : next k % left.length < left.length := Nat.mod_lt _ (by omega)
    unfold pickOrder.go
    rw [List.getElem?_eq_getElem hlt]
    dsimp only
    have ih := pick_go next fuel (k + 1) (left.eraseIdx (next k % left.length)) (out.push left[next k % left.length]) (by rw [List.length_eraseIdx_of_lt hlt]; omega)
    refine ih.trans ?_
    rw [Array.toList_push, List.append_assoc]
    refine List.Perm.append_left _ ?_
    have e : left = left.take (next k % left.length) ++ left[next k % left.length] :: left.drop (next k % left.length + 1) := by rw [List.getElem_cons_drop, List.take_append_drop]
    conv => rhs; rw [e]
    rw [List.eraseIdx_eq_take_drop_succ]
    rw [List.singleton_append]
    exact (List.perm_middle (a := left[next k % left.length])).symm
theorem pick_perm {α : Type} (next : Nat → Nat) (xs : Array α) : (pickOrder next xs).toList.Perm xs.toList := by
  have := pick_go next xs.size 0 xs.toList #[] (by simp)
  simpa [pickOrder] using this
section
variable {prog : Program} {w : World} {A : Around} {E : Value → Shared → Prop} {s : Shared}
theorem hint_set {r : Addr} {Q : Bool → Shared → Prop} (hT : s.TypeIs (.ref r) "set") (h : Q false s) : wpAny (model prog w) A (Builtin.List.listLengthHint (.ref r)) Q E s := by
  unfold Builtin.List.listLengthHint
  refine wpAny_bind (wpAny_specialOf hT PySem.F.slot_set_len.lookup ?_)
  generalize hid : ("set.__len__" : String) = id0
  wp_delta
  rw [show splitId id0 = some ("set", "__len__") from by subst hid; decide +kernel]
  subst hid
  refine wpAny_bind (wpAny_isInstance (T := "set") (b := true) hT (by rw [isSubtype_type]; kernel_rfl) ?_)
  refine wpAny_ite_split (fun hab => absurd hab (by decide)) (fun _ => ?_)
  refine wpAny_ite_split (fun _ => ?_) (fun hab => absurd (by decide +kernel) hab)
  refine wpAny_bind (wpAny_typeOf hT ?_)
  exact wpAny_pure h
end
end L2
namespace So
open PySem PyProof.Rows
abbrev GC := Option (Option Nat) × Nat × Nat
abbrev SM := StateT SortSt Sem
def galP : Bool → Keyed → Array Keyed → Nat → Nat → Nat → SM (Option Nat) := sortPriv% PySem.Builtin.gallop
def mLo : Array Keyed → Array Keyed → SM (Array Keyed) := sortPriv% PySem.Builtin.mergeLo
def mHi : Array Keyed → Array Keyed → SM (Array Keyed) := sortPriv% PySem.Builtin.mergeHi
def byOf (left : Bool) (key : Keyed) (arr : Array Keyed) (base i : Nat) : SM (Option Bool) := do
  let x ← elem' arr (base + i)
  if left = true then lt' x key else do
    let r ← lt' key x
    pure (r.map fun b => !b)
section
variable {prog : Program} {w : World} {A : Around} {E : Value → Shared → Prop} {s : Shared}
theorem wpS_gal {left : Bool} {key : Keyed} {arr : Array Keyed} {base n hint : Nat} {st : SortSt} {Q : Option Nat → SortSt → Prop} (p : Nat → Bool)
    (hby : ∀ (i : Nat) (Q : Option Bool → SortSt → Prop), i < n → Q (some (p i)) st → wpS (model prog w) A E s (byOf left key arr base i) Q st)
    (mono : ∀ i j, i ≤ j → j < n → p j = true → p i = true) (hh : hint < n)
    (h : ∀ k, k ≤ n → (∀ i, i < k → p i = true) → (∀ i, k ≤ i → i < n → p i = false) → Q (some k) st) :
    wpS (model prog w) A E s (galP left key arr base n hint) Q st := by
  have mono' : ∀ i j, i ≤ j → j < n → p i = false → p j = false := fun i j h1 h2 h3 => by
    cases e : p j with
    | false => rfl
    | true => rw [mono i j h1 h2 e] at h3; cases h3
  refine wpS_bind (hby hint _ hh ?_)
  dsimp only
  have bin : ∀ lo hi, lo ≤ hi → hi ≤ n → (∀ i, i < lo → p i = true) → (∀ i, hi ≤ i → i < n → p i = false) →
      ∀ f : Nat → GC → SM (ForInStep GC), (∀ (x lo hi : Nat) (Q : ForInStep GC → SortSt → Prop), hi ≤ n →
        (hi ≤ lo → Q (.done (none, lo, hi)) st) → (lo < hi → p (lo + (hi - lo) / 2) = true → Q (.yield (none, lo + (hi - lo) / 2 + 1, hi)) st) → (lo < hi → p (lo + (hi - lo) / 2) = false → Q (.yield (none, lo, lo + (hi - lo) / 2)) st) →
        wpS (model prog w) A E s (f x (none, lo, hi)) Q st) →
      wpS (model prog w) A E s (forIn [0:n] ((none, lo, hi) : GC) f) (fun c st' => st' = st ∧ ∃ lo, c = (none, lo, lo) ∧ lo ≤ n ∧ (∀ i, i < lo → p i = true) ∧ (∀ i, lo ≤ i → i < n → p i = false)) st := by
    intro lo hi h1 h2 h3 h4 f hf
    refine wpS_forRange (I := fun x c st' => st' = st ∧ ∃ lo hi, c = (none, lo, hi) ∧ lo ≤ hi ∧ hi ≤ n ∧ hi - lo ≤ n - x ∧ (∀ i, i < lo → p i = true) ∧ (∀ i, hi ≤ i → i < n → p i = false)) ?_ ?_ ⟨rfl, lo, hi, rfl, h1, h2, by omega, h3, h4⟩
    · rintro x c st' _ hx ⟨rfl, lo, hi, rfl, a1, a2, a3, a4, a5⟩
      refine hf x lo hi _ a2 (fun z => ?_) (fun z e => ?_) (fun z e => ?_)
      · have : lo = hi := by omega
        subst this
        exact ⟨rfl, lo, rfl, a2, a4, a5⟩
      · exact ⟨rfl, _, _, rfl, by omega, a2, by omega, fun i hi' => mono i (lo + (hi - lo) / 2) (by omega) (by omega) e, a5⟩
      · exact ⟨rfl, _, _, rfl, by omega, by omega, by omega, a4, fun i b1 b2 => mono' (lo + (hi - lo) / 2) i b1 b2 e⟩
    · rintro c st' ⟨rfl, lo, hi, rfl, a1, a2, a3, a4, a5⟩
      have : lo = hi := by omega
      subst this
      exact ⟨rfl, lo, rfl, a2, a4, a5⟩
  cases hp : p hint with
  | true =>
    simp only [if_true]
    refine wpS_bind (wpS_mono (wpS_forRange (I := fun x c st' => st' = st ∧ ∃ l o, c = (none, l, o) ∧ o = 2 * l + 1 ∧ x ≤ l ∧ hint + l < n ∧ p (hint + l) = true)
      (Q := fun c st' => st' = st ∧ ∃ l o, c = (none, l, o) ∧ l < o ∧ hint + l < n ∧ p (hint + l) = true ∧ (n - hint ≤ o ∨ p (hint + o) = false)) ?_ ?_ ⟨rfl, 0, 1, rfl, rfl, Nat.le_refl _, hh, hp⟩) ?_)
    · rintro x c st' _ hx ⟨rfl, l, o, rfl, a1, a2, a3, a4⟩
      dsimp only
      by_cases hge : o ≥ n - hint
      · rw [if_pos hge]
        exact wpS_pure ⟨rfl, l, o, rfl, by omega, a3, a4, .inl hge⟩
      · rw [if_neg hge]
        refine wpS_bind (hby (hint + o) _ (by omega) ?_)
        dsimp only
        cases e : p (hint + o) with
        | true =>
          simp only [Bool.not_true, Bool.false_eq_true, if_false]
          exact wpS_pure ⟨rfl, o, 2 * o + 1, rfl, rfl, by omega, by omega, e⟩
        | false =>
          simp only [Bool.not_false, if_true]
          exact wpS_pure ⟨rfl, l, o, rfl, by omega, a3, a4, .inr e⟩
    · rintro c st' ⟨rfl, l, o, rfl, a1, a2, a3, a4⟩
      exact ⟨rfl, l, o, rfl, by omega, a3, a4, .inl (by omega)⟩
    · rintro c st' ⟨rfl, l, o, rfl, a1, a2, a3, a4⟩
      dsimp only
      refine wpS_bind (wpS_mono (bin (hint + l + 1) (hint + min o (n - hint)) (by omega) (by omega) (fun i hi => mono i (hint + l) (by omega) (by omega) a3) (fun i b1 b2 => ?_) _ (fun x lo hi Q hn k1 k2 k3 => ?_)) ?_)
      · rcases a4 with z | z
        · omega
        · by_cases ho : hint + o ≤ i
          · exact mono' (hint + o) i ho b2 z
          · omega
      · dsimp only
        by_cases hge : lo ≥ hi
        · rw [if_pos hge]; exact wpS_pure (k1 hge)
        · rw [if_neg hge]
          refine wpS_bind (hby _ _ (by omega) ?_)
          dsimp only
          cases e : p (lo + (hi - lo) / 2) with
          | true => simp only [if_true]; exact wpS_pure (k2 (by omega) e)
          | false => simp only [Bool.false_eq_true, if_false]; exact wpS_pure (k3 (by omega) e)
      · rintro c st' ⟨rfl, lo, rfl, b1, b2, b3⟩
        exact wpS_pure (h lo b1 b2 b3)
  | false =>
    simp only [Bool.false_eq_true, if_false]
    refine wpS_bind (wpS_mono (wpS_forRange (I := fun x c st' => st' = st ∧ ∃ l o, c = (none, l, o) ∧ o = 2 * l + 1 ∧ x ≤ l ∧ l ≤ hint ∧ p (hint - l) = false)
      (Q := fun c st' => st' = st ∧ ∃ l o, c = (none, l, o) ∧ l < o ∧ l ≤ hint ∧ p (hint - l) = false ∧ (hint + 1 ≤ o ∨ (o ≤ hint ∧ p (hint - o) = true))) ?_ ?_ ⟨rfl, 0, 1, rfl, rfl, Nat.le_refl _, Nat.zero_le _, hp⟩) ?_)
    · rintro x c st' _ hx ⟨rfl, l, o, rfl, a1, a2, a3, a4⟩
      dsimp only
      by_cases hge : o ≥ hint + 1
      · rw [if_pos hge]
        exact wpS_pure ⟨rfl, l, o, rfl, by omega, a3, a4, .inl hge⟩
      · rw [if_neg hge]
        refine wpS_bind (hby (hint - o) _ (by omega) ?_)
        dsimp only
        cases e : p (hint - o) with
        | true =>
          simp only [if_true]
          exact wpS_pure ⟨rfl, l, o, rfl, by omega, a3, a4, .inr ⟨by omega, e⟩⟩
        | false =>
          simp only [Bool.false_eq_true, if_false]
          exact wpS_pure ⟨rfl, o, 2 * o + 1, rfl, rfl, by omega, by omega, e⟩
    · rintro c st' ⟨rfl, l, o, rfl, a1, a2, a3, a4⟩
      exact ⟨rfl, l, o, rfl, by omega, a3, a4, .inl (by omega)⟩
    · rintro c st' ⟨rfl, l, o, rfl, a1, a2, a3, a4⟩
      dsimp only
      refine wpS_bind (wpS_mono (bin (hint + 1 - min o (hint + 1)) (hint - l) (by omega) (by omega) (fun i hi => ?_) (fun i b1 b2 => mono' (hint - l) i b1 b2 a3) _ (fun x lo hi Q hn k1 k2 k3 => ?_)) ?_)
      · rcases a4 with z | z
        · omega
        · exact mono i (hint - o) (by omega) (by omega) z.2
      · dsimp only
        by_cases hge : lo ≥ hi
        · rw [if_pos hge]; exact wpS_pure (k1 hge)
        · rw [if_neg hge]
          refine wpS_bind (hby _ _ (by omega) ?_)
          dsimp only
          cases e : p (lo + (hi - lo) / 2) with
          | true => simp only [if_true]; exact wpS_pure (k2 (by omega) e)
          | false => simp only [Bool.false_eq_true, if_false]; exact wpS_pure (k3 (by omega) e)
      · rintro c st' ⟨rfl, lo, rfl, b1, b2, b3⟩
        exact wpS_pure (h lo b1 b2 b3)
end
end So
namespace So
open PySem PyProof.Rows
section
variable {κ : KeyKind}
def kf (κ : KeyKind) (x : Keyed) : κ.α := (κ.keyOf x.1).getD κ.dflt
def Srt (κ : KeyKind) (l : List Keyed) : Prop := l.Pairwise fun x y => κ.kle (kf κ x) (kf κ y)
def Kd (κ : KeyKind) (l : List Keyed) : Prop := ∀ x ∈ l, (κ.keyOf x.1).isSome = true
structure MI (κ : KeyKind) (a b out : List Keyed) (ia ib : Nat) : Prop where
  p : (out ++ (a.drop ia ++ b.drop ib)).Perm (a ++ b)
  x : Srt κ (out ++ a.drop ia)
  y : Srt κ (out ++ b.drop ib)
def Gd (κ : KeyKind) (a b m : List Keyed) : Prop := m.Perm (a ++ b) ∧ Srt κ m
variable {a b out : List Keyed} {ia ib : Nat}
theorem srt_app {l r : List Keyed} : Srt κ (l ++ r) ↔ Srt κ l ∧ Srt κ r ∧ ∀ x ∈ l, ∀ y ∈ r, κ.kle (kf κ x) (kf κ y) := List.pairwise_append
theorem MI.doneB (h : MI κ a b out ia ib) (hb : b.length ≤ ib) : Gd κ a b (out ++ a.drop ia ++ b.drop ib) := by
  have e : b.drop ib = [] := List.drop_eq_nil_of_le hb
  have p := h.p
  rw [e, List.append_nil] at p ⊢
  exact ⟨p, h.x⟩
theorem MI.doneA (h : MI κ a b out ia ib) (ha : a.length ≤ ia) : Gd κ a b (out ++ a.drop ia ++ b.drop ib) := by
  have e : a.drop ia = [] := List.drop_eq_nil_of_le ha
  have p := h.p
  rw [e, List.nil_append] at p
  rw [e, List.append_nil]
  exact ⟨p, h.y⟩
theorem MI.lastA (h : MI κ a b out ia ib) (hl : ∀ x ∈ b.drop ib, ∀ y ∈ a.drop ia, κ.kle (kf κ x) (kf κ y)) : Gd κ a b (out ++ b.drop ib ++ a.drop ia) := by
  refine ⟨?_, ?_⟩
  · refine List.Perm.trans ?_ h.p
    rw [List.append_assoc]
    exact List.Perm.append_left _ List.perm_append_comm
  · have hx := srt_app.mp h.x
    refine srt_app.mpr ⟨h.y, hx.2.1, fun x hx' y hy => ?_⟩
    rcases List.mem_append.mp hx' with z | z
    · exact hx.2.2 x z y hy
    · exact hl x z y hy
theorem MI.stepA (h : MI κ a b out ia ib) (k : Nat) (hl : ∀ x ∈ (a.drop ia).take k, ∀ y ∈ b.drop ib, κ.kle (kf κ x) (kf κ y)) : MI κ a b (out ++ (a.drop ia).take k) (ia + k) ib := by
  have e : (a.drop ia).take k ++ a.drop (ia + k) = a.drop ia := by rw [← List.drop_drop]; exact List.take_append_drop k _
  have hy := srt_app.mp h.y
  have hx := srt_app.mp h.x
  refine ⟨?_, ?_, ?_⟩
  · have := h.p
    rw [← e] at this
    rw [List.append_assoc]
    rw [List.append_assoc] at this
    exact this
  · rw [List.append_assoc, e]; exact h.x
  · rw [srt_app, srt_app]
    have hs : Srt κ ((a.drop ia).take k) := List.Pairwise.sublist (List.take_sublist k _) hx.2.1
    refine ⟨⟨hy.1, hs, fun x hx' y hy' => hx.2.2 x hx' y (List.mem_of_mem_take hy')⟩, hy.2.1, fun x hx' y hy' => ?_⟩
    rcases List.mem_append.mp hx' with z | z
    · exact hy.2.2 x z y hy'
    · exact hl x z y hy'
theorem MI.stepB (h : MI κ a b out ia ib) (k : Nat) (hl : ∀ x ∈ (b.drop ib).take k, ∀ y ∈ a.drop ia, κ.kle (kf κ x) (kf κ y)) : MI κ a b (out ++ (b.drop ib).take k) ia (ib + k) := by
  have e : (b.drop ib).take k ++ b.drop (ib + k) = b.drop ib := by rw [← List.drop_drop]; exact List.take_append_drop k _
  have hy := srt_app.mp h.y
  have hx := srt_app.mp h.x
  refine ⟨?_, ?_, ?_⟩
  · refine List.Perm.trans ?_ h.p
    generalize (b.drop ib).take k = B1 at e
    generalize b.drop (ib + k) = B2 at e
    rw [← e]
    generalize a.drop ia = A1
    rw [List.append_assoc]
    refine List.Perm.append_left _ ?_
    rw [← List.append_assoc, ← List.append_assoc]
    exact List.Perm.append_right _ List.perm_append_comm
  · rw [srt_app, srt_app]
    have hs : Srt κ ((b.drop ib).take k) := List.Pairwise.sublist (List.take_sublist k _) hy.2.1
    refine ⟨⟨hx.1, hs, fun x hx' y hy' => hy.2.2 x hx' y (List.mem_of_mem_take hy')⟩, hx.2.1, fun x hx' y hy' => ?_⟩
    rcases List.mem_append.mp hx' with z | z
    · exact hx.2.2 x z y hy'
    · exact hl x z y hy'
  · rw [List.append_assoc, e]; exact h.y
theorem drop_at {l : List Keyed} {i : Nat} {x : Keyed} (h : l[i]? = some x) : l.drop i = x :: l.drop (i + 1) := by
  obtain ⟨h1, rfl⟩ := List.getElem?_eq_some_iff.mp h
  exact List.drop_eq_getElem_cons h1
theorem srt_head {l : List Keyed} {i : Nat} {x : Keyed} (h : Srt κ (l.drop i)) (e : l[i]? = some x) : ∀ y ∈ l.drop i, κ.kle (kf κ x) (kf κ y) := fun y hy => by
  rw [drop_at e] at h hy
  rcases List.mem_cons.mp hy with rfl | z
  · exact KeyOrd.kle_refl _
  · exact (List.pairwise_cons.mp h).1 y z
theorem MI.one_a {y : Keyed} (h : MI κ a b out ia ib) (e : a[ia]? = some y) (hl : ∀ z ∈ b.drop ib, κ.kle (kf κ y) (kf κ z)) : MI κ a b (out ++ [y]) (ia + 1) ib := by
  have := h.stepA 1 (by rw [drop_at e]; intro x hx z hz; rw [List.take_succ_cons, List.take_zero, List.mem_singleton] at hx; rw [hx]; exact hl z hz)
  rw [drop_at e] at this
  exact this
theorem MI.one_b {y : Keyed} (h : MI κ a b out ia ib) (e : b[ib]? = some y) (hl : ∀ z ∈ a.drop ia, κ.kle (kf κ y) (kf κ z)) : MI κ a b (out ++ [y]) ia (ib + 1) := by
  have := h.stepB 1 (by rw [drop_at e]; intro x hx z hz; rw [List.take_succ_cons, List.take_zero, List.mem_singleton] at hx; rw [hx]; exact hl z hz)
  rw [drop_at e] at this
  exact this
end
abbrev setGal (st : SortSt) (g : Nat) : SortSt := SortSt.mk' (kindOf st) (arrOf st) (pendingOf st) g (failedOf st)
theorem ext_end {α : Type} (a : Array α) (i : Nat) : (a.extract i a.size).toList = a.toList.drop i := by
  rw [Array.toList_extract, List.extract_eq_take_drop, List.take_of_length_le (by rw [List.length_drop, Array.length_toList]; omega)]
theorem ext_mid {α : Type} (a : Array α) (i k : Nat) : (a.extract i (i + k)).toList = (a.toList.drop i).take k := by simp [List.extract_eq_take_drop]
structure Cmp (prog : Program) (w : World) (A : Around) (E : Value → Shared → Prop) (s : Shared) (kd : SortKind) (κ : KeyKind) : Prop where
  lt : ∀ (st : SortSt) (x y : Keyed) (Q : Option Bool → SortSt → Prop), kindOf st = kd → (κ.keyOf x.1).isSome = true → (κ.keyOf y.1).isSome = true → Q (some (κ.blt (kf κ x) (kf κ y))) st → wpS (model prog w) A E s (lt' x y) Q st
section
variable {prog : Program} {w : World} {A : Around} {E : Value → Shared → Prop} {s : Shared} {kd : SortKind} {κ : KeyKind}
theorem wpS_elem {arr : Array Keyed} {i : Nat} {x : Keyed} {st : SortSt} {Q : Keyed → SortSt → Prop} (e : arr[i]? = some x) (h : Q x st) : wpS (model prog w) A E s (elem' arr i) Q st := by
  rw [elem'_eq, e]; exact wpS_pure h
theorem byL (C : Cmp prog w A E s kd κ) {key x : Keyed} {arr : Array Keyed} {base i : Nat} {st : SortSt} {Q : Option Bool → SortSt → Prop} (hk : kindOf st = kd) (e : arr[base + i]? = some x) (k1 : (κ.keyOf key.1).isSome = true) (k2 : (κ.keyOf x.1).isSome = true) (h : Q (some (κ.blt (kf κ x) (kf κ key))) st) :
    wpS (model prog w) A E s (byOf true key arr base i) Q st := by
  unfold byOf
  refine wpS_bind (wpS_elem e ?_)
  rw [if_pos rfl]
  exact C.lt st x key _ hk k2 k1 h
theorem byR (C : Cmp prog w A E s kd κ) {key x : Keyed} {arr : Array Keyed} {base i : Nat} {st : SortSt} {Q : Option Bool → SortSt → Prop} (hk : kindOf st = kd) (e : arr[base + i]? = some x) (k1 : (κ.keyOf key.1).isSome = true) (k2 : (κ.keyOf x.1).isSome = true) (h : Q (some (!κ.blt (kf κ key) (kf κ x))) st) :
    wpS (model prog w) A E s (byOf false key arr base i) Q st := by
  unfold byOf
  refine wpS_bind (wpS_elem e ?_)
  rw [if_neg (by decide)]
  exact wpS_bind (C.lt st key x _ hk k1 k2 (wpS_pure h))
def kA (κ : KeyKind) (arr : Array Keyed) (i : Nat) : κ.α := match arr[i]? with | some x => kf κ x | none => κ.dflt
theorem kA_at {arr : Array Keyed} {i : Nat} {x : Keyed} (e : arr[i]? = some x) : kA κ arr i = kf κ x := by unfold kA; rw [e]
theorem at_lt {α : Type} {arr : Array α} {i : Nat} (h : i < arr.size) : ∃ x, arr[i]? = some x ∧ x ∈ arr.toList := ⟨arr[i], getElem?_pos arr i h, by simp⟩
theorem srt_kA {arr : Array Keyed} (h : Srt κ arr.toList) {i j : Nat} (hij : i ≤ j) (hj : j < arr.size) : κ.kle (kA κ arr i) (kA κ arr j) := by
  have li : i < arr.toList.length := by rw [Array.length_toList]; omega
  have lj : j < arr.toList.length := by rw [Array.length_toList]; omega
  have ei : arr[i]? = some arr.toList[i] := by rw [← Array.getElem?_toList, List.getElem?_eq_getElem li]
  have ej : arr[j]? = some arr.toList[j] := by rw [← Array.getElem?_toList, List.getElem?_eq_getElem lj]
  rw [kA_at ei, kA_at ej]
  rcases Nat.lt_or_ge i j with z | z
  · exact List.pairwise_iff_getElem.mp h i j li lj z
  · have : i = j := by omega
    subst this
    exact KeyOrd.kle_refl _
theorem mem_mid {arr : Array Keyed} {i k : Nat} {x : Keyed} (h : x ∈ (arr.toList.drop i).take k) : ∃ j, j < k ∧ arr[i + j]? = some x := by
  obtain ⟨n, hn, e⟩ := List.getElem_of_mem h
  rw [List.length_take] at hn
  refine ⟨n, by omega, ?_⟩
  rw [← Array.getElem?_toList, ← List.getElem?_drop, ← e]
  rw [List.getElem_take, List.getElem?_eq_getElem]
theorem wpS_right (C : Cmp prog w A E s kd κ) {key : Keyed} {arr : Array Keyed} {base n hint : Nat} {st : SortSt} {Q : Option Nat → SortSt → Prop} (hk : kindOf st = kd) (k1 : (κ.keyOf key.1).isSome = true) (ka : Kd κ arr.toList) (hn : base + n ≤ arr.size) (hh : hint < n)
    (srt : ∀ i j, i ≤ j → j < n → κ.kle (kA κ arr (base + i)) (kA κ arr (base + j)))
    (h : ∀ k, k ≤ n → (∀ i, i < k → κ.kle (kA κ arr (base + i)) (kf κ key)) → (∀ i, k ≤ i → i < n → κ.klt (kf κ key) (kA κ arr (base + i))) → Q (some k) st) :
    wpS (model prog w) A E s (galP false key arr base n hint) Q st := by
  refine wpS_gal (fun i => !κ.blt (kf κ key) (kA κ arr (base + i))) (fun i Q hi hq => ?_) (fun i j hij hj e => ?_) hh (fun k hk' h1 h2 => h k hk' (fun i hi => ?_) (fun i b1 b2 => ?_))
  · obtain ⟨x, ex, mx⟩ := at_lt (arr := arr) (i := base + i) (by omega)
    rw [kA_at ex] at hq
    exact byR C hk ex k1 (ka x mx) hq
  · have e' : κ.blt (kf κ key) (kA κ arr (base + j)) = false := by simpa using e
    have : κ.kle (kA κ arr (base + i)) (kf κ key) := KeyOrd.kle_trans (srt i j hij hj) e'
    unfold KeyOrd.kle at this
    rw [this]; rfl
  · have := h1 i hi
    show κ.blt _ _ = false
    simpa using this
  · have := h2 i b1 b2
    show κ.blt _ _ = true
    simpa using this
theorem wpS_left (C : Cmp prog w A E s kd κ) {key : Keyed} {arr : Array Keyed} {base n hint : Nat} {st : SortSt} {Q : Option Nat → SortSt → Prop} (hk : kindOf st = kd) (k1 : (κ.keyOf key.1).isSome = true) (ka : Kd κ arr.toList) (hn : base + n ≤ arr.size) (hh : hint < n)
    (srt : ∀ i j, i ≤ j → j < n → κ.kle (kA κ arr (base + i)) (kA κ arr (base + j)))
    (h : ∀ k, k ≤ n → (∀ i, i < k → κ.klt (kA κ arr (base + i)) (kf κ key)) → (∀ i, k ≤ i → i < n → κ.kle (kf κ key) (kA κ arr (base + i))) → Q (some k) st) :
    wpS (model prog w) A E s (galP true key arr base n hint) Q st := by
  refine wpS_gal (fun i => κ.blt (kA κ arr (base + i)) (kf κ key)) (fun i Q hi hq => ?_) (fun i j hij hj e => ?_) hh (fun k hk' h1 h2 => h k hk' (fun i hi => h1 i hi) (fun i b1 b2 => h2 i b1 b2))
  · obtain ⟨x, ex, mx⟩ := at_lt (arr := arr) (i := base + i) (by omega)
    rw [kA_at ex] at hq
    exact byL C hk ex k1 (ka x mx) hq
  · exact KeyOrd.klt_of_kle_of_klt (srt i j hij hj) e
end
end So
namespace So
open PySem PyProof.Rows
section
variable {prog : Program} {w : World} {A : Around} {E : Value → Shared → Prop} {s : Shared} {kd : SortKind} {κ : KeyKind}
theorem wpS_mLo (C : Cmp prog w A E s kd κ) {a b : Array Keyed} {st : SortSt} {Q : Array Keyed → SortSt → Prop} (hk : kindOf st = kd) (ka : Kd κ a.toList) (kb : Kd κ b.toList) (sa : Srt κ a.toList) (sb : Srt κ b.toList) (na : 0 < a.size) (nb : 0 < b.size)
    (h0 : ∀ x y, b[0]? = some x → a[0]? = some y → κ.kle (kf κ x) (kf κ y)) (hl : ∀ x ∈ b.toList, ∀ y, a[a.size - 1]? = some y → κ.kle (kf κ x) (kf κ y))
    (h : ∀ (m : Array Keyed) g, Gd κ a.toList b.toList m.toList → Q m (setGal st g)) : wpS (model prog w) A E s (mLo a b) Q st := by
  have la : a.toList.length = a.size := Array.length_toList
  have lb : b.toList.length = b.size := Array.length_toList
  have ga : ∀ {i x}, a[i]? = some x → a.toList[i]? = some x := fun {i x} e => by rw [Array.getElem?_toList]; exact e
  have gb : ∀ {i x}, b[i]? = some x → b.toList[i]? = some x := fun {i x} e => by rw [Array.getElem?_toList]; exact e
  have dl : ∀ (out : Array Keyed) ia ib, (out ++ a.extract ia a.size ++ b.extract ib b.size).toList = out.toList ++ a.toList.drop ia ++ b.toList.drop ib := fun out ia ib => by
    rw [Array.toList_append, Array.toList_append, ext_end, ext_end]
  have ll : ∀ (out : Array Keyed) ia ib, (out ++ b.extract ib b.size ++ a.extract ia a.size).toList = out.toList ++ b.toList.drop ib ++ a.toList.drop ia := fun out ia ib => by
    rw [Array.toList_append, Array.toList_append, ext_end, ext_end]
  have last : ∀ {out : Array Keyed} {ia ib}, MI κ a.toList b.toList out.toList ia ib → ia + 1 = a.size → Gd κ a.toList b.toList (out ++ b.extract ib b.size ++ a.extract ia a.size).toList := fun {out ia ib} mi e => by
    rw [ll]
    refine mi.lastA fun x hx y hy => ?_
    obtain ⟨z, ez, _⟩ := at_lt (arr := a) (i := ia) (by omega)
    rw [drop_at (ga ez), List.drop_eq_nil_of_le (by omega), List.mem_singleton] at hy
    rw [hy]
    exact hl x (List.mem_of_mem_drop hx) z (by rw [show a.size - 1 = ia by omega]; exact ez)
  refine wpS_bind (wpS_lift (wpAny_rule ⟨rfl, ?_⟩))
  (with_reducible conv => arg 5; whnf)
  obtain ⟨x0, e0, m0⟩ := at_lt nb
  refine wpS_bind (wpS_elem e0 ?_)
  (with_reducible conv => arg 5; whnf)
  obtain ⟨y0, f0, _⟩ := at_lt na
  have mi0 : MI κ a.toList b.toList [x0] 0 1 := by
    have : MI κ a.toList b.toList [] 0 0 := ⟨List.Perm.refl _, sa, sb⟩
    refine this.one_b (gb e0) fun z hz => KeyOrd.kle_trans (h0 x0 y0 e0 f0) (srt_head (i := 0) sa (ga f0) z hz)
  by_cases hb1 : (1 == b.size) = true
  · rw [if_pos hb1]
    have := (beq_iff_eq.mp hb1).symm
    exact wpS_pure (h _ (gallopOf st) (by rw [dl]; exact mi0.doneB (by omega)))
  rw [if_neg hb1]
  have hb1' : 1 ≠ b.size := fun z => hb1 (beq_iff_eq.mpr z)
  by_cases ha1 : (0 + 1 == a.size) = true
  · rw [if_pos ha1]
    have := (beq_iff_eq.mp ha1)
    exact wpS_pure (h _ (gallopOf st) (last mi0 this))
  rw [if_neg ha1]
  have ha1' : 0 + 1 ≠ a.size := fun z => ha1 (beq_iff_eq.mpr z)
  refine wpS_bind (wpS_get ?_)
  (with_reducible conv => arg 5; whnf)
  generalize gallopOf st = mg0
  refine wpS_bind (wpS_mono (wpS_forRange (I := fun t c st' => (∃ g, st' = setGal st g) ∧ ∃ out ia ib mg, c = (none, out, ia, ib, mg) ∧ MI κ a.toList b.toList out.toList ia ib ∧ ia + 1 < a.size ∧ ib < b.size ∧ t ≤ ia + ib)
    (Q := fun c st' => (∃ g, st' = setGal st g) ∧ ∃ m, c.1 = some m ∧ Gd κ a.toList b.toList m.toList) ?_ ?_ ⟨⟨gallopOf st, rfl⟩, _, 0, 1, _, rfl, mi0, by omega, by omega, by omega⟩) ?_)
  rotate_left
  · rintro c st' ⟨_, out, ia, ib, mg, rfl, mi, h1, h2, h3⟩
    omega
  · rintro c st' ⟨⟨g, rfl⟩, m, e, gd⟩
    dsimp only
    rw [e]
    exact wpS_pure (h m g gd)
  rintro t c st' _ ht ⟨⟨g, rfl⟩, out, ia, ib, mg, rfl, mi, h1, h2, h3⟩
  (with_reducible conv => arg 5; whnf)
  (try dsimp -zeta only)
  refine wpS_bind (wpS_mono (wpS_forRange (I := fun q c st' => st' = setGal st g ∧ ∃ out ia ib ac bc, c = (none, out, ia, ib, ac, bc) ∧ MI κ a.toList b.toList out.toList ia ib ∧ ia + 1 < a.size ∧ ib < b.size ∧ t + q ≤ ia + ib)
    (Q := fun c st' => st' = setGal st g ∧ ((∃ m, c.1 = some m ∧ Gd κ a.toList b.toList m.toList) ∨ ∃ out ia ib ac bc, c = (none, out, ia, ib, ac, bc) ∧ MI κ a.toList b.toList out.toList ia ib ∧ ia + 1 < a.size ∧ ib < b.size ∧ t + 1 ≤ ia + ib)) ?_ ?_ ⟨rfl, out, ia, ib, 0, 0, rfl, mi, h1, h2, by omega⟩) ?_)
  rotate_left
  · rintro c st' ⟨_, out, ia, ib, ac, bc, rfl, mi, h1, h2, h3⟩
    omega
  rotate_left
  · clear mi h1 h2 h3
    rintro q c st' _ hq ⟨rfl, out, ia, ib, ac, bc, rfl, mi, h1, h2, h3⟩
    (with_reducible conv => arg 5; whnf)
    (try dsimp -zeta only)
    obtain ⟨xb, eb, mb⟩ := at_lt h2
    obtain ⟨xa, ea, ma⟩ := at_lt (arr := a) (i := ia) (by omega)
    have sA := (srt_app.mp mi.x).2.1
    have sB := (srt_app.mp mi.y).2.1
    refine wpS_bind (wpS_elem eb (wpS_bind (wpS_elem ea (wpS_bind (C.lt _ xb xa _ hk (kb _ mb) (ka _ ma) ?_)))))
    (try dsimp -zeta only)
    cases hlt : κ.blt (kf κ xb) (kf κ xa) with
    | true =>
      rw [if_pos rfl]
      refine wpS_bind (wpS_elem eb ?_)
      (with_reducible conv => arg 5; whnf)
      have mi' : MI κ a.toList b.toList (out.push xb).toList ia (ib + 1) := by
        rw [Array.toList_push]
        exact mi.one_b (gb eb) fun z hz => KeyOrd.kle_trans (KeyOrd.kle_of_klt hlt) (srt_head sA (ga ea) z hz)
      by_cases hz : (ib + 1 == b.size) = true
      · rw [if_pos hz]
        have := beq_iff_eq.mp hz
        exact wpS_pure ⟨rfl, .inl ⟨_, rfl, by rw [dl]; exact mi'.doneB (by omega)⟩⟩
      · rw [if_neg hz]
        have hz' : ib + 1 ≠ b.size := fun z => hz (beq_iff_eq.mpr z)
        split
        · exact wpS_pure ⟨rfl, .inr ⟨_, _, _, _, _, rfl, mi', h1, by omega, by omega⟩⟩
        · exact wpS_pure ⟨rfl, _, _, _, _, _, rfl, mi', h1, by omega, by omega⟩
    | false =>
      rw [if_neg (by decide)]
      refine wpS_bind (wpS_elem ea ?_)
      (with_reducible conv => arg 5; whnf)
      have mi' : MI κ a.toList b.toList (out.push xa).toList (ia + 1) ib := by
        rw [Array.toList_push]
        exact mi.one_a (ga ea) fun z hz => KeyOrd.kle_trans hlt (srt_head sB (gb eb) z hz)
      by_cases hz : (ia + 1 + 1 == a.size) = true
      · rw [if_pos hz]
        exact wpS_pure ⟨rfl, .inl ⟨_, rfl, last mi' (beq_iff_eq.mp hz)⟩⟩
      · rw [if_neg hz]
        have hz' : ia + 1 + 1 ≠ a.size := fun z => hz (beq_iff_eq.mpr z)
        split
        · exact wpS_pure ⟨rfl, .inr ⟨_, _, _, _, _, rfl, mi', by omega, h2, by omega⟩⟩
        · exact wpS_pure ⟨rfl, _, _, _, _, _, rfl, mi', by omega, h2, by omega⟩
  clear mi h1 h2 h3
  rintro c st' ⟨rfl, ⟨m, e, gd⟩ | ⟨out, ia, ib, ac, bc, rfl, mi, h1, h2, h3⟩⟩
  · obtain ⟨c1, c2⟩ := c
    simp only at e
    subst e
    (with_reducible conv => arg 5; whnf)
    (try dsimp -zeta only)
    exact wpS_pure ⟨⟨g, rfl⟩, m, rfl, gd⟩
  (with_reducible conv => arg 5; whnf)
  (try dsimp -zeta only)
  refine wpS_bind (wpS_lift (wpAny_rule ⟨rfl, ?_⟩))
  (with_reducible conv => arg 5; whnf)
  refine wpS_bind (wpS_mono (wpS_forRange (I := fun q c st' => (∃ g, st' = setGal st g) ∧ ∃ out ia ib mg ac bc, c = (none, out, ia, ib, mg, ac, bc) ∧ MI κ a.toList b.toList out.toList ia ib ∧ ia + 1 < a.size ∧ ib < b.size ∧ t + 1 + q ≤ ia + ib)
    (Q := fun c st' => (∃ g, st' = setGal st g) ∧ ((∃ m, c.1 = some m ∧ Gd κ a.toList b.toList m.toList) ∨ ∃ out ia ib mg ac bc, c = (none, out, ia, ib, mg, ac, bc) ∧ MI κ a.toList b.toList out.toList ia ib ∧ ia + 1 < a.size ∧ ib < b.size ∧ t + 1 ≤ ia + ib)) ?_ ?_ ⟨⟨g, rfl⟩, out, ia, ib, _, ac, bc, rfl, mi, h1, h2, by omega⟩) ?_)
  rotate_left
  · rintro c st' ⟨_, out, ia, ib, mg, ac, bc, rfl, mi, h1, h2, h3⟩
    omega
  · rintro c st' ⟨⟨g, rfl⟩, ⟨m, e, gd⟩ | ⟨out, ia, ib, mg, ac, bc, rfl, mi, h1, h2, h3⟩⟩
    · obtain ⟨c1, c2⟩ := c
      simp only at e
      subst e
      (with_reducible conv => arg 5; whnf)
      (try dsimp -zeta only)
      exact wpS_pure ⟨⟨g, rfl⟩, m, rfl, gd⟩
    · (with_reducible conv => arg 5; whnf)
      (try dsimp -zeta only)
      (with_reducible conv => arg 5; whnf)
      exact wpS_bind (wpS_modify (wpS_pure ⟨⟨_, rfl⟩, out, ia, ib, _, rfl, mi, h1, h2, h3⟩))
  clear mi h1 h2 h3
  rintro q c st' _ hq ⟨⟨g, rfl⟩, out, ia, ib, mg, ac, bc, rfl, mi, h1, h2, h3⟩
  (extract_lets +onlyGivenNames -merge -underBinder zq144_0 zq144_1 zq144_2 zq144_3 zq144_4 zq144_5 zq144_6 zq144_7 zq144_8 zq144_9 zq144_10; subst zq144_0 zq144_1 zq144_2 zq144_3 zq144_4 zq144_5 zq144_6 zq144_7 zq144_8 zq144_9 zq144_10)
  (try dsimp -zeta only)
  extract_lets +onlyGivenNames -merge -underBinder zz_146
  obtain ⟨jp, hjp⟩ : ∃ z, z = zz_146 := ⟨zz_146, rfl⟩
  rw [← hjp]
  suffices J : ∀ mg, wpS (model prog w) A E s (jp () mg) _ (setGal st g) by
    (try dsimp -zeta only)
    split
    · (with_reducible conv => arg 5; whnf); exact J _
    · exact J _
  intro mg
  rw [hjp]
  (try dsimp -zeta only)
  refine wpS_bind (wpS_modify ?_)
  obtain ⟨xb, eb, mb⟩ := at_lt h2
  refine wpS_bind (wpS_elem eb ?_)
  refine wpS_bind (wpS_right C (key := xb) hk (kb _ mb) ka (by omega) (by omega) (fun i j hij hj => srt_kA sa (by omega) (by omega)) fun k k1 k2 k3 => ?_)
  (try dsimp -zeta only)
  (try dsimp -zeta only)
  (rw [show k = id k from rfl]; extract_lets +onlyGivenNames -merge -underBinder zq162; subst zq162; (try dsimp -zeta only [id]))
  extract_lets +onlyGivenNames -merge -underBinder zz_163
  obtain ⟨jp2, hjp2⟩ : ∃ z, z = zz_163 := ⟨zz_163, rfl⟩
  rw [← hjp2]
  have sB := (srt_app.mp mi.y).2.1
  suffices J2 : ∀ (out : Array Keyed) (ia : Nat), MI κ a.toList b.toList out.toList ia ib → ia + 1 < a.size → t + 1 + q ≤ ia + ib → κ.klt (kf κ xb) (kA κ a ia) → wpS (model prog w) A E s (jp2 () out ia) _ (setGal st mg) by
    by_cases hk0 : k > 0
    · rw [if_pos hk0]
      (with_reducible conv => arg 5; whnf)
      have mi' : MI κ a.toList b.toList (out ++ a.extract ia (ia + k)).toList (ia + k) ib := by
        rw [Array.toList_append, ext_mid]
        refine mi.stepA k fun x hx z hz => ?_
        obtain ⟨j, hj, ex⟩ := mem_mid hx
        have := k2 j hj
        rw [kA_at ex] at this
        exact KeyOrd.kle_trans this (srt_head sB (gb eb) z hz)
      by_cases hz : (ia + k + 1 == a.size) = true
      · rw [if_pos hz]
        exact wpS_pure ⟨⟨_, rfl⟩, .inl ⟨_, rfl, last mi' (beq_iff_eq.mp hz)⟩⟩
      · rw [if_neg hz]
        have hz' : ia + k + 1 ≠ a.size := fun z => hz (beq_iff_eq.mpr z)
        by_cases hy : (ia + k == a.size) = true
        · rw [if_pos hy]
          have := beq_iff_eq.mp hy
          exact wpS_pure ⟨⟨_, rfl⟩, .inl ⟨_, rfl, by rw [dl]; exact mi'.doneA (by omega)⟩⟩
        · rw [if_neg hy]
          have hy' : ia + k ≠ a.size := fun z => hy (beq_iff_eq.mpr z)
          exact J2 _ _ mi' (by omega) (by omega) (k3 k (Nat.le_refl _) (by omega))
    · rw [if_neg hk0]
      exact J2 _ _ mi h1 h3 (k3 0 (by omega) (by omega))
  clear mi h1 h3 k1 k2 k3 sB
  intro out ia mi h1 h3 hlt
  rw [hjp2]
  (try dsimp -zeta only)
  obtain ⟨xa, ea, ma⟩ := at_lt (arr := a) (i := ia) (by omega)
  rw [kA_at ea] at hlt
  have sA := (srt_app.mp mi.x).2.1
  refine wpS_bind (wpS_elem eb ?_)
  (with_reducible conv => arg 5; whnf)
  have mi' : MI κ a.toList b.toList (out.push xb).toList ia (ib + 1) := by
    rw [Array.toList_push]
    exact mi.one_b (gb eb) fun z hz => KeyOrd.kle_trans (KeyOrd.kle_of_klt hlt) (srt_head sA (ga ea) z hz)
  by_cases hz : (ib + 1 == b.size) = true
  · rw [if_pos hz]
    have := beq_iff_eq.mp hz
    exact wpS_pure ⟨⟨_, rfl⟩, .inl ⟨_, rfl, by rw [dl]; exact mi'.doneB (by omega)⟩⟩
  rw [if_neg hz]
  have hz' : ib + 1 ≠ b.size := fun z => hz (beq_iff_eq.mpr z)
  refine wpS_bind (wpS_elem ea ?_)
  refine wpS_bind (wpS_left C (key := xa) hk (ka _ ma) kb (by omega) (by omega) (fun i j hij hj => srt_kA sb (by omega) (by omega)) fun k k1 k2 k3 => ?_)
  (try dsimp -zeta only)
  (try dsimp -zeta only)
  (rw [show k = id k from rfl]; extract_lets +onlyGivenNames -merge -underBinder zq213; subst zq213; (try dsimp -zeta only [id]))
  extract_lets +onlyGivenNames -merge -underBinder zz_214
  obtain ⟨jp3, hjp3⟩ : ∃ z, z = zz_214 := ⟨zz_214, rfl⟩
  rw [← hjp3]
  suffices J3 : ∀ (out : Array Keyed) (ib : Nat), MI κ a.toList b.toList out.toList ia ib → ib < b.size → t + 1 + q ≤ ia + ib → κ.kle (kf κ xa) (kA κ b ib) → wpS (model prog w) A E s (jp3 () out ib) _ (setGal st mg) by
    by_cases hk0 : k > 0
    · rw [if_pos hk0]
      (with_reducible conv => arg 5; whnf)
      have mi2 : MI κ a.toList b.toList (out.push xb ++ b.extract (ib + 1) (ib + 1 + k)).toList ia (ib + 1 + k) := by
        rw [Array.toList_append, ext_mid]
        refine mi'.stepB k fun x hx z hz => ?_
        obtain ⟨j, hj, ex⟩ := mem_mid hx
        have := k2 j hj
        rw [kA_at ex] at this
        exact KeyOrd.kle_trans (KeyOrd.kle_of_klt this) (srt_head sA (ga ea) z hz)
      by_cases hy : (ib + 1 + k == b.size) = true
      · rw [if_pos hy]
        have := beq_iff_eq.mp hy
        exact wpS_pure ⟨⟨_, rfl⟩, .inl ⟨_, rfl, by rw [dl]; exact mi2.doneB (by omega)⟩⟩
      · rw [if_neg hy]
        have hy' : ib + 1 + k ≠ b.size := fun z => hy (beq_iff_eq.mpr z)
        exact J3 _ _ mi2 (by omega) (by omega) (k3 k (Nat.le_refl _) (by omega))
    · rw [if_neg hk0]
      exact J3 _ _ mi' (by omega) (by omega) (k3 0 (by omega) (by omega))
  clear mi mi' h2 h3 k1 k2 k3 sA hz hz' eb
  intro out ib mi h2 h3 hle
  rw [hjp3]
  (try dsimp -zeta only)
  obtain ⟨xc, ec, mc⟩ := at_lt h2
  rw [kA_at ec] at hle
  have sB := (srt_app.mp mi.y).2.1
  refine wpS_bind (wpS_elem ea ?_)
  (with_reducible conv => arg 5; whnf)
  have mi' : MI κ a.toList b.toList (out.push xa).toList (ia + 1) ib := by
    rw [Array.toList_push]
    exact mi.one_a (ga ea) fun z hz => KeyOrd.kle_trans hle (srt_head sB (gb ec) z hz)
  by_cases hz : (ia + 1 + 1 == a.size) = true
  · rw [if_pos hz]
    exact wpS_pure ⟨⟨_, rfl⟩, .inl ⟨_, rfl, last mi' (beq_iff_eq.mp hz)⟩⟩
  · rw [if_neg hz]
    have hz' : ia + 1 + 1 ≠ a.size := fun z => hz (beq_iff_eq.mpr z)
    split
    · exact wpS_pure ⟨⟨_, rfl⟩, .inr ⟨_, _, _, _, _, _, rfl, mi', by omega, h2, by omega⟩⟩
    · exact wpS_pure ⟨⟨_, rfl⟩, _, _, _, _, _, _, rfl, mi', by omega, h2, by omega⟩
end
end So
namespace So
open PySem PyProof.Rows
structure MH (κ : KeyKind) (a b r : List Keyed) (na nb : Nat) : Prop where
  p : ((a.take na ++ b.take nb) ++ r).Perm (a ++ b)
  x : Srt κ (a.take na ++ r)
  y : Srt κ (b.take nb ++ r)
section
variable {κ : KeyKind} {a b r : List Keyed} {na nb : Nat}
theorem MH.stepA (h : MH κ a b r na nb) (t : Nat) (ht : t ≤ na) (hl : ∀ x ∈ b.take nb, ∀ y ∈ (a.take na).drop t, κ.kle (kf κ x) (kf κ y)) : MH κ a b ((a.take na).drop t ++ r) t nb := by
  have e : a.take t ++ (a.take na).drop t = a.take na := by
    have := List.take_append_drop t (a.take na)
    rwa [List.take_take, Nat.min_eq_left ht] at this
  have hx := h.x
  have hp := h.p
  have hy := srt_app.mp h.y
  generalize (a.take na).drop t = A2 at e hl
  rw [← e] at hx hp
  rw [List.append_assoc] at hx
  have hx2 := srt_app.mp hx
  refine ⟨List.Perm.trans ?_ hp, hx, srt_app.mpr ⟨hy.1, hx2.2.1, fun x hx' y hy' => ?_⟩⟩
  · generalize a.take t = A1
    generalize b.take nb = B
    rw [List.append_assoc, List.append_assoc A1 A2 B, List.append_assoc A1 (A2 ++ B) r]
    refine List.Perm.append_left _ ?_
    rw [← List.append_assoc]
    exact List.Perm.append_right _ List.perm_append_comm
  · rcases List.mem_append.mp hy' with z | z
    · exact hl x hx' y z
    · exact hy.2.2 x hx' y z
theorem MH.stepB (h : MH κ a b r na nb) (t : Nat) (ht : t ≤ nb) (hl : ∀ x ∈ a.take na, ∀ y ∈ (b.take nb).drop t, κ.kle (kf κ x) (kf κ y)) : MH κ a b ((b.take nb).drop t ++ r) na t := by
  have e : b.take t ++ (b.take nb).drop t = b.take nb := by
    have := List.take_append_drop t (b.take nb)
    rwa [List.take_take, Nat.min_eq_left ht] at this
  have hy := h.y
  have hp := h.p
  have hx := srt_app.mp h.x
  generalize (b.take nb).drop t = B2 at e hl
  rw [← e] at hy hp
  rw [List.append_assoc] at hy
  have hy2 := srt_app.mp hy
  refine ⟨?_, srt_app.mpr ⟨hx.1, hy2.2.1, fun x hx' y hy' => ?_⟩, hy⟩
  · rw [← List.append_assoc, List.append_assoc (a.take na)]
    exact hp
  · rcases List.mem_append.mp hy' with z | z
    · exact hl x hx' y z
    · exact hx.2.2 x hx' y z
theorem take_last {l : List Keyed} {n : Nat} {x : Keyed} (e : l[n]? = some x) : (l.take (n + 1)).drop n = [x] := by
  obtain ⟨h1, rfl⟩ := List.getElem?_eq_some_iff.mp e
  rw [List.take_succ_eq_append_getElem h1, List.drop_append_of_le_length (by rw [List.length_take]; omega), List.drop_eq_nil_of_le (by rw [List.length_take]; omega), List.nil_append]
theorem MH.one_a {y : Keyed} (h : MH κ a b r (na + 1) nb) (e : a[na]? = some y) (hl : ∀ z ∈ b.take nb, κ.kle (kf κ z) (kf κ y)) : MH κ a b (y :: r) na nb := by
  have := h.stepA na (Nat.le_succ _) (by rw [take_last e]; intro x hx z hz; rw [List.mem_singleton.mp hz]; exact hl x hx)
  rwa [take_last e] at this
theorem MH.one_b {y : Keyed} (h : MH κ a b r na (nb + 1)) (e : b[nb]? = some y) (hl : ∀ z ∈ a.take na, κ.kle (kf κ z) (kf κ y)) : MH κ a b (y :: r) na nb := by
  have := h.stepB nb (Nat.le_succ _) (by rw [take_last e]; intro x hx z hz; rw [List.mem_singleton.mp hz]; exact hl x hx)
  rwa [take_last e] at this
theorem MH.done (h : MH κ a b r na nb) (hz : na = 0 ∨ nb = 0) : Gd κ a b (a.take na ++ b.take nb ++ r) := by
  refine ⟨h.p, ?_⟩
  rcases hz with rfl | rfl
  · rw [List.take_zero, List.nil_append]; exact h.y
  · rw [List.take_zero, List.append_nil]; exact h.x
theorem MH.first (h : MH κ a b r na nb) (hl : ∀ x ∈ b.take nb, ∀ y ∈ a.take na, κ.kle (kf κ x) (kf κ y)) : Gd κ a b (b.take nb ++ a.take na ++ r) := by
  refine ⟨(List.Perm.append_right _ List.perm_append_comm).trans h.p, ?_⟩
  have hy := srt_app.mp h.y
  rw [List.append_assoc]
  refine srt_app.mpr ⟨hy.1, h.x, fun x hx y hy' => ?_⟩
  rcases List.mem_append.mp hy' with z | z
  · exact hl x hx y z
  · exact hy.2.2 x hx y z
theorem mem_tk {arr : Array Keyed} {n : Nat} {x : Keyed} (h : x ∈ arr.toList.take n) : ∃ j, j < n ∧ arr[j]? = some x := by
  obtain ⟨m, hm, e⟩ := List.getElem_of_mem h
  rw [List.length_take] at hm
  refine ⟨m, by omega, ?_⟩
  rw [← Array.getElem?_toList, ← e, List.getElem_take, List.getElem?_eq_getElem]
theorem mem_td {arr : Array Keyed} {t n : Nat} {x : Keyed} (h : x ∈ (arr.toList.take n).drop t) : ∃ j, t ≤ j ∧ j < n ∧ arr[j]? = some x := by
  obtain ⟨m, hm, e⟩ := List.getElem_of_mem h
  rw [List.length_drop, List.length_take] at hm
  refine ⟨t + m, by omega, by omega, ?_⟩
  rw [← Array.getElem?_toList, ← e, List.getElem_drop, List.getElem_take, List.getElem?_eq_getElem]
theorem ext_tk {α : Type} (a : Array α) (n : Nat) : (a.extract 0 n).toList = a.toList.take n := by
  rw [Array.toList_extract, List.extract_eq_take_drop, List.drop_zero, Nat.sub_zero]
theorem ext_td {α : Type} (a : Array α) (t n : Nat) : (a.extract t n).toList = (a.toList.take n).drop t := by
  rw [Array.toList_extract, List.extract_eq_take_drop, List.drop_take]
end
section
variable {prog : Program} {w : World} {A : Around} {E : Value → Shared → Prop} {s : Shared} {kd : SortKind} {κ : KeyKind}
theorem wpS_mHi (C : Cmp prog w A E s kd κ) {a b : Array Keyed} {st : SortSt} {Q : Array Keyed → SortSt → Prop} (hk : kindOf st = kd) (ka : Kd κ a.toList) (kb : Kd κ b.toList) (sa : Srt κ a.toList) (sb : Srt κ b.toList) (na0 : 0 < a.size) (nb0 : 0 < b.size)
    (h0 : ∀ x y, b[0]? = some x → a[0]? = some y → κ.kle (kf κ x) (kf κ y)) (hl : ∀ x ∈ b.toList, ∀ y, a[a.size - 1]? = some y → κ.kle (kf κ x) (kf κ y))
    (h : ∀ (m : Array Keyed) g, Gd κ a.toList b.toList m.toList → Q m (setGal st g)) : wpS (model prog w) A E s (mHi a b) Q st := by
  have la : a.toList.length = a.size := Array.length_toList
  have lb : b.toList.length = b.size := Array.length_toList
  have ga : ∀ {i x}, a[i]? = some x → a.toList[i]? = some x := fun {i x} e => by rw [Array.getElem?_toList]; exact e
  have gb : ∀ {i x}, b[i]? = some x → b.toList[i]? = some x := fun {i x} e => by rw [Array.getElem?_toList]; exact e
  have le_a : ∀ {n j : Nat} {x y : Keyed}, x ∈ a.toList.take n → a[j]? = some y → n ≤ j + 1 → κ.kle (kf κ x) (kf κ y) := fun {n j x y} hx ey hn => by
    obtain ⟨i, hi, ex⟩ := mem_tk hx
    have := srt_kA (arr := a) (κ := κ) sa (i := i) (j := j) (by omega) (Array.getElem?_eq_some_iff.mp ey).1
    rwa [kA_at ex, kA_at ey] at this
  have le_b : ∀ {n j : Nat} {x y : Keyed}, x ∈ b.toList.take n → b[j]? = some y → n ≤ j + 1 → κ.kle (kf κ x) (kf κ y) := fun {n j x y} hx ey hn => by
    obtain ⟨i, hi, ex⟩ := mem_tk hx
    have := srt_kA (arr := b) (κ := κ) sb (i := i) (j := j) (by omega) (Array.getElem?_eq_some_iff.mp ey).1
    rwa [kA_at ex, kA_at ey] at this
  have dl : ∀ (out : Array Keyed) na nb, (a.extract 0 na ++ b.extract 0 nb ++ out.reverse).toList = a.toList.take na ++ b.toList.take nb ++ out.toList.reverse := fun out na nb => by
    rw [Array.toList_append, Array.toList_append, ext_tk, ext_tk, Array.toList_reverse]
  have first : ∀ {out : Array Keyed} {na nb}, MH κ a.toList b.toList out.toList.reverse na nb → nb = 1 → Gd κ a.toList b.toList (b.extract 0 nb ++ a.extract 0 na ++ out.reverse).toList := fun {out na nb} mi e => by
    rw [Array.toList_append, Array.toList_append, ext_tk, ext_tk, Array.toList_reverse]
    refine mi.first fun x hx y hy => ?_
    obtain ⟨i, hi, ex⟩ := mem_tk hx
    have hi0 : i = 0 := by omega
    subst hi0
    obtain ⟨j, hj, ey⟩ := mem_tk hy
    obtain ⟨y0, f0, _⟩ := at_lt na0
    have := srt_kA (arr := a) (κ := κ) sa (i := 0) (j := j) (by omega) (Array.getElem?_eq_some_iff.mp ey).1
    rw [kA_at f0, kA_at ey] at this
    exact KeyOrd.kle_trans (h0 x y0 ex f0) this
  refine wpS_bind (wpS_lift (wpAny_rule ⟨rfl, ?_⟩))
  (with_reducible conv => arg 5; whnf)
  obtain ⟨x0, e0, m0⟩ := at_lt (arr := a) (i := a.size - 1) (by omega)
  refine wpS_bind (wpS_elem e0 ?_)
  (with_reducible conv => arg 5; whnf)
  have mi0 : MH κ a.toList b.toList [x0] (a.size - 1) b.size := by
    have : MH κ a.toList b.toList [] (a.size - 1 + 1) b.size := by
      refine ⟨?_, ?_, ?_⟩
      · rw [List.append_nil, List.take_of_length_le (by omega), List.take_of_length_le (by omega)]
      · rw [List.append_nil, List.take_of_length_le (by omega)]; exact sa
      · rw [List.append_nil, List.take_of_length_le (by omega)]; exact sb
    exact this.one_a (ga e0) fun z hz => hl z (List.mem_of_mem_take hz) x0 e0
  have mi0' : MH κ a.toList b.toList (#[x0] : Array Keyed).toList.reverse (a.size - 1) b.size := mi0
  by_cases hb1 : (a.size - 1 == 0) = true
  · rw [if_pos hb1]
    have := beq_iff_eq.mp hb1
    exact wpS_pure (h _ (gallopOf st) (by rw [dl]; exact mi0'.done (.inl this)))
  rw [if_neg hb1]
  have hb1' : a.size - 1 ≠ 0 := fun z => hb1 (beq_iff_eq.mpr z)
  by_cases ha1 : (b.size == 1) = true
  · rw [if_pos ha1]
    exact wpS_pure (h _ (gallopOf st) (first mi0' (beq_iff_eq.mp ha1)))
  rw [if_neg ha1]
  have ha1' : b.size ≠ 1 := fun z => ha1 (beq_iff_eq.mpr z)
  refine wpS_bind (wpS_get ?_)
  (with_reducible conv => arg 5; whnf)
  generalize gallopOf st = mg0
  refine wpS_bind (wpS_mono (wpS_forRange (I := fun t c st' => (∃ g, st' = setGal st g) ∧ ∃ out na nb mg, c = (none, na, nb, out, mg) ∧ MH κ a.toList b.toList out.toList.reverse na nb ∧ 0 < na ∧ 1 < nb ∧ na ≤ a.size ∧ nb ≤ b.size ∧ na + nb + t ≤ a.size + b.size)
    (Q := fun c st' => (∃ g, st' = setGal st g) ∧ ∃ m, c.1 = some m ∧ Gd κ a.toList b.toList m.toList) ?_ ?_ ⟨⟨gallopOf st, rfl⟩, _, _, _, _, rfl, mi0', by omega, by omega, by omega, by omega, by omega⟩) ?_)
  rotate_left
  · rintro c st' ⟨_, out, na, nb, mg, rfl, mi, h1, h2, h3, h4, h5⟩
    omega
  · rintro c st' ⟨⟨g, rfl⟩, m, e, gd⟩
    dsimp only
    rw [e]
    exact wpS_pure (h m g gd)
  rintro t c st' _ ht ⟨⟨g, rfl⟩, out, na, nb, mg, rfl, mi, h1, h2, h3, h4, h5⟩
  (with_reducible conv => arg 5; whnf)
  (try dsimp -zeta only)
  refine wpS_bind (wpS_mono (wpS_forRange (I := fun q c st' => st' = setGal st g ∧ ∃ out na nb ac bc, c = (none, na, nb, out, ac, bc) ∧ MH κ a.toList b.toList out.toList.reverse na nb ∧ 0 < na ∧ 1 < nb ∧ na ≤ a.size ∧ nb ≤ b.size ∧ na + nb + t + q ≤ a.size + b.size)
    (Q := fun c st' => st' = setGal st g ∧ ((∃ m, c.1 = some m ∧ Gd κ a.toList b.toList m.toList) ∨ ∃ out na nb ac bc, c = (none, na, nb, out, ac, bc) ∧ MH κ a.toList b.toList out.toList.reverse na nb ∧ 0 < na ∧ 1 < nb ∧ na ≤ a.size ∧ nb ≤ b.size ∧ na + nb + t + 1 ≤ a.size + b.size)) ?_ ?_ ⟨rfl, out, na, nb, 0, 0, rfl, mi, h1, h2, h3, h4, by omega⟩) ?_)
  rotate_left
  · rintro c st' ⟨_, out, na, nb, ac, bc, rfl, mi, h1, h2, h3, h4, h5⟩
    omega
  rotate_left
  · clear mi h1 h2 h3 h4 h5
    rintro q c st' _ hq ⟨rfl, out, na, nb, ac, bc, rfl, mi, h1, h2, h3, h4, h5⟩
    (with_reducible conv => arg 5; whnf)
    (try dsimp -zeta only)
    obtain ⟨na, rfl⟩ : ∃ n, na = n + 1 := ⟨na - 1, by omega⟩
    obtain ⟨nb, rfl⟩ : ∃ n, nb = n + 1 := ⟨nb - 1, by omega⟩
    obtain ⟨xb, eb, mb⟩ := at_lt (arr := b) (i := nb) (by omega)
    obtain ⟨xa, ea, ma⟩ := at_lt (arr := a) (i := na) (by omega)
    simp only [Nat.add_sub_cancel]
    refine wpS_bind (wpS_elem eb (wpS_bind (wpS_elem ea (wpS_bind (C.lt _ xb xa _ hk (kb _ mb) (ka _ ma) ?_)))))
    (try dsimp -zeta only)
    cases hlt : κ.blt (kf κ xb) (kf κ xa) with
    | true =>
      rw [if_pos rfl]
      (try dsimp -zeta only)
      refine wpS_bind (wpS_elem ea ?_)
      (try dsimp -zeta only)
      have mi' : MH κ a.toList b.toList (out.push xa).toList.reverse na (nb + 1) := by
        rw [Array.toList_push, List.reverse_append]
        exact mi.one_a (ga ea) fun z hz => KeyOrd.kle_trans (le_b hz eb (Nat.le_refl _)) (KeyOrd.kle_of_klt hlt)
      by_cases hz : (na == 0) = true
      · rw [if_pos hz]
        exact wpS_pure ⟨rfl, .inl ⟨_, rfl, by rw [dl]; exact mi'.done (.inl (beq_iff_eq.mp hz))⟩⟩
      · rw [if_neg hz]
        have hz' : na ≠ 0 := fun z => hz (beq_iff_eq.mpr z)
        split
        · exact wpS_pure ⟨rfl, .inr ⟨_, _, _, _, _, rfl, mi', by omega, by omega, by omega, by omega, by omega⟩⟩
        · exact wpS_pure ⟨rfl, _, _, _, _, _, rfl, mi', by omega, by omega, by omega, by omega, by omega⟩
    | false =>
      rw [if_neg (by decide)]
      (try dsimp -zeta only)
      refine wpS_bind (wpS_elem eb ?_)
      (try dsimp -zeta only)
      have mi' : MH κ a.toList b.toList (out.push xb).toList.reverse (na + 1) nb := by
        rw [Array.toList_push, List.reverse_append]
        exact mi.one_b (gb eb) fun z hz => KeyOrd.kle_trans (le_a hz ea (Nat.le_refl _)) hlt
      by_cases hz : (nb == 1) = true
      · rw [if_pos hz]
        exact wpS_pure ⟨rfl, .inl ⟨_, rfl, first mi' (beq_iff_eq.mp hz)⟩⟩
      · rw [if_neg hz]
        have hz' : nb ≠ 1 := fun z => hz (beq_iff_eq.mpr z)
        split
        · exact wpS_pure ⟨rfl, .inr ⟨_, _, _, _, _, rfl, mi', by omega, by omega, by omega, by omega, by omega⟩⟩
        · exact wpS_pure ⟨rfl, _, _, _, _, _, rfl, mi', by omega, by omega, by omega, by omega, by omega⟩
  clear mi h1 h2 h3 h4 h5
  rintro c st' ⟨rfl, ⟨m, e, gd⟩ | ⟨out, na, nb, ac, bc, rfl, mi, h1, h2, h3, h4, h5⟩⟩
  · obtain ⟨c1, c2⟩ := c
    simp only at e
    subst e
    (with_reducible conv => arg 5; whnf)
    (try dsimp -zeta only)
    exact wpS_pure ⟨⟨g, rfl⟩, m, rfl, gd⟩
  (with_reducible conv => arg 5; whnf)
  (try dsimp -zeta only)
  refine wpS_bind (wpS_lift (wpAny_rule ⟨rfl, ?_⟩))
  (with_reducible conv => arg 5; whnf)
  refine wpS_bind (wpS_mono (wpS_forRange (I := fun q c st' => (∃ g, st' = setGal st g) ∧ ∃ out na nb mg ac bc, c = (none, na, nb, out, mg, ac, bc) ∧ MH κ a.toList b.toList out.toList.reverse na nb ∧ 0 < na ∧ 1 < nb ∧ na ≤ a.size ∧ nb ≤ b.size ∧ na + nb + t + 1 + q ≤ a.size + b.size)
    (Q := fun c st' => (∃ g, st' = setGal st g) ∧ ((∃ m, c.1 = some m ∧ Gd κ a.toList b.toList m.toList) ∨ ∃ out na nb mg ac bc, c = (none, na, nb, out, mg, ac, bc) ∧ MH κ a.toList b.toList out.toList.reverse na nb ∧ 0 < na ∧ 1 < nb ∧ na ≤ a.size ∧ nb ≤ b.size ∧ na + nb + t + 1 ≤ a.size + b.size)) ?_ ?_ ⟨⟨g, rfl⟩, out, na, nb, _, ac, bc, rfl, mi, h1, h2, h3, h4, by omega⟩) ?_)
  rotate_left
  · rintro c st' ⟨_, out, na, nb, mg, ac, bc, rfl, mi, h1, h2, h3, h4, h5⟩
    omega
  · rintro c st' ⟨⟨g, rfl⟩, ⟨m, e, gd⟩ | ⟨out, na, nb, mg, ac, bc, rfl, mi, h1, h2, h3, h4, h5⟩⟩
    · obtain ⟨c1, c2⟩ := c
      simp only at e
      subst e
      (with_reducible conv => arg 5; whnf)
      (try dsimp -zeta only)
      exact wpS_pure ⟨⟨g, rfl⟩, m, rfl, gd⟩
    · (with_reducible conv => arg 5; whnf)
      (try dsimp -zeta only)
      (with_reducible conv => arg 5; whnf)
      exact wpS_bind (wpS_modify (wpS_pure ⟨⟨_, rfl⟩, out, na, nb, _, rfl, mi, h1, h2, h3, h4, h5⟩))
  clear mi h1 h2 h3 h4 h5
  rintro q c st' _ hq ⟨⟨g, rfl⟩, out, na, nb, mg, ac, bc, rfl, mi, h1, h2, h3, h4, h5⟩
  (extract_lets +onlyGivenNames -merge -underBinder zq238_0 zq238_1 zq238_2 zq238_3 zq238_4 zq238_5 zq238_6 zq238_7 zq238_8 zq238_9 zq238_10; subst zq238_0 zq238_1 zq238_2 zq238_3 zq238_4 zq238_5 zq238_6 zq238_7 zq238_8 zq238_9 zq238_10)
  (try dsimp -zeta only)
  extract_lets +onlyGivenNames -merge -underBinder zz_240
  obtain ⟨jp, hjp⟩ : ∃ z, z = zz_240 := ⟨zz_240, rfl⟩
  rw [← hjp]
  suffices J : ∀ mg, wpS (model prog w) A E s (jp () mg) _ (setGal st g) by
    (try dsimp -zeta only)
    split
    · (with_reducible conv => arg 5; whnf); exact J _
    · exact J _
  intro mg
  rw [hjp]
  (try dsimp -zeta only)
  refine wpS_bind (wpS_modify ?_)
  obtain ⟨xb, eb, mb⟩ := at_lt (arr := b) (i := nb - 1) (by omega)
  refine wpS_bind (wpS_elem eb ?_)
  refine wpS_bind (wpS_right C (key := xb) hk (kb _ mb) ka (by omega) (by omega) (fun i j hij hj => srt_kA sa (by omega) (by omega)) fun k k1 k2 k3 => ?_)
  simp only [Nat.zero_add] at k2 k3
  (try dsimp -zeta only)
  (try dsimp -zeta only)
  (extract_lets +onlyGivenNames -merge -underBinder zq257_0 zq257_1; subst zq257_0 zq257_1)
  extract_lets +onlyGivenNames -merge -underBinder zz_258
  obtain ⟨jp2, hjp2⟩ : ∃ z, z = zz_258 := ⟨zz_258, rfl⟩
  rw [← hjp2]
  suffices J2 : ∀ (na : Nat) (out : Array Keyed), MH κ a.toList b.toList out.toList.reverse na nb → 0 < na → na ≤ a.size → na + nb + t + 1 + q ≤ a.size + b.size → (∀ i, i < na → κ.kle (kA κ a i) (kf κ xb)) → wpS (model prog w) A E s (jp2 () na out) _ (setGal st mg) by
    by_cases hk0 : na - k > 0
    · rw [if_pos hk0]
      (with_reducible conv => arg 5; whnf)
      have mi' : MH κ a.toList b.toList (out ++ (a.extract k na).reverse).toList.reverse k nb := by
        rw [Array.toList_append, Array.toList_reverse, List.reverse_append, List.reverse_reverse, ext_td]
        refine mi.stepA k (by omega) fun x hx y hy => ?_
        obtain ⟨j, hj1, hj2, ey⟩ := mem_td hy
        have := k3 j hj1 hj2
        rw [kA_at ey] at this
        exact KeyOrd.kle_trans (le_b hx eb (by omega)) (KeyOrd.kle_of_klt this)
      by_cases hz : (k == 0) = true
      · rw [if_pos hz]
        exact wpS_pure ⟨⟨_, rfl⟩, .inl ⟨_, rfl, by rw [dl]; exact mi'.done (.inl (beq_iff_eq.mp hz))⟩⟩
      · rw [if_neg hz]
        have hz' : k ≠ 0 := fun z => hz (beq_iff_eq.mpr z)
        exact J2 _ _ mi' (by omega) (by omega) (by omega) k2
    · rw [if_neg hk0]
      have : k = na := by omega
      subst this
      exact J2 _ _ mi h1 h3 (by omega) k2
  clear mi h1 h3 h5 k1 k2 k3
  intro na out mi h1 h3 h5 hle
  rw [hjp2]
  (with_reducible conv => arg 5; whnf)
  obtain ⟨nb, rfl⟩ : ∃ n, nb = n + 1 := ⟨nb - 1, by omega⟩
  simp -zeta only [Nat.add_sub_cancel] at eb ⊢
  refine wpS_bind (wpS_elem eb ?_)
  (with_reducible conv => arg 5; whnf)
  have mi' : MH κ a.toList b.toList (out.push xb).toList.reverse na nb := by
    rw [Array.toList_push, List.reverse_append]
    refine mi.one_b (gb eb) fun z hz => ?_
    obtain ⟨i, hi, ez⟩ := mem_tk hz
    have := hle i hi
    rwa [kA_at ez] at this
  by_cases hz : (nb == 1) = true
  · rw [if_pos hz]
    exact wpS_pure ⟨⟨_, rfl⟩, .inl ⟨_, rfl, first mi' (beq_iff_eq.mp hz)⟩⟩
  rw [if_neg hz]
  have hz' : nb ≠ 1 := fun z => hz (beq_iff_eq.mpr z)
  obtain ⟨xa, ea, ma⟩ := at_lt (arr := a) (i := na - 1) (by omega)
  refine wpS_bind (wpS_elem ea ?_)
  refine wpS_bind (wpS_left C (key := xa) hk (ka _ ma) kb (by omega) (by omega) (fun i j hij hj => srt_kA sb (by omega) (by omega)) fun k k1 k2 k3 => ?_)
  simp only [Nat.zero_add] at k2 k3
  (try dsimp -zeta only)
  (try dsimp -zeta only)
  (extract_lets +onlyGivenNames -merge -underBinder zq306_0 zq306_1; subst zq306_0 zq306_1)
  extract_lets +onlyGivenNames -merge -underBinder zz_307
  obtain ⟨jp3, hjp3⟩ : ∃ z, z = zz_307 := ⟨zz_307, rfl⟩
  rw [← hjp3]
  suffices J3 : ∀ (nb : Nat) (out : Array Keyed), MH κ a.toList b.toList out.toList.reverse na nb → 1 < nb → nb ≤ b.size → na + nb + t + 1 + q + 1 ≤ a.size + b.size → (∀ i, i < nb → κ.kle (kA κ b i) (kf κ xa)) → wpS (model prog w) A E s (jp3 () nb out) _ (setGal st mg) by
    by_cases hk0 : nb - k > 0
    · rw [if_pos hk0]
      (with_reducible conv => arg 5; whnf)
      have mi2 : MH κ a.toList b.toList (out.push xb ++ (b.extract k nb).reverse).toList.reverse na k := by
        rw [Array.toList_append, Array.toList_reverse, List.reverse_append, List.reverse_reverse, ext_td]
        refine mi'.stepB k (by omega) fun x hx y hy => ?_
        obtain ⟨j, hj1, hj2, ey⟩ := mem_td hy
        have := k3 j hj1 hj2
        rw [kA_at ey] at this
        exact KeyOrd.kle_trans (le_a hx ea (by omega)) this
      by_cases hy : (k == 1) = true
      · rw [if_pos hy]
        exact wpS_pure ⟨⟨_, rfl⟩, .inl ⟨_, rfl, first mi2 (beq_iff_eq.mp hy)⟩⟩
      · rw [if_neg hy]
        have hy' : k ≠ 1 := fun z => hy (beq_iff_eq.mpr z)
        by_cases hx : (k == 0) = true
        · rw [if_pos hx]
          exact wpS_pure ⟨⟨_, rfl⟩, .inl ⟨_, rfl, by rw [dl]; exact mi2.done (.inr (beq_iff_eq.mp hx))⟩⟩
        · rw [if_neg hx]
          have hx' : k ≠ 0 := fun z => hx (beq_iff_eq.mpr z)
          exact J3 _ _ mi2 (by omega) (by omega) (by omega) fun i hi => KeyOrd.kle_of_klt (k2 i hi)
    · rw [if_neg hk0]
      have : k = nb := by omega
      subst this
      exact J3 _ _ mi' (by omega) (by omega) (by omega) fun i hi => KeyOrd.kle_of_klt (k2 i hi)
  clear mi mi' h2 h4 h5 k1 k2 k3 hz hz' eb
  intro nb out mi h2 h4 h5 hle2
  rw [hjp3]
  (with_reducible conv => arg 5; whnf)
  obtain ⟨na, rfl⟩ : ∃ n, na = n + 1 := ⟨na - 1, by omega⟩
  simp only [Nat.add_sub_cancel] at ea ⊢
  refine wpS_bind (wpS_elem ea ?_)
  (try dsimp -zeta only)
  have mi' : MH κ a.toList b.toList (out.push xa).toList.reverse na nb := by
    rw [Array.toList_push, List.reverse_append]
    refine mi.one_a (ga ea) fun z hz => ?_
    obtain ⟨i, hi, ez⟩ := mem_tk hz
    have := hle2 i hi
    rwa [kA_at ez] at this
  by_cases hz : (na == 0) = true
  · rw [if_pos hz]
    exact wpS_pure ⟨⟨_, rfl⟩, .inl ⟨_, rfl, by rw [dl]; exact mi'.done (.inl (beq_iff_eq.mp hz))⟩⟩
  · rw [if_neg hz]
    have hz' : na ≠ 0 := fun z => hz (beq_iff_eq.mpr z)
    split
    · exact wpS_pure ⟨⟨_, rfl⟩, .inr ⟨_, _, _, _, _, _, rfl, mi', by omega, h2, by omega, h4, by omega⟩⟩
    · exact wpS_pure ⟨⟨_, rfl⟩, _, _, _, _, _, _, rfl, mi', by omega, h2, by omega, h4, by omega⟩
end
end So
namespace So
open PySem PyProof.Rows
structure SB (kd : SortKind) (a0 : Array Keyed) (p : Array (Nat × Nat × Nat)) (lo : Nat) (x0 : Array Keyed) (st : SortSt) : Prop where
  perm : (arrOf st).Perm a0
  kind : kindOf st = kd
  fail : failedOf st = none
  pend : pendingOf st = p
  low : ∀ i, i < lo → (arrOf st)[i]? = x0[i]?
def SS (κ : KeyKind) (xs : Array Keyed) (lo n : Nat) : Prop := ∀ i j, i ≤ j → j < n → κ.kle (kA κ xs (lo + i)) (kA κ xs (lo + j))
def DS (κ : KeyKind) (xs : Array Keyed) (lo n : Nat) : Prop := ∀ i j, i ≤ j → j < n → κ.kle (kA κ xs (lo + j)) (kA κ xs (lo + i))
section
variable {κ : KeyKind} {kd : SortKind} {a0 x0 : Array Keyed} {p : Array (Nat × Nat × Nat)} {lo : Nat} {st : SortSt}
theorem SB.size (h : SB kd a0 p lo x0 st) : (arrOf st).size = a0.size := h.perm.size_eq
theorem SB.set (h : SB kd a0 p lo x0 st) {xs : Array Keyed} (hp : xs.Perm (arrOf st)) (hl : ∀ i, i < lo → xs[i]? = (arrOf st)[i]?) : SB kd a0 p lo x0 (setArr st xs) :=
  ⟨hp.trans h.perm, h.kind, h.fail, h.pend, fun i hi => (hl i hi).trans (h.low i hi)⟩
theorem SB.keys (h : SB kd a0 p lo x0 st) (k : Kd κ a0.toList) : Kd κ (arrOf st).toList := fun x hx => k x ((Array.perm_iff_toList_perm.mp h.perm).mem_iff.mp hx)
theorem kA_congr {xs ys : Array Keyed} {i j : Nat} (e : xs[i]? = ys[j]?) : kA κ xs i = kA κ ys j := by unfold kA; rw [e]
theorem kA_mirror {xs : Array Keyed} {i j : Nat} (hj : j ≤ xs.size) (k : Nat) : kA κ (mirror xs i j ((j - i) / 2)) k = if i ≤ k ∧ k < j then kA κ xs (i + j - 1 - k) else kA κ xs k := by
  have e := getElem?_mirror_all (i := i) hj k
  split
  · rename_i z; rw [if_pos z] at e; exact kA_congr e
  · rename_i z; rw [if_neg z] at e; exact kA_congr e
theorem mirror_low {xs : Array Keyed} {i j : Nat} (hj : j ≤ xs.size) (k : Nat) (hk : k < i) : (mirror xs i j ((j - i) / 2))[k]? = xs[k]? := by
  rw [getElem?_mirror_all hj, if_neg (by omega)]
theorem kA_same {xs : Array Keyed} {i j : Nat} (hj : j ≤ xs.size) (he : ∀ k, i ≤ k → k < j → kA κ xs k = kA κ xs (j - 1)) (k : Nat) : kA κ (mirror xs i j ((j - i) / 2)) k = kA κ xs k := by
  rw [kA_mirror hj]
  split
  · rw [he _ (by omega) (by omega), he k (by omega) (by omega)]
  · rfl
theorem kA_bubble {xs : Array Keyed} {src d : Nat} (hs : src < xs.size) (hd : d ≤ src) (k : Nat) : kA κ (bubble xs src d) k = if k = src - d then kA κ xs src else if src - d < k ∧ k ≤ src then kA κ xs (k - 1) else kA κ xs k := by
  have e := getElem?_bubble hs d hd k
  split
  · rename_i z; rw [if_pos z] at e; exact kA_congr e
  · rename_i z
    rw [if_neg z] at e
    split
    · rename_i z2; rw [if_pos z2] at e; exact kA_congr e
    · rename_i z2; rw [if_neg z2] at e; exact kA_congr e
theorem bubble_low {xs : Array Keyed} {src d : Nat} (hs : src < xs.size) (hd : d ≤ src) (k : Nat) (hk : k < src - d) : (bubble xs src d)[k]? = xs[k]? := by
  rw [getElem?_bubble hs d hd, if_neg (by omega), if_neg (by omega)]
end
section
variable {prog : Program} {w : World} {A : Around} {E : Value → Shared → Prop} {s : Shared} {kd : SortKind} {κ : KeyKind} {a0 x0 : Array Keyed} {p : Array (Nat × Nat × Nat)} {lo : Nat}
theorem wpS_at (C : Cmp prog w A E s kd κ) (k0 : Kd κ a0.toList) {st : SortSt} (hB : SB kd a0 p lo x0 st) {i j : Nat} {Q : Option Bool → SortSt → Prop} (hi : i < a0.size) (hj : j < a0.size) (h : Q (some (κ.blt (kA κ (arrOf st) i) (kA κ (arrOf st) j))) st) : wpS (model prog w) A E s (ltAt' i j) Q st := by
  obtain ⟨x, ex, mx⟩ := at_lt (arr := arrOf st) (i := i) (by rw [hB.size]; exact hi)
  obtain ⟨y, ey, my⟩ := at_lt (arr := arrOf st) (i := j) (by rw [hB.size]; exact hj)
  rw [kA_at ex, kA_at ey] at h
  rw [ltAt'_eq]
  refine wpS_bind (wpS_get ?_)
  show wpS _ _ _ _ (elem' (arrOf st) i >>= fun x => elem' (arrOf st) j >>= fun y => lt' x y) Q st
  exact wpS_bind (wpS_elem ex (wpS_bind (wpS_elem ey (C.lt st x y _ hB.kind (hB.keys k0 x mx) (hB.keys k0 y my) h))))
theorem asc_up (C : Cmp prog w A E s kd κ) (k0 : Kd κ a0.toList) {st : SortSt} (hB : SB kd a0 p lo x0 st) {n nrem : Nat} (n1 : 1 ≤ n) (hn : n ≤ nrem) (hr : lo + nrem ≤ a0.size) (hs : SS κ (arrOf st) lo n)
    (f : Nat → (Option (Option Nat) × Nat) → SM (ForInStep (Option (Option Nat) × Nat)))
    (hf : ∀ (x n : Nat) (Q : ForInStep (Option (Option Nat) × Nat) → SortSt → Prop), 1 ≤ n → n < nrem → (κ.klt (kA κ (arrOf st) (lo + n)) (kA κ (arrOf st) (lo + n - 1)) → Q (.done (none, n)) st) → (κ.kle (kA κ (arrOf st) (lo + n - 1)) (kA κ (arrOf st) (lo + n)) → Q (.yield (none, n + 1)) st) → wpS (model prog w) A E s (f x (none, n)) Q st) :
    wpS (model prog w) A E s (forIn [n:nrem] ((none, n) : Option (Option Nat) × Nat) f) (fun c st' => st' = st ∧ ∃ m, c = (none, m) ∧ n ≤ m ∧ m ≤ nrem ∧ SS κ (arrOf st) lo m ∧ (m = nrem ∨ κ.klt (kA κ (arrOf st) (lo + m)) (kA κ (arrOf st) (lo + m - 1)))) st := by
  refine wpS_forRange (I := fun t c st' => st' = st ∧ c = (none, t) ∧ SS κ (arrOf st) lo t) ?_ ?_ ⟨rfl, rfl, hs⟩
  · rintro t c st' h1 h2 ⟨rfl, rfl, hs'⟩
    refine hf t t _ (by omega) h2 (fun z => ⟨rfl, t, rfl, h1, by omega, hs', .inr z⟩) (fun z => ⟨rfl, rfl, fun i j hij hj => ?_⟩)
    by_cases e : j < t
    · exact hs' i j hij e
    · have : j = t := by omega
      subst this
      by_cases e2 : i = j
      · subst e2; exact KeyOrd.kle_refl _
      · refine KeyOrd.kle_trans (hs' i (j - 1) (by omega) (by omega)) ?_
        rw [show lo + (j - 1) = lo + j - 1 by omega]; exact z
  · rintro c st' ⟨rfl, rfl, hs'⟩
    rw [show max n nrem = nrem by omega] at hs' ⊢
    exact ⟨rfl, nrem, rfl, hn, Nat.le_refl _, hs', .inl rfl⟩
theorem wpS_cr (C : Cmp prog w A E s kd κ) (k0 : Kd κ a0.toList) {st : SortSt} (hB : SB kd a0 p lo x0 st) {nrem : Nat} {Q : Option Nat → SortSt → Prop} (n1 : 1 ≤ nrem) (hr : lo + nrem ≤ a0.size)
    (h : ∀ m st', SB kd a0 p lo x0 st' → 1 ≤ m → m ≤ nrem → SS κ (arrOf st') lo m → Q (some m) st') : wpS (model prog w) A E s (countRun' lo nrem) Q st := by
  have s1 : SS κ (arrOf st) lo 1 := fun i j hij hj => by
    have : i = j := by omega
    subst this
    exact KeyOrd.kle_refl _
  refine wpS_bind (wpS_mono (asc_up C k0 hB (Nat.le_refl 1) n1 hr s1 _ fun x n Q h1 h2 q1 q2 => ?_) ?_)
  · (with_reducible conv => arg 5; whnf)
    refine wpS_bind (wpS_at C k0 hB (by omega) (by omega) ?_)
    (try dsimp -zeta only)
    cases e : κ.blt (kA κ (arrOf st) (lo + n)) (kA κ (arrOf st) (lo + n - 1)) with
    | true => rw [if_pos rfl]; exact wpS_pure (q1 e)
    | false => rw [if_neg (by decide)]; (with_reducible conv => arg 5; whnf); exact wpS_pure (q2 e)
  rintro c st' ⟨rfl, n, rfl, m1, m2, hs, hor⟩
  (with_reducible conv => arg 5; whnf)
  (try dsimp -zeta only)
  by_cases hz : (n == nrem) = true
  · rw [if_pos hz]
    exact wpS_pure (h n _ hB m1 m2 hs)
  rw [if_neg hz]
  have hz' : n ≠ nrem := fun z => hz (beq_iff_eq.mpr z)
  have hlt := hor.resolve_left hz'
  extract_lets +onlyGivenNames -merge -underBinder zz_99
  obtain ⟨jp, hjp⟩ : ∃ z, z = zz_99 := ⟨zz_99, rfl⟩
  rw [← hjp]
  suffices J : ∀ st, SB kd a0 p lo x0 st → DS κ (arrOf st) lo (n + 1) → wpS (model prog w) A E s (jp ()) Q st by
    by_cases hg : n > 1
    · rw [if_pos hg]
      refine wpS_bind (wpS_at C k0 hB (by omega) (by omega) ?_)
      (try dsimp -zeta only)
      cases e : κ.blt (kA κ (arrOf st') lo) (kA κ (arrOf st') (lo + n - 1)) with
      | true => rw [if_pos rfl]; exact wpS_pure (h n _ hB m1 m2 hs)
      | false =>
        rw [if_neg (by decide)]
        have hsz : lo + n ≤ (arrOf st').size := by rw [hB.size]; omega
        have all : ∀ k, lo ≤ k → k < lo + n → kA κ (arrOf st') k = kA κ (arrOf st') (lo + n - 1) := fun k b1 b2 => by
          have c1 := hs 0 (k - lo) (by omega) (by omega)
          have c2 := hs (k - lo) (n - 1) (by omega) (by omega)
          rw [show lo + (k - lo) = k by omega] at c1 c2
          rw [show lo + (n - 1) = lo + n - 1 by omega] at c2
          exact KeyOrd.kle_antisymm c2 (KeyOrd.kle_trans (show κ.kle _ _ from e) c1)
        refine wpS_bind (wpS_modify (J _ (hB.set (mirror_perm _ _ _ _) fun i hi => mirror_low hsz i hi) fun i j hij hj => ?_))
        show κ.kle (kA κ (mirror (arrOf st') _ _ _) _) (kA κ (mirror (arrOf st') _ _ _) _)
        rw [kA_same hsz all, kA_same hsz all]
        by_cases hjn : j < n
        · rw [all (lo + i) (by omega) (by omega), all (lo + j) (by omega) (by omega)]; exact KeyOrd.kle_refl _
        · have : j = n := by omega
          subst this
          by_cases e2 : i = j
          · subst e2; exact KeyOrd.kle_refl _
          · rw [all (lo + i) (by omega) (by omega)]; exact KeyOrd.kle_of_klt hlt
    · rw [if_neg hg]
      have : n = 1 := by omega
      subst this
      refine J _ hB fun i j hij hj => ?_
      by_cases e2 : i = j
      · subst e2; exact KeyOrd.kle_refl _
      · have i0 : i = 0 := by omega
        have j1 : j = 1 := by omega
        subst i0 j1
        exact KeyOrd.kle_of_klt hlt
  clear hs hor hlt hB s1
  intro st hB hd
  rw [hjp]
  (try dsimp -zeta only)
  refine wpS_bind (wpS_lift (wpAny_rule ⟨rfl, ?_⟩))
  (with_reducible conv => arg 5; whnf)
  refine wpS_bind (wpS_mono (wpS_forRange (I := fun t c st' => ∃ q, c = (none, t, q) ∧ SB kd a0 p lo x0 st' ∧ DS κ (arrOf st') lo t ∧ q + 1 ≤ t ∧ ∀ i, t - (q + 1) ≤ i → i < t → kA κ (arrOf st') (lo + i) = kA κ (arrOf st') (lo + t - 1))
    (Q := fun c st' => ∃ t q, c = (none, t, q) ∧ 1 ≤ t ∧ t ≤ nrem ∧ SB kd a0 p lo x0 st' ∧ DS κ (arrOf st') lo t ∧ q + 1 ≤ t ∧ ∀ i, t - (q + 1) ≤ i → i < t → kA κ (arrOf st') (lo + i) = kA κ (arrOf st') (lo + t - 1)) ?_ ?_ ⟨0, rfl, hB, hd, by omega, fun i b1 b2 => by rw [show lo + i = lo + (n + 1) - 1 by omega]⟩) ?_)
  · rintro t c st' t1 t2 ⟨q, rfl, hB, hd, hq, he⟩
    have hsz : lo + t ≤ (arrOf st').size := by rw [hB.size]; omega
    (with_reducible conv => arg 5; whnf)
    (try dsimp -zeta only)
    refine wpS_bind (wpS_at C k0 hB (by omega) (by omega) ?_)
    (try dsimp -zeta only)
    extract_lets +onlyGivenNames -merge -underBinder zz_151
    obtain ⟨j1, hj1⟩ : ∃ z, z = zz_151 := ⟨zz_151, rfl⟩
    rw [← hj1]
    cases e : κ.blt (kA κ (arrOf st') (lo + t)) (kA κ (arrOf st') (lo + t - 1)) with
    | true =>
      rw [if_pos rfl]
      extract_lets +onlyGivenNames -merge -underBinder zz_156
      obtain ⟨j2, hj2⟩ : ∃ z, z = zz_156 := ⟨zz_156, rfl⟩
      rw [← hj2]
      have step : ∀ xs : Array Keyed, (∀ k, kA κ xs k = kA κ (arrOf st') k) → DS κ xs lo (t + 1) := fun xs hk i j hij hj => by
        rw [hk, hk]
        by_cases hjt : j < t
        · exact hd i j hij hjt
        · have : j = t := by omega
          subst this
          by_cases e2 : i = j
          · subst e2; exact KeyOrd.kle_refl _
          · refine KeyOrd.kle_trans (KeyOrd.kle_of_klt e) ?_
            have := hd i (j - 1) (by omega) (by omega)
            rwa [show lo + (j - 1) = lo + j - 1 by omega] at this
      have he' : ∀ k, lo + t - (q + 1) ≤ k → k < lo + t → kA κ (arrOf st') k = kA κ (arrOf st') (lo + t - 1) := fun k b1 b2 => by
        have := he (k - lo) (by omega) (by omega)
        rwa [show lo + (k - lo) = k by omega] at this
      split
      · refine wpS_bind (wpS_modify ?_)
        rw [hj2]
        (with_reducible conv => arg 5; whnf)
        rw [hj1]
        (with_reducible conv => arg 5; whnf)
        exact wpS_pure ⟨0, rfl, hB.set (mirror_perm _ _ _ _) fun i hi => mirror_low hsz i (by omega), step _ (kA_same hsz he'), by omega, fun i b1 b2 => by rw [show lo + i = lo + (t + 1) - 1 by omega]⟩
      · rw [hj2]
        (with_reducible conv => arg 5; whnf)
        rw [hj1]
        (with_reducible conv => arg 5; whnf)
        exact wpS_pure ⟨0, rfl, hB, step _ (fun _ => rfl), by omega, fun i b1 b2 => by rw [show lo + i = lo + (t + 1) - 1 by omega]⟩
    | false =>
      rw [if_neg (by decide)]
      refine wpS_bind (wpS_at C k0 hB (by omega) (by omega) ?_)
      (try dsimp -zeta only)
      cases e2 : κ.blt (kA κ (arrOf st') (lo + t - 1)) (kA κ (arrOf st') (lo + t)) with
      | true =>
        rw [if_pos rfl]
        exact wpS_pure ⟨t, q, rfl, by omega, by omega, hB, hd, hq, he⟩
      | false =>
        rw [if_neg (by decide)]
        (with_reducible conv => arg 5; whnf)
        rw [hj1]
        (with_reducible conv => arg 5; whnf)
        have eq : kA κ (arrOf st') (lo + t) = kA κ (arrOf st') (lo + t - 1) := KeyOrd.kle_antisymm e2 e
        refine wpS_pure ⟨q + 1, rfl, hB, fun i j hij hj => ?_, by omega, fun i b1 b2 => ?_⟩
        · by_cases hjt : j < t
          · exact hd i j hij hjt
          · have : j = t := by omega
            subst this
            by_cases e3 : i = j
            · subst e3; exact KeyOrd.kle_refl _
            · rw [eq]
              have := hd i (j - 1) (by omega) (by omega)
              rwa [show lo + (j - 1) = lo + j - 1 by omega] at this
        · rw [show lo + (t + 1) - 1 = lo + t by omega]
          by_cases hit : i = t
          · subst hit; rfl
          · rw [eq]; exact he i (by omega) (by omega)
  · rintro c st' ⟨q, rfl, hB, hd, hq, he⟩
    rw [show max (n + 1) nrem = nrem by omega] at hd hq he ⊢
    exact ⟨nrem, q, rfl, by omega, Nat.le_refl _, hB, hd, hq, he⟩
  clear hB hd
  rintro c st' ⟨t, q, rfl, t1, t2, hB, hd, hq, he⟩
  have hsz : lo + t ≤ (arrOf st').size := by rw [hB.size]; omega
  (extract_lets +onlyGivenNames -merge -underBinder zq218_0 zq218_1 zq218_2 zq218_3; subst zq218_0 zq218_1 zq218_2 zq218_3)
  (try dsimp -zeta only)
  extract_lets +onlyGivenNames -merge -underBinder zz_220
  obtain ⟨j3, hj3⟩ : ∃ z, z = zz_220 := ⟨zz_220, rfl⟩
  rw [← hj3]
  suffices J3 : ∀ st, SB kd a0 p lo x0 st → DS κ (arrOf st) lo t → wpS (model prog w) A E s (j3 ()) Q st by
    split
    · have he' : ∀ k, lo + t - (q + 1) ≤ k → k < lo + t → kA κ (arrOf st') k = kA κ (arrOf st') (lo + t - 1) := fun k b1 b2 => by
        have := he (k - lo) (by omega) (by omega)
        rwa [show lo + (k - lo) = k by omega] at this
      refine wpS_bind (wpS_modify (J3 _ (hB.set (mirror_perm _ _ _ _) fun i hi => mirror_low hsz i (by omega)) fun i j hij hj => ?_))
      show κ.kle (kA κ (mirror (arrOf st') _ _ _) _) (kA κ (mirror (arrOf st') _ _ _) _)
      rw [kA_same hsz he', kA_same hsz he']
      exact hd i j hij hj
    · exact J3 _ hB hd
  clear hB hd he hsz
  intro st hB hd
  rw [hj3]
  (try dsimp -zeta only)
  have hsz : lo + t ≤ (arrOf st).size := by rw [hB.size]; omega
  refine wpS_bind (wpS_modify ?_)
  have hB2 : SB kd a0 p lo x0 (setArr st (mirror (arrOf st) lo (lo + t) ((lo + t - lo) / 2))) := hB.set (mirror_perm _ _ _ _) fun i hi => mirror_low hsz i hi
  refine wpS_bind (wpS_mono (asc_up C k0 hB2 t1 t2 hr (fun i j hij hj => ?_) _ fun x n Q h1 h2 q1 q2 => ?_) ?_)
  · show κ.kle (kA κ (mirror (arrOf st) _ _ _) _) (kA κ (mirror (arrOf st) _ _ _) _)
    rw [kA_mirror hsz, kA_mirror hsz, if_pos (by omega), if_pos (by omega)]
    have := hd (t - 1 - j) (t - 1 - i) (by omega) (by omega)
    rwa [show lo + (t - 1 - i) = lo + (lo + t) - 1 - (lo + i) by omega, show lo + (t - 1 - j) = lo + (lo + t) - 1 - (lo + j) by omega] at this
  · (with_reducible conv => arg 5; whnf)
    refine wpS_bind (wpS_at C k0 hB2 (by omega) (by omega) ?_)
    (try dsimp -zeta only)
    cases e : κ.blt (kA κ (arrOf (setArr st (mirror (arrOf st) lo (lo + t) ((lo + t - lo) / 2)))) (lo + n)) (kA κ (arrOf (setArr st (mirror (arrOf st) lo (lo + t) ((lo + t - lo) / 2)))) (lo + n - 1)) with
    | true => rw [if_pos rfl]; exact wpS_pure (q1 e)
    | false => rw [if_neg (by decide)]; (with_reducible conv => arg 5; whnf); exact wpS_pure (q2 e)
  · rintro c st' ⟨rfl, m, rfl, b1, b2, hs, _⟩
    (with_reducible conv => arg 5; whnf)
    (try dsimp -zeta only)
    exact wpS_pure (h m _ hB2 (by omega) b2 hs)
end
end So
namespace So
open PySem PyProof.Rows
section
variable {prog : Program} {w : World} {A : Around} {E : Value → Shared → Prop} {s : Shared} {kd : SortKind} {κ : KeyKind} {a0 x0 : Array Keyed} {p : Array (Nat × Nat × Nat)} {lo : Nat}
theorem wpS_bs (C : Cmp prog w A E s kd κ) (k0 : Kd κ a0.toList) {st : SortSt} (hB : SB kd a0 p lo x0 st) {n ok : Nat} {Q : Bool → SortSt → Prop} (hn : lo + n ≤ a0.size) (hok : ok ≤ n) (hs : SS κ (arrOf st) lo ok)
    (h : ∀ st', SB kd a0 p lo x0 st' → SS κ (arrOf st') lo n → Q true st') : wpS (model prog w) A E s (binarySort' lo n ok) Q st := by
  refine wpS_bind (wpS_mono (wpS_forRange (I := fun t c st' => c = (none, ()) ∧ SB kd a0 p lo x0 st' ∧ SS κ (arrOf st') lo (min t n))
    (Q := fun c st' => c = (none, ()) ∧ SB kd a0 p lo x0 st' ∧ SS κ (arrOf st') lo n) ?_ ?_ ⟨rfl, hB, fun i j hij hj => ?_⟩) ?_)
  · rintro t c st' t1 t2 ⟨rfl, hB, hs⟩
    rw [show min t n = t by omega] at hs
    (with_reducible conv => arg 5; whnf)
    refine wpS_bind (wpS_mono (wpS_forRange (I := fun x c st2 => st2 = st' ∧ ∃ l r, c = (none, l, r) ∧ l ≤ r ∧ r ≤ t ∧ r - l ≤ t - x ∧ (∀ i, i < l → κ.kle (kA κ (arrOf st') (lo + i)) (kA κ (arrOf st') (lo + t))) ∧ (∀ i, r ≤ i → i < t → κ.klt (kA κ (arrOf st') (lo + t)) (kA κ (arrOf st') (lo + i))))
      (Q := fun c st2 => st2 = st' ∧ ∃ l, c = (none, l, l) ∧ l ≤ t ∧ (∀ i, i < l → κ.kle (kA κ (arrOf st') (lo + i)) (kA κ (arrOf st') (lo + t))) ∧ (∀ i, l ≤ i → i < t → κ.klt (kA κ (arrOf st') (lo + t)) (kA κ (arrOf st') (lo + i)))) ?_ ?_ ⟨rfl, 0, t, rfl, by omega, by omega, by omega, fun i z => by omega, fun i z1 z2 => by omega⟩) ?_)
    · rintro x c st2 _ hx ⟨rfl, l, r, rfl, a1, a2, a3, a4, a5⟩
      (with_reducible conv => arg 5; whnf)
      (try dsimp -zeta only)
      by_cases hg : l ≥ r
      · rw [if_pos hg]
        have : l = r := by omega
        subst this
        exact wpS_pure ⟨rfl, l, rfl, a2, a4, a5⟩
      · rw [if_neg hg]
        (with_reducible conv => arg 5; whnf)
        refine wpS_bind (wpS_at C k0 hB (by omega) (by omega) ?_)
        (try dsimp -zeta only)
        cases e : κ.blt (kA κ (arrOf st2) (lo + t)) (kA κ (arrOf st2) (lo + (l + r) / 2)) with
        | true =>
          rw [if_pos rfl]
          (with_reducible conv => arg 5; whnf)
          exact wpS_pure ⟨rfl, l, (l + r) / 2, rfl, by omega, by omega, by omega, a4, fun i z1 z2 => KeyOrd.klt_of_klt_of_kle e (hs _ _ z1 z2)⟩
        | false =>
          rw [if_neg (by decide)]
          (with_reducible conv => arg 5; whnf)
          exact wpS_pure ⟨rfl, (l + r) / 2 + 1, r, rfl, by omega, by omega, by omega, fun i z => KeyOrd.kle_trans (hs i ((l + r) / 2) (by omega) (by omega)) e, a5⟩
    · rintro c st2 ⟨rfl, l, r, rfl, a1, a2, a3, a4, a5⟩
      have : l = r := by omega
      subst this
      exact ⟨rfl, l, rfl, a2, a4, a5⟩
    · rintro c st2 ⟨rfl, l, rfl, a2, a4, a5⟩
      (with_reducible conv => arg 5; whnf)
      (try dsimp -zeta only)
      have hsz : lo + t < (arrOf st2).size := by rw [hB.size]; omega
      refine wpS_bind (wpS_modify (wpS_pure ⟨rfl, hB.set (bubble_perm _ _ _) fun i hi => bubble_low hsz (by omega) i (by omega), ?_⟩))
      rw [show min (t + 1) n = t + 1 by omega]
      intro i j hij hj
      show κ.kle (kA κ (bubble (arrOf st2) (lo + t) (lo + t - (lo + l))) _) (kA κ (bubble (arrOf st2) (lo + t) (lo + t - (lo + l))) _)
      rw [kA_bubble hsz (by omega), kA_bubble hsz (by omega), show lo + t - (lo + t - (lo + l)) = lo + l by omega]
      repeat' split
      all_goals first
        | (exfalso; omega)
        | exact KeyOrd.kle_refl _
        | exact a4 _ (by omega)
        | exact hs _ _ (by omega) (by omega)
        | (have z := a5 (j - 1) (by omega) (by omega); rw [show lo + (j - 1) = lo + j - 1 by omega] at z; exact KeyOrd.kle_of_klt z)
        | (have z := hs (i - 1) (j - 1) (by omega) (by omega); rw [show lo + (i - 1) = lo + i - 1 by omega, show lo + (j - 1) = lo + j - 1 by omega] at z; exact z)
        | (have z := hs i (j - 1) (by omega) (by omega); rw [show lo + (j - 1) = lo + j - 1 by omega] at z; exact z)
  · rintro c st' ⟨rfl, hB, hs⟩
    rw [show min (max (max ok 1) n) n = n by omega] at hs
    exact ⟨rfl, hB, hs⟩
  · by_cases e : ok = 0
    · have : i = j := by omega
      subst this; exact KeyOrd.kle_refl _
    · exact hs i j hij (by omega)
  · rintro c st' ⟨rfl, hB, hs⟩
    (with_reducible conv => arg 5; whnf)
    (try dsimp -zeta only)
    exact wpS_pure (h st' hB hs)
theorem put_list {α : Type} (sa : Nat) : ∀ (m : List α) (k : Nat) (xs : Array α), sa + k + m.length ≤ xs.size → ((m.zipIdx k).foldl (fun a x => a.setIfInBounds (sa + x.2) x.1) xs).toList = xs.toList.take (sa + k) ++ m ++ xs.toList.drop (sa + k + m.length)
  | [], k, xs, h => by
    rw [List.zipIdx_nil, List.foldl_nil, List.append_nil, List.length_nil, Nat.add_zero, List.take_append_drop]
  | x :: m, k, xs, h => by
    rw [List.length_cons] at h
    rw [List.zipIdx_cons, List.foldl_cons, put_list sa m (k + 1) _ (by rw [Array.size_setIfInBounds]; omega), Array.toList_setIfInBounds]
    have hl : sa + k < xs.toList.length := by rw [Array.length_toList]; omega
    rw [show sa + (k + 1) = sa + k + 1 by omega, List.take_succ_eq_append_getElem (by rw [List.length_set]; exact hl), List.getElem_set_self, List.take_set_of_le (Nat.le_refl _), List.drop_set_of_lt (by omega), List.length_cons, show sa + k + 1 + m.length = sa + k + (m.length + 1) by omega]
    simp
theorem seg_mem {arr : Array Keyed} {x : Keyed} {i n : Nat} (h : x ∈ (arr.extract i n).toList) : ∃ j, i ≤ j ∧ j < n ∧ arr[j]? = some x := by
  rw [ext_td] at h
  exact mem_td h
theorem seg_srt {arr : Array Keyed} {i n : Nat} (h : ∀ a b, i ≤ a → a ≤ b → b < n → κ.kle (kA κ arr a) (kA κ arr b)) (hn : n ≤ arr.size) : Srt κ (arr.extract i n).toList := by
  unfold Srt
  rw [List.pairwise_iff_getElem]
  intro a b ha hb hab
  have get : ∀ c (hc : c < (arr.extract i n).toList.length), arr[i + c]? = some ((arr.extract i n).toList[c]) := fun c hc => by
    have e1 : (arr.extract i n).toList[c]? = some ((arr.extract i n).toList[c]) := List.getElem?_eq_getElem hc
    have e3 : c < (arr.extract i n).size := by rw [← Array.length_toList]; exact hc
    rw [Array.size_extract] at e3
    rw [← e1, ext_td, List.getElem?_drop, List.getElem?_take, if_pos (by omega), Array.getElem?_toList]
  have lb : b < (arr.extract i n).size := by rw [← Array.length_toList]; exact hb
  rw [Array.size_extract] at lb
  have := h (i + a) (i + b) (by omega) (by omega) (by omega)
  rwa [kA_at (get a ha), kA_at (get b hb)] at this
end
end So
namespace So
open PySem PyProof.Rows
section
variable {prog : Program} {w : World} {A : Around} {E : Value → Shared → Prop} {s : Shared} {kd : SortKind} {κ : KeyKind} {a0 x0 : Array Keyed}
theorem join_ss {arr : Array Keyed} {n1 n : Nat} (h1 : SS κ arr 0 n1) (h2 : SS κ arr n1 (n - n1)) (h : ∀ i j, i < n1 → n1 ≤ j → j < n → κ.kle (kA κ arr i) (kA κ arr j)) : ∀ i j, i ≤ j → j < n → κ.kle (kA κ arr i) (kA κ arr j) := fun i j hij hj => by
  by_cases z1 : j < n1
  · have := h1 i j hij z1
    rwa [Nat.zero_add, Nat.zero_add] at this
  · by_cases z2 : i < n1
    · exact h i j z2 (by omega) hj
    · have := h2 (i - n1) (j - n1) (by omega) (by omega)
      rwa [show n1 + (i - n1) = i by omega, show n1 + (j - n1) = j by omega] at this
structure Fin2 (kd : SortKind) (κ : KeyKind) (a0 : Array Keyed) (st : SortSt) : Prop where
  perm : (arrOf st).Perm a0
  fail : failedOf st = none
  one : (pendingOf st).size = 1
  srt : ∀ i j, i ≤ j → j < a0.size → κ.kle (kA κ (arrOf st) i) (kA κ (arrOf st) j)
theorem wpS_mergeAt (C : Cmp prog w A E s kd κ) (k0 : Kd κ a0.toList) {st : SortSt} {n1 pw q : Nat} (hB : SB kd a0 #[(0, n1, pw), (n1, a0.size - n1, q)] 0 x0 st) {Q : Bool → SortSt → Prop} (h1 : 1 ≤ n1) (h2 : n1 < a0.size) (s1 : SS κ (arrOf st) 0 n1) (s2 : SS κ (arrOf st) n1 (a0.size - n1))
    (h : ∀ st', Fin2 kd κ a0 st' → Q true st') : wpS (model prog w) A E s (mergeAt' 0) Q st := by
  have sz := hB.size
  have kk := hB.keys k0
  refine wpS_bind (wpS_get ?_)
  (try dsimp -zeta only)
  have e0 : (pendingOf st)[0]? = some (0, n1, pw) := by rw [hB.pend]; rfl
  have e1 : (pendingOf st)[0 + 1]? = some (n1, a0.size - n1, q) := by rw [hB.pend]; rfl
  obtain ⟨P, eP, hP⟩ : ∃ P, ((pendingOf st).setIfInBounds 0 (0, n1 + (a0.size - n1), pw)).eraseIdxIfInBounds (0 + 1) = P ∧ P.size = 1 := ⟨_, rfl, by rw [hB.pend]; simp [Array.eraseIdxIfInBounds]⟩
  show wpS (model prog w) A E s (match ((pendingOf st)[0]?, (pendingOf st)[0 + 1]?) with | _ => _) Q st
  rw [e0, e1]
  (try dsimp -zeta only)
  refine wpS_bind ?_
  show wpS (model prog w) A E s (set (SortSt.mk' (kindOf st) (arrOf st) (((pendingOf st).setIfInBounds 0 (0, n1 + (a0.size - n1), pw)).eraseIdxIfInBounds (0 + 1)) (gallopOf st) (failedOf st))) _ st
  rw [eP]
  unfold wpS
  rw [StateT.run_set]
  refine wpAny_pure ⟨rfl, ?_⟩
  show wpS (model prog w) A E s _ Q (SortSt.mk' (kindOf st) (arrOf st) P (gallopOf st) (failedOf st))
  obtain ⟨xb, eb, mb⟩ := at_lt (arr := arrOf st) (i := n1) (by omega)
  refine wpS_bind (wpS_elem eb ?_)
  refine wpS_bind (wpS_right C (arr := arrOf st) (key := xb) hB.kind (kk _ mb) kk (by omega) (by omega) (fun i j hij hj => s1 i j hij hj) fun k k1 k2 k3 => ?_)
  simp only [Nat.zero_add] at k2 k3
  (try dsimp -zeta only)
  have up : ∀ i j, n1 ≤ i → i ≤ j → j < a0.size → κ.kle (kA κ (arrOf st) i) (kA κ (arrOf st) j) := fun i j z1 z2 z3 => by
    have := s2 (i - n1) (j - n1) (by omega) (by omega)
    rwa [show n1 + (i - n1) = i by omega, show n1 + (j - n1) = j by omega] at this
  have dn : ∀ i j, i ≤ j → j < n1 → κ.kle (kA κ (arrOf st) i) (kA κ (arrOf st) j) := fun i j z1 z2 => by
    have := s1 i j z1 z2
    rwa [Nat.zero_add, Nat.zero_add] at this
  by_cases hz : (n1 - k == 0) = true
  · rw [if_pos hz]
    have hz' := beq_iff_eq.mp hz
    refine wpS_pure (h _ ⟨hB.perm, hB.fail, hP, join_ss s1 s2 fun i j z1 z2 z3 => ?_⟩)
    have := k2 i (by omega)
    rw [← kA_at (κ := κ) eb] at this
    exact KeyOrd.kle_trans this (up n1 j (Nat.le_refl _) z2 z3)
  rw [if_neg hz]
  have hz' : n1 - k ≠ 0 := fun z => hz (beq_iff_eq.mpr z)
  obtain ⟨xa, ea, ma⟩ := at_lt (arr := arrOf st) (i := 0 + k + (n1 - k) - 1) (by omega)
  refine wpS_bind (wpS_elem ea ?_)
  rw [show 0 + k + (n1 - k) - 1 = n1 - 1 by omega] at ea
  refine wpS_bind (wpS_left C (arr := arrOf st) (key := xa) hB.kind (kk _ ma) kk (by omega) (by omega) (fun i j hij hj => s2 i j hij hj) fun l l1 l2 l3 => ?_)
  (try dsimp -zeta only)
  by_cases hy : (l == 0) = true
  · rw [if_pos hy]
    have hy' := beq_iff_eq.mp hy
    refine wpS_pure (h _ ⟨hB.perm, hB.fail, hP, join_ss s1 s2 fun i j z1 z2 z3 => ?_⟩)
    have := l3 (j - n1) (by omega) (by omega)
    rw [← kA_at (κ := κ) ea, show n1 + (j - n1) = j by omega] at this
    exact KeyOrd.kle_trans (dn i (n1 - 1) (by omega) (by omega)) this
  rw [if_neg hy]
  have hy' : l ≠ 0 := fun z => hy (beq_iff_eq.mpr z)
  (extract_lets +onlyGivenNames -merge -underBinder zq76_0 zq76_1; subst zq76_0 zq76_1)
  extract_lets +onlyGivenNames -merge -underBinder zz_77
  obtain ⟨jp, hjp⟩ : ∃ z, z = zz_77 := ⟨zz_77, rfl⟩
  rw [← hjp]
  unfold zz_77 at hjp
  rw [Nat.zero_add] at hjp ⊢
  have sA : Srt κ ((arrOf st).extract k n1).toList := seg_srt (fun a b z1 z2 z3 => dn a b z2 z3) (by omega)
  have sB : Srt κ ((arrOf st).extract n1 (n1 + l)).toList := seg_srt (fun a b z1 z2 z3 => up a b z1 z2 (by omega)) (by omega)
  have kA' : Kd κ ((arrOf st).extract k n1).toList := fun x hx => by
    obtain ⟨j, _, _, e⟩ := seg_mem hx
    exact kk x (by have := List.mem_of_getElem? (by rw [Array.getElem?_toList]; exact e : (arrOf st).toList[j]? = some x); exact this)
  have kB' : Kd κ ((arrOf st).extract n1 (n1 + l)).toList := fun x hx => by
    obtain ⟨j, _, _, e⟩ := seg_mem hx
    exact kk x (by have := List.mem_of_getElem? (by rw [Array.getElem?_toList]; exact e : (arrOf st).toList[j]? = some x); exact this)
  have zA : ((arrOf st).extract k n1).size = n1 - k := by rw [Array.size_extract]; omega
  have zB : ((arrOf st).extract n1 (n1 + l)).size = l := by rw [Array.size_extract]; omega
  have gA : ∀ i, i < n1 - k → ((arrOf st).extract k n1)[i]? = (arrOf st)[k + i]? := fun i hi => by rw [Array.getElem?_extract, if_pos (by omega)]
  have gB : ∀ i, i < l → ((arrOf st).extract n1 (n1 + l))[i]? = (arrOf st)[n1 + i]? := fun i hi => by rw [Array.getElem?_extract, if_pos (by omega)]
  have first : ∀ x y, ((arrOf st).extract n1 (n1 + l))[0]? = some x → ((arrOf st).extract k n1)[0]? = some y → κ.kle (kf κ x) (kf κ y) := fun x y ex ey => by
    rw [gB 0 (by omega)] at ex
    rw [gA 0 (by omega)] at ey
    have := k3 k (Nat.le_refl _) (by omega)
    rw [← kA_at (κ := κ) eb] at this
    rw [← kA_at (κ := κ) ex, ← kA_at (κ := κ) ey]
    exact KeyOrd.kle_of_klt this
  have last : ∀ x ∈ ((arrOf st).extract n1 (n1 + l)).toList, ∀ y, ((arrOf st).extract k n1)[((arrOf st).extract k n1).size - 1]? = some y → κ.kle (kf κ x) (kf κ y) := fun x hx y ey => by
    obtain ⟨j, j1, j2, e⟩ := seg_mem hx
    rw [zA, gA _ (by omega), show k + (n1 - k - 1) = n1 - 1 by omega, ea] at ey
    cases ey
    have := l2 (j - n1) (by omega)
    rw [show n1 + (j - n1) = j by omega, kA_at e] at this
    exact KeyOrd.kle_of_klt this
  suffices J : ∀ (m : Array Keyed) g, Gd κ ((arrOf st).extract k n1).toList ((arrOf st).extract n1 (n1 + l)).toList m.toList → wpS (model prog w) A E s (jp m) Q (setGal (SortSt.mk' (kindOf st) (arrOf st) P (gallopOf st) (failedOf st)) g) by
    split
    · exact wpS_bind (wpS_mLo C (a := (arrOf st).extract k n1) (b := (arrOf st).extract n1 (n1 + l)) hB.kind kA' kB' sA sB (by rw [zA]; omega) (by rw [zB]; omega) first last J)
    · exact wpS_bind (wpS_mHi C (a := (arrOf st).extract k n1) (b := (arrOf st).extract n1 (n1 + l)) hB.kind kA' kB' sA sB (by rw [zA]; omega) (by rw [zB]; omega) first last J)
  intro m g gd
  rw [hjp]
  (try dsimp -zeta only)
  have lm : m.toList.length = (n1 - k) + l := by
    rw [gd.1.length_eq, List.length_append, Array.length_toList, Array.length_toList, zA, zB]
  have eL := put_list k m.toList 0 (arrOf st) (by omega)
  rw [Nat.add_zero, lm, show k + (n1 - k + l) = n1 + l by omega] at eL
  refine wpS_bind (wpS_modify (wpS_bind (wpS_get ?_)))
  have fin : ∀ xs : Array Keyed, xs.toList = (arrOf st).toList.take k ++ m.toList ++ (arrOf st).toList.drop (n1 + l) → xs.Perm a0 ∧ ∀ i j, i ≤ j → j < a0.size → κ.kle (kA κ xs i) (kA κ xs j) := fun xs ex => by
    have hp : xs.toList.Perm (arrOf st).toList := by
      rw [ex]
      have e1 : (arrOf st).toList = (arrOf st).toList.take k ++ (((arrOf st).extract k n1).toList ++ ((arrOf st).extract n1 (n1 + l)).toList) ++ (arrOf st).toList.drop (n1 + l) := by
        rw [ext_td, ext_td]
        have t1 : (arrOf st).toList.take k ++ ((arrOf st).toList.take n1).drop k = (arrOf st).toList.take n1 := by
          have := List.take_append_drop k ((arrOf st).toList.take n1)
          rwa [List.take_take, Nat.min_eq_left (by omega)] at this
        have t2 : (arrOf st).toList.take n1 ++ ((arrOf st).toList.take (n1 + l)).drop n1 = (arrOf st).toList.take (n1 + l) := by
          have := List.take_append_drop n1 ((arrOf st).toList.take (n1 + l))
          rwa [List.take_take, Nat.min_eq_left (by omega)] at this
        rw [← List.append_assoc, t1, t2, List.take_append_drop]
      exact (List.Perm.append_right _ (List.Perm.append_left _ gd.1)).trans (by rw [← e1])
    refine ⟨(Array.perm_iff_toList_perm.mpr hp).trans hB.perm, fun i j hij hj => ?_⟩
    have hs : Srt κ xs.toList := by
      rw [ex]
      have mm : ∀ x ∈ m.toList, (∃ j, k ≤ j ∧ j < n1 ∧ (arrOf st)[j]? = some x) ∨ (∃ j, n1 ≤ j ∧ j < n1 + l ∧ (arrOf st)[j]? = some x) := fun x hx => by
        rcases List.mem_append.mp (gd.1.mem_iff.mp hx) with z | z
        · exact .inl (seg_mem z)
        · exact .inr (seg_mem z)
      have mT : ∀ x ∈ (arrOf st).toList.take k, ∃ j, j < k ∧ (arrOf st)[j]? = some x := fun x hx => mem_tk hx
      have mD : ∀ x ∈ (arrOf st).toList.drop (n1 + l), ∃ j, n1 + l ≤ j ∧ j < a0.size ∧ (arrOf st)[j]? = some x := fun x hx => by
        rw [← ext_end] at hx
        obtain ⟨j, j1, j2, e⟩ := seg_mem hx
        exact ⟨j, j1, by omega, e⟩
      refine srt_app.mpr ⟨srt_app.mpr ⟨?_, gd.2, fun x hx y hy => ?_⟩, ?_, fun x hx y hy => ?_⟩
      · rw [← ext_tk]
        exact seg_srt (fun a b z1 z2 z3 => dn a b z2 (by omega)) (by omega)
      · obtain ⟨i, i1, ei⟩ := mT x hx
        rw [← kA_at (κ := κ) ei]
        rcases mm y hy with ⟨j, j1, j2, ej⟩ | ⟨j, j1, j2, ej⟩
        · rw [← kA_at (κ := κ) ej]
          exact dn i j (by omega) j2
        · rw [← kA_at (κ := κ) ej]
          have := k2 i i1
          rw [← kA_at (κ := κ) eb] at this
          exact KeyOrd.kle_trans this (up n1 j (Nat.le_refl _) j1 (by omega))
      · rw [← ext_end]
        exact seg_srt (fun a b z1 z2 z3 => up a b (by omega) z2 (by omega)) (Nat.le_refl _)
      · obtain ⟨j, j1, j2, ej⟩ := mD y hy
        rw [← kA_at (κ := κ) ej]
        have tail : ∀ i, i < n1 → κ.kle (kA κ (arrOf st) i) (kA κ (arrOf st) j) := fun i hi => by
          have := l3 (j - n1) (by omega) (by omega)
          rw [← kA_at (κ := κ) ea, show n1 + (j - n1) = j by omega] at this
          exact KeyOrd.kle_trans (dn i (n1 - 1) (by omega) (by omega)) this
        rcases List.mem_append.mp hx with z | z
        · obtain ⟨i, i1, ei⟩ := mT x z
          rw [← kA_at (κ := κ) ei]
          exact tail i (by omega)
        · rcases mm x z with ⟨i, i1, i2, ei⟩ | ⟨i, i1, i2, ei⟩
          · rw [← kA_at (κ := κ) ei]
            exact tail i i2
          · rw [← kA_at (κ := κ) ei]
            exact up i j i1 (by omega) j2
    refine srt_kA hs hij ?_
    rw [← Array.length_toList, hp.length_eq, Array.length_toList]; omega
  obtain ⟨f1, f2⟩ := fin _ eL
  have := wpS_pure (M := model prog w) (A := A) (E := E) (s := s) (a := true) (Q := Q) (h (SortSt.mk' (kindOf st) ((m.toList.zipIdx 0).foldl (fun a x => a.setIfInBounds (k + x.2) x.1) (arrOf st)) P g (failedOf st)) ⟨f1, hB.fail, hP, f2⟩)
  show wpS (model prog w) A E s (pure (failedOf st).isNone) Q _
  have e : (failedOf st).isNone = true := by rw [hB.fail]; rfl
  rw [e]
  exact this
end
end So
namespace So
open PySem PyProof.Rows
theorem min_run {n : Nat} (h2 : 2 ≤ n) (h : n < 128) : n ≤ 2 * minRun' n n 0 ∧ minRun' n n 0 ≤ n := by
  obtain ⟨f, rfl⟩ : ∃ f, n = f + 2 := ⟨n - 2, by omega⟩
  have e : minRun' (f + 2) (f + 2) 0 = if f + 2 < 64 then f + 2 + 0 else if (f + 2) / 2 < 64 then (f + 2) / 2 + max 0 ((f + 2) % 2) else minRun' f ((f + 2) / 2 / 2) (max (max 0 ((f + 2) % 2)) ((f + 2) / 2 % 2)) := by
    rw [minRun'_succ, minRun'_succ]
  rw [e]
  split
  · omega
  · rw [if_pos (by omega)]; omega
section
variable {prog : Program} {w : World} {A : Around} {E : Value → Shared → Prop} {s : Shared} {kd : SortKind} {κ : KeyKind} {a0 : Array Keyed}
theorem wpS_runs (C : Cmp prog w A E s kd κ) (k0 : Kd κ a0.toList) {st : SortSt} (hB : SB kd a0 #[] 0 a0 st) {Q : Unit → SortSt → Prop} (h2 : 2 ≤ a0.size) (h128 : a0.size < 128)
    (h : ∀ st', (arrOf st').Perm a0 → failedOf st' = none → (∀ i j, i ≤ j → j < a0.size → κ.kle (kA κ (arrOf st') i) (kA κ (arrOf st') j)) → Q () st') : wpS (model prog w) A E s sortRuns' Q st := by
  obtain ⟨m1, m2⟩ := min_run h2 h128
  refine wpS_bind (wpS_get ?_)
  show wpS (model prog w) A E s (have size := (arrOf st).size; have minrun := minRun' size size 0; _) Q st
  rw [hB.size]
  (with_reducible conv => arg 5; whnf)
  obtain ⟨mr, emr⟩ : ∃ mr, minRun' a0.size a0.size 0 = mr := ⟨_, rfl⟩
  rw [emr] at m1 m2
  rw [show (sortPriv% PySem.Builtin.minRun) a0.size a0.size 0 = mr from emr]
  refine wpS_bind (wpS_mono (wpS_forRange (I := fun t c st' => (t = 0 ∧ c = (none, 0) ∧ SB kd a0 #[] 0 a0 st') ∨
      (t = 1 ∧ ∃ n1, c = (none, n1) ∧ 1 ≤ n1 ∧ n1 ≤ a0.size ∧ mr ≤ n1 ∧ SB kd a0 #[(0, n1, 0)] 0 a0 st' ∧ SS κ (arrOf st') 0 n1) ∨
      (2 ≤ t ∧ ∃ n1 pw, c = (none, a0.size) ∧ 1 ≤ n1 ∧ n1 < a0.size ∧ SB kd a0 #[(0, n1, pw), (n1, a0.size - n1, 0)] 0 a0 st' ∧ SS κ (arrOf st') 0 n1 ∧ SS κ (arrOf st') n1 (a0.size - n1)))
    (Q := fun c st' => c.1 = none ∧ ((SB kd a0 #[(0, a0.size, 0)] 0 a0 st' ∧ SS κ (arrOf st') 0 a0.size) ∨ ∃ n1 pw, 1 ≤ n1 ∧ n1 < a0.size ∧ SB kd a0 #[(0, n1, pw), (n1, a0.size - n1, 0)] 0 a0 st' ∧ SS κ (arrOf st') 0 n1 ∧ SS κ (arrOf st') n1 (a0.size - n1))) ?_ ?_ (.inl ⟨rfl, rfl, hB⟩)) ?_)
  · rintro t c st' _ ht (⟨rfl, rfl, hB⟩ | ⟨rfl, n1, rfl, b1, b2, b3, hB, s1⟩ | ⟨t2, n1, pw, rfl, b1, b2, hB, s1, s2⟩)
    · (with_reducible conv => arg 5; whnf)
      rw [if_neg (by show ¬ 0 ≥ a0.size; omega)]
      refine wpS_bind (wpS_cr C k0 hB (by show 1 ≤ a0.size - 0; omega) (by show 0 + (a0.size - 0) ≤ a0.size; omega) fun m st2 hB2 r1 r2 hs => ?_)
      (try dsimp -zeta only)
      (rw [show m = id m from rfl]; extract_lets +onlyGivenNames -merge -underBinder zq37; subst zq37; (try dsimp -zeta only [id]))
      extract_lets +onlyGivenNames -merge -underBinder zz_38
      obtain ⟨jp, hjp⟩ : ∃ z, z = zz_38 := ⟨zz_38, rfl⟩
      rw [← hjp]
      suffices J : ∀ n st2, SB kd a0 #[] 0 a0 st2 → 1 ≤ n → n ≤ a0.size → mr ≤ n → SS κ (arrOf st2) 0 n → wpS (model prog w) A E s (jp () n) _ st2 by
        by_cases hlt : m < mr
        · rw [if_pos hlt]
          refine wpS_bind (wpS_lift (wpAny_rule ⟨rfl, ?_⟩))
          (with_reducible conv => arg 5; whnf)
          rw [show min (a0.size - 0) mr = mr by omega]
          refine wpS_bind (wpS_bs C k0 hB2 (by omega) (by omega) hs fun st3 hB3 hs3 => ?_)
          rw [if_neg (by decide)]
          (with_reducible conv => arg 5; whnf)
          exact J _ _ hB3 (by omega) m2 (Nat.le_refl _) hs3
        · rw [if_neg hlt]
          have r2' : m ≤ a0.size - 0 := r2
          exact J _ _ hB2 r1 (by omega) (by omega) hs
      clear hB hB2 hs
      intro n st2 hB r1 r2 r3 hs
      rw [hjp]
      (try dsimp -zeta only)
      refine wpS_bind (wpS_get ?_)
      skip
      extract_lets +onlyGivenNames -merge -underBinder zz_59
      obtain ⟨jp2, hjp2⟩ : ∃ z, z = zz_59 := ⟨zz_59, rfl⟩
      rw [← hjp2]
      show wpS (model prog w) A E s (match (pendingOf st2).back? with | _ => _) _ st2
      rw [show (pendingOf st2).back? = none by rw [hB.pend]; rfl]
      (try dsimp -zeta only)
      rw [hjp2]
      (try dsimp -zeta only)
      refine wpS_bind (wpS_modify ?_)
      (with_reducible conv => arg 5; whnf)
      refine wpS_pure (.inr (.inl ⟨rfl, n, by show (none, 0 + n) = (none, n); rw [Nat.zero_add], r1, r2, r3, ⟨hB.perm, hB.kind, hB.fail, ?_, hB.low⟩, hs⟩))
      show (pendingOf st2).push _ = _
      rw [hB.pend]; rfl
    · (with_reducible conv => arg 5; whnf)
      by_cases full : n1 ≥ a0.size
      · rw [if_pos (by exact full)]
        have : n1 = a0.size := by omega
        subst this
        exact wpS_pure ⟨rfl, .inl ⟨hB, s1⟩⟩
      rw [if_neg (by exact full)]
      have hB1 : SB kd a0 #[(0, n1, 0)] n1 (arrOf st') st' := ⟨hB.perm, hB.kind, hB.fail, hB.pend, fun _ _ => rfl⟩
      refine wpS_bind (wpS_cr C k0 hB1 (by show 1 ≤ a0.size - n1; omega) (by show n1 + (a0.size - n1) ≤ a0.size; omega) fun m st2 hB2 r1 r2 hs => ?_)
      have r2' : m ≤ a0.size - n1 := r2
      (try dsimp -zeta only)
      (rw [show m = id m from rfl]; extract_lets +onlyGivenNames -merge -underBinder zq82; subst zq82; (try dsimp -zeta only [id]))
      extract_lets +onlyGivenNames -merge -underBinder zz_83
      obtain ⟨jp, hjp⟩ : ∃ z, z = zz_83 := ⟨zz_83, rfl⟩
      rw [← hjp]
      suffices J : ∀ st2, SB kd a0 #[(0, n1, 0)] n1 (arrOf st') st2 → SS κ (arrOf st2) n1 (a0.size - n1) → wpS (model prog w) A E s (jp () (a0.size - n1)) _ st2 by
        by_cases hlt : m < mr
        · rw [if_pos hlt]
          refine wpS_bind (wpS_lift (wpAny_rule ⟨rfl, ?_⟩))
          (with_reducible conv => arg 5; whnf)
          rw [show min (a0.size - n1) mr = a0.size - n1 by omega]
          refine wpS_bind (wpS_bs C k0 hB2 (by omega) (by omega) hs fun st3 hB3 hs3 => ?_)
          rw [if_neg (by decide)]
          (with_reducible conv => arg 5; whnf)
          exact J _ hB3 hs3
        · rw [if_neg hlt]
          have : m = a0.size - n1 := by omega
          subst this
          exact J _ hB2 hs
      clear hB hB2 hs
      intro st2 hB hs
      have s1' : SS κ (arrOf st2) 0 n1 := fun i j hij hj => by
        have := s1 i j hij hj
        rwa [kA_congr (κ := κ) (hB.low (0 + i) (by omega)), kA_congr (κ := κ) (hB.low (0 + j) (by omega))]
      rw [hjp]
      (try dsimp -zeta only)
      refine wpS_bind (wpS_get ?_)
      skip
      extract_lets +onlyGivenNames -merge -underBinder zz_108
      obtain ⟨jp2, hjp2⟩ : ∃ z, z = zz_108 := ⟨zz_108, rfl⟩
      rw [← hjp2]
      show wpS (model prog w) A E s (match (pendingOf st2).back? with | _ => _) _ st2
      rw [show (pendingOf st2).back? = some (0, n1, 0) by rw [hB.pend]; rfl]
      (try dsimp -zeta only)
      (with_reducible conv => arg 5; whnf)
      generalize (sortPriv% PySem.Builtin.power) a0.size (2 * 0 + n1) (2 * 0 + n1 + n1 + (a0.size - n1)) a0.size = pw
      refine wpS_bind (wpS_mono (wpS_forRange (I := fun t c st' => st' = st2 ∧ c = (none, ())) (Q := fun c st' => st' = st2 ∧ c = (none, ())) ?_ (fun c st' z => z) ⟨rfl, rfl⟩) ?_)
      · rintro t c st3 _ _ ⟨rfl, rfl⟩
        refine wpS_bind (wpS_get ?_)
        show wpS (model prog w) A E s (match if (pendingOf st3).size > 1 then (pendingOf st3)[(pendingOf st3).size - 2]? else none with | _ => _) _ st3
        rw [if_neg (by rw [hB.pend]; show ¬ 1 > 1; omega)]
        exact wpS_pure ⟨rfl, rfl⟩
      · rintro c st3 ⟨rfl, rfl⟩
        (with_reducible conv => arg 5; whnf)
        (try dsimp -zeta only)
        refine wpS_bind (wpS_modify ?_)
        rw [hjp2]
        (try dsimp -zeta only)
        refine wpS_bind (wpS_modify ?_)
        (with_reducible conv => arg 5; whnf)
        refine wpS_pure (.inr (.inr ⟨Nat.le_refl _, n1, pw, by show (none, n1 + (a0.size - n1)) = (none, a0.size); rw [show n1 + (a0.size - n1) = a0.size by omega], b1, by omega, ⟨hB.perm, hB.kind, hB.fail, ?_, fun i hi => by omega⟩, s1', hs⟩))
        show ((pendingOf st3).modify ((pendingOf st3).size - 1) _).push _ = _
        rw [hB.pend]; rfl
    · (with_reducible conv => arg 5; whnf)
      rw [if_pos (by show a0.size ≥ a0.size; exact Nat.le_refl _)]
      exact wpS_pure ⟨rfl, .inr ⟨n1, pw, b1, b2, hB, s1, s2⟩⟩
  · rintro c st' (⟨z, _⟩ | ⟨z, _⟩ | ⟨t2, n1, pw, rfl, b1, b2, hB, s1, s2⟩)
    · omega
    · omega
    · exact ⟨rfl, .inr ⟨n1, pw, b1, b2, hB, s1, s2⟩⟩
  · rintro c st' ⟨e, hor⟩
    obtain ⟨c1, c2⟩ := c
    simp only at e
    subst e
    (with_reducible conv => arg 5; whnf)
    (try dsimp -zeta only)
    refine wpS_bind (wpS_mono (wpS_forRange (I := fun t c st2 => c = (none, ()) ∧ ((t = 0 ∧ st2 = st') ∨ (Fin2 kd κ a0 st2)))
      (Q := fun c st2 => c = (none, ()) ∧ Fin2 kd κ a0 st2) ?_ ?_ ⟨rfl, .inl ⟨rfl, rfl⟩⟩) ?_)
    · rintro t c st2 _ ht ⟨rfl, z⟩
      (try dsimp -zeta only)
      refine wpS_bind (wpS_get ?_)
      show wpS (model prog w) A E s (have p := pendingOf st2; _) _ st2
      rcases z with ⟨rfl, rfl⟩ | f
      · rcases hor with ⟨hB, hs⟩ | ⟨n1, pw, b1, b2, hB, s1, s2⟩
        · have hp1 : (pendingOf st2).size = 1 := by rw [hB.pend]; rfl
          (with_reducible conv => arg 5; whnf)
          rw [if_pos (by show (pendingOf st2).size ≤ 1; omega)]
          exact wpS_pure ⟨rfl, ⟨hB.perm, hB.fail, by rw [hB.pend]; rfl, fun i j hij hj => by have := hs i j hij hj; rwa [Nat.zero_add, Nat.zero_add] at this⟩⟩
        · have hp2 : (pendingOf st2).size = 2 := by rw [hB.pend]; rfl
          (with_reducible conv => arg 5; whnf)
          rw [if_neg (by show ¬ (pendingOf st2).size ≤ 1; omega)]
          (with_reducible conv => arg 5; whnf)
          refine wpS_bind ?_
          show wpS (model prog w) A E s (mergeAt' (if Option.any _ (if (pendingOf st2).size - 2 > 0 then _ else none) = true then _ else (pendingOf st2).size - 2)) _ st2
          rw [if_neg (c := (pendingOf st2).size - 2 > 0) (by omega), if_neg (by rw [Option.any_none]; decide), hp2]
          refine wpS_mergeAt C k0 hB b1 b2 s1 s2 fun st3 f => ?_
          rw [if_neg (by decide)]
          exact wpS_pure ⟨rfl, .inr f⟩
      · (with_reducible conv => arg 5; whnf)
        rw [if_pos (by show (pendingOf st2).size ≤ 1; rw [f.one]; decide)]
        exact wpS_pure ⟨rfl, f⟩
    · rintro c st2 ⟨rfl, z⟩
      rcases z with ⟨z, _⟩ | f
      · omega
      · exact ⟨rfl, f⟩
    · rintro c st2 ⟨rfl, f⟩
      (with_reducible conv => arg 5; whnf)
      (try dsimp -zeta only)
      exact wpS_pure (h st2 f.perm f.fail f.srt)
end
end So
namespace So
open PySem PyProof.Rows
def lexLt : List Int → List Int → Bool
  | [], [] => false
  | [], _ :: _ => true
  | _ :: _, [] => false
  | x :: xs, y :: ys => if x = y then lexLt xs ys else decide (x < y)
theorem lex_irr : ∀ a, lexLt a a = false
  | [] => rfl
  | x :: xs => by unfold lexLt; rw [if_pos rfl]; exact lex_irr xs
theorem lex_tr : ∀ a b c, lexLt a b = true → lexLt b c = true → lexLt a c = true
  | [], [], _, h, _ => by cases h
  | [], _ :: _, [], _, h => by cases h
  | [], _ :: _, _ :: _, _, _ => rfl
  | _ :: _, [], _, h, _ => by cases h
  | _ :: _, _ :: _, [], _, h => by cases h
  | x :: xs, y :: ys, z :: zs, h1, h2 => by
    unfold lexLt at h1 h2 ⊢
    by_cases e1 : x = y
    · subst e1
      rw [if_pos rfl] at h1
      by_cases e2 : x = z
      · subst e2
        rw [if_pos rfl] at h2 ⊢
        exact lex_tr xs ys zs h1 h2
      · rw [if_neg e2] at h2 ⊢; exact h2
    · rw [if_neg e1] at h1
      have := of_decide_eq_true h1
      by_cases e2 : y = z
      · subst e2
        rw [if_neg e1]; exact h1
      · rw [if_neg e2] at h2
        have := of_decide_eq_true h2
        rw [if_neg (by omega)]
        exact decide_eq_true (by omega)
theorem lex_nt : ∀ a b c, lexLt a c = true → lexLt a b = true ∨ lexLt b c = true
  | [], [], c, h => .inr h
  | [], _ :: _, _, _ => .inl rfl
  | _ :: _, _, [], h => by cases h
  | _ :: _, [], _ :: _, _ => .inr rfl
  | x :: xs, y :: ys, z :: zs, h => by
    unfold lexLt at h ⊢
    by_cases e1 : x = y
    · subst e1
      rw [if_pos rfl]
      by_cases e2 : x = z
      · subst e2
        rw [if_pos rfl] at h ⊢
        exact lex_nt xs ys zs h
      · rw [if_neg e2] at h ⊢; exact .inr h
    · rw [if_neg e1]
      by_cases e2 : x = z
      · subst e2
        rw [if_neg (fun z => e1 z.symm)]
        rcases Int.lt_or_le x y with q | q
        · exact .inl (decide_eq_true q)
        · exact .inr (decide_eq_true (by omega))
      · rw [if_neg e2] at h
        have := of_decide_eq_true h
        rcases Int.lt_or_le x y with q | q
        · exact .inl (decide_eq_true q)
        · refine .inr ?_
          rw [if_neg (by omega)]
          exact decide_eq_true (by omega)
theorem lex_tot : ∀ a b, lexLt a b = false → lexLt b a = false → a = b
  | [], [], _, _ => rfl
  | [], _ :: _, h, _ => by cases h
  | _ :: _, [], _, h => by cases h
  | x :: xs, y :: ys, h1, h2 => by
    unfold lexLt at h1 h2
    by_cases e1 : x = y
    · subst e1
      rw [if_pos rfl] at h1 h2
      rw [lex_tot xs ys h1 h2]
    · rw [if_neg e1] at h1
      rw [if_neg (fun z => e1 z.symm)] at h2
      have := of_decide_eq_false h1
      have := of_decide_eq_false h2
      omega
def intsOf : List Value → Option (List Int)
  | [] => some []
  | .int n _ :: r => (intsOf r).map (n :: ·)
  | _ :: _ => none
def tupKey (h : Heap) : Value → Option (List Int)
  | .ref t => match h.get? t with
    | some ⟨.type "tuple", _, .seq vs _, _⟩ => intsOf vs.toList
    | _ => none
  | _ => none
def κT (h : Heap) : KeyKind := { α := List Int, blt := lexLt, irrefl := lex_irr, trans := lex_tr, negTrans := lex_nt, total := lex_tot, keyOf := tupKey h, dflt := [] }
theorem ints_of {vs : List Value} {ns : List Int} (h : IntsAre vs ns) : intsOf vs = some ns := by
  induction h with
  | nil => rfl
  | cons n t _ ih => show (intsOf _).map _ = _; rw [ih]; rfl
theorem of_ints : ∀ {vs : List Value} {ns : List Int}, intsOf vs = some ns → IntsAre vs ns
  | [], _, h => by cases h; exact .nil
  | .int n t :: r, _, h => by
    have h' : (intsOf r).map (n :: ·) = some _ := h
    cases e : intsOf r with
    | none => rw [e] at h'; cases h'
    | some ms => rw [e] at h'; cases h'; exact .cons n t (of_ints e)
  | .none :: _, _, h => by cases h
  | .ellipsis :: _, _, h => by cases h
  | .notImplemented :: _, _, h => by cases h
  | .bool _ :: _, _, h => by cases h
  | .float _ _ :: _, _, h => by cases h
  | .str _ _ :: _, _, h => by cases h
  | .bytes _ _ :: _, _, h => by cases h
  | .type _ :: _, _, h => by cases h
  | .builtin _ :: _, _, h => by cases h
  | .ref _ :: _, _, h => by cases h
theorem key_of {h : Heap} {t : Addr} {ws : List Value} {ns : List Int} (p : IsTup h t ws.toArray) (q : IntsAre ws ns) : tupKey h (.ref t) = some ns := by
  obtain ⟨⟨c, d, dt, sl⟩, ho, hc, n, hd⟩ := p
  simp only at hc hd
  subst hc hd
  show (match h.get? t with | some ⟨.type "tuple", _, .seq vs _, _⟩ => intsOf vs.toList | _ => none) = _
  rw [ho]
  exact ints_of q
theorem of_key {h : Heap} {v : Value} {ns : List Int} (e : tupKey h v = some ns) : ∃ t ws, v = .ref t ∧ IsTup h t ws.toArray ∧ IntsAre ws ns := by
  unfold tupKey at e
  split at e
  next t =>
    split at e
    next o d vs n sl ho => exact ⟨t, vs.toList, rfl, ⟨_, ho, rfl, n, by rw [Array.toArray_toList]⟩, of_ints e⟩
    next => cases e
  next => cases e
section
variable {prog : Program} {w : World} {A : Around} {E : Value → Shared → Prop} {s : Shared}
theorem items_tup {t : Addr} {ws : Array Value} {Q : Array Value → Shared → Prop} (p : IsTup s.heap t ws) (h : Q ws s) : wpAny (model prog w) A (Builtin.List.listItems (.ref t)) Q E s := by
  obtain ⟨o, ho, hc, n, hd⟩ := p
  exact listItems_at ho hd h
theorem oneLt_f {a b : Int} {t u : Tok} {Q : Bool → Shared → Prop} (h : Q (decide (a < b)) s) : wpAny (model prog w) A (oneLt' false (.int a t) (.int b u)) Q E s := by
  rw [oneLt'_eq]
  simp only [Bool.false_eq_true, if_false]
  refine wpAny_bind ?_
  exact wpAny_lt_int (wpAny_truthy_bool h)
theorem oneLt_b {a b : Int} {t u : Tok} {c : Bool} {Q : Bool → Shared → Prop} (h : Q (decide (a < b)) s) : wpAny (model prog w) A (oneLt' c (.int a t) (.int b u)) Q E s := by
  cases c with
  | true => exact oneLt_int h
  | false => exact oneLt_f h
theorem lt_loop {g : ((Value × Value) × Nat) → (Option Bool × Unit) → Sem (ForInStep (Option Bool × Unit))}
    (hg : ∀ (m n : Int) (t t' : Tok) (i : Nat) (Q : ForInStep (Option Bool × Unit) → Shared → Prop), (m ≠ n → Q (.done (some (decide (m < n)), ())) s) → (m = n → Q (.yield (none, ())) s) → wpAny (model prog w) A (g ((.int m t, .int n t'), i) (none, ())) Q E s) :
    ∀ {us vs : List Value} {ms ns : List Int}, IntsAre us ms → IntsAre vs ns → ∀ (k : Nat) (Q : Option Bool × Unit → Shared → Prop), (lexLt ms ns = decide (us.length < vs.length) → Q (none, ()) s) → Q (some (lexLt ms ns), ()) s →
      wpAny (model prog w) A (forIn ((us.zip vs).zipIdx k) ((none, ()) : Option Bool × Unit) g) Q E s
  | [], [], _, _, .nil, .nil, k, Q, h, _ => wpAny_pure (h rfl)
  | [], _ :: _, _, _, .nil, .cons n t hr, k, Q, h, _ => wpAny_pure (h (by rw [decide_eq_true (by simp)]; rfl))
  | _ :: _, [], _, _, .cons n t hr, .nil, k, Q, h, _ => wpAny_pure (h (by rw [decide_eq_false (by simp)]; rfl))
  | _ :: us, _ :: vs, _, _, .cons m t hu, .cons n t' hv, k, Q, h, h2 => by
    rw [List.zip_cons_cons, List.zipIdx_cons, List.forIn_cons]
    unfold lexLt at h h2
    refine wpAny_bind (hg m n t t' k _ (fun e => ?_) (fun e => ?_))
    · rw [if_neg e] at h2
      exact wpAny_pure h2
    · rw [if_pos e] at h h2
      exact lt_loop hg hu hv (k + 1) Q (fun z => h (by rw [z]; simp)) h2
theorem cmp_tups : Cmp prog w A E s (tuples' true) (κT s.heap) where
  lt st x y Q hk k1 k2 h := by
    obtain ⟨ms, e1⟩ := Option.isSome_iff_exists.mp k1
    obtain ⟨ns, e2⟩ := Option.isSome_iff_exists.mp k2
    have f1 : kf (κT s.heap) x = ms := by unfold kf; rw [e1]; rfl
    have f2 : kf (κT s.heap) y = ns := by unfold kf; rw [e2]; rfl
    rw [f1, f2] at h
    obtain ⟨t, us, ex, px, ix⟩ := of_key e1
    obtain ⟨t', vs, ey, py, iy⟩ := of_key e2
    rw [lt'_eq]
    refine wpS_bind (wpS_get ?_)
    rw [hk, ex, ey]
    refine wpS_bind (wpS_lift (wpAny_attempt ?_))
    refine wpAny_bind (items_tup px (wpAny_bind (items_tup py ?_)))
    refine wpAny_bind (lt_loop (fun m n t t' i Q q1 q2 => ?_) ix iy 0 _ (fun e => ?_) ?_)
    · refine wpAny_bind (wpAny_eqBool_int ?_)
      by_cases e : m = n
      · rw [show (m == n) = true by simpa using e]
        exact wpAny_pure (q2 e)
      · rw [show (m == n) = false by simpa using e]
        exact wpAny_bind (oneLt_b (wpAny_pure (q1 e)))
    · show wpAny _ _ (pure (decide (us.toArray.size < vs.toArray.size))) _ _ _
      refine wpAny_pure ⟨rfl, wpS_pure ?_⟩
      rw [List.size_toArray, List.size_toArray, ← e]
      exact h
    · exact wpAny_pure ⟨rfl, wpS_pure h⟩
theorem firsts : ∀ {vs : List Value}, (∀ v ∈ vs, ∃ n ns, tupKey s.heap v = some (n :: ns)) → ∀ Q : List (Option Value) → Shared → Prop, (∀ fs : List (Int × Tok), fs.length = vs.length → Q (fs.map fun p => some (.int p.1 p.2)) s) →
    wpAny (model prog w) A (vs.mapM firstOfTuple') Q E s
  | [], _, Q, h => by rw [List.mapM_nil]; exact wpAny_pure (h [] rfl)
  | v :: vs, hv, Q, h => by
    obtain ⟨n, ns, e⟩ := hv v (.head _)
    obtain ⟨t, ws, rfl, pt, it⟩ := of_key e
    cases it with
    | cons _ tk it =>
      rw [List.mapM_cons]
      refine wpAny_bind ?_
      obtain ⟨o, ho, hc, m, hd⟩ := id pt
      refine wpAny_bind (wpAny_typeOf (T := "tuple") ⟨o, ho, hc⟩ ?_)
      rw [if_neg (by decide)]
      refine wpAny_bind (items_tup pt (wpAny_pure ?_))
      refine wpAny_bind (firsts (fun v hv' => hv v (.tail _ hv')) _ fun fs hf => wpAny_pure ?_)
      exact h ((n, tk) :: fs) (by rw [List.length_cons, List.length_cons, hf])
theorem types_int : ∀ (fs : List (Int × Tok)), (fs.map fun p => Value.int p.1 p.2).mapM typeOf = pure (fs.map fun _ => Value.type "int")
  | [] => by simp
  | p :: fs => by
    rw [List.map_cons, List.mapM_cons, types_int fs]
    show (pure (Value.type "int") >>= fun b => pure _ >>= fun bs => pure (b :: bs)) = _
    simp
theorem kind_tups {vs : List Value} {Q : SortKind → Shared → Prop} (hv : ∀ v ∈ vs, ∃ n ns, tupKey s.heap v = some (n :: ns)) (ne : vs ≠ []) (h : Q (tuples' true) s) : wpAny (model prog w) A (keyKind' vs.toArray) Q E s := by
  rw [keyKind'_eq, List.mapM_toArray]
  refine wpAny_bind ?_
  rw [map_eq_pure_bind]
  refine wpAny_bind (firsts hv _ fun fs hf => wpAny_pure ?_)
  rw [if_pos (by simp)]
  refine wpAny_bind (wpAny_rule ?_)
  have e1 : ((fs.map fun p => some (Value.int p.1 p.2)).toArray.filterMap id) = (fs.map fun p => Value.int p.1 p.2).toArray := by
    simp [List.filterMap_map]
  rw [e1, oneTypeOnly'_eq, List.mapM_toArray, types_int]
  simp only [map_pure, pure_bind]
  have h0 : (fs.map fun _ => Value.type "int").toArray[0]? = some (Value.type "int") := by
    cases fs with
    | nil =>
      cases vs with
      | nil => exact absurd rfl ne
      | cons _ _ => cases hf
    | cons p fs => simp
  have hall : ((fs.map fun _ => Value.type "int").toArray.all fun x => x == Value.type "int") = true := by
    simp only [List.all_toArray, List.all_map, List.all_eq_true]
    intro _ _
    rfl
  rw [h0]
  simp only [hall, if_true, pure_bind]
  exact wpAny_pure h
end
end So
namespace So
open PySem PyProof.Rows
def keyD (h : Heap) (v : Value) : List Int := (tupKey h v).getD []
def SrtV (h : Heap) (l : List Value) : Prop := l.Pairwise fun x y => lexLt (keyD h y) (keyD h x) = false
section
variable {prog : Program} {w : World} {A : Around} {E : Value → Shared → Prop} {s : Shared}
theorem key_keep {h h' : Heap} {v : Value} {ns : List Int} (e : tupKey h v = some ns) (k : ∀ t o, v = .ref t → h.get? t = some o → o.cls = .type "tuple" → h'.get? t = some o) : tupKey h' v = some ns := by
  obtain ⟨t, ws, rfl, ⟨o, ho, hc, n, hd⟩, it⟩ := of_key e
  exact key_of ⟨o, k t o rfl ho hc, hc, n, hd⟩ it
theorem mem_zip_self {α : Type} : ∀ {l : List α} {p : α × α}, p ∈ l.zip l → p.1 = p.2 ∧ p.1 ∈ l
  | x :: l, p, h => by
    rw [List.zip_cons_cons] at h
    rcases List.mem_cons.mp h with rfl | z
    · exact ⟨rfl, .head _⟩
    · have := mem_zip_self z
      exact ⟨this.1, .tail _ this.2⟩
theorem zip_snd {α : Type} : ∀ l : List α, (l.zip l).map Prod.snd = l
  | [] => rfl
  | x :: l => by rw [List.zip_cons_cons, List.map_cons, zip_snd l]
theorem sort_done {vs : List Value} {xs : Array Keyed} {h : Heap} (hp : xs.Perm (pairsOf vs)) (hs : ∀ i j, i ≤ j → j < (pairsOf vs).size → (κT h).kle (kA (κT h) xs i) (kA (κT h) xs j)) :
    (xs.map (·.2)).toList.Perm vs ∧ SrtV h (xs.map (·.2)).toList := by
  have hl : xs.toList.Perm (vs.zip vs) := by
    have := Array.perm_iff_toList_perm.mp hp
    unfold pairsOf at this
    rwa [Array.toList_zip] at this
  refine ⟨?_, ?_⟩
  · rw [Array.toList_map]
    have := hl.map Prod.snd
    rwa [zip_snd] at this
  · unfold SrtV
    rw [Array.toList_map, List.pairwise_map, List.pairwise_iff_getElem]
    intro i j hi hj hij
    have hj' : j < (pairsOf vs).size := by rw [← hp.size_eq]; rw [Array.length_toList] at hj; exact hj
    have := hs i j (by omega) hj'
    have gt : ∀ c (hc : c < xs.toList.length), kA (κT h) xs c = keyD h (xs.toList[c]).2 := fun c hc => by
      have e : xs[c]? = some (xs.toList[c]) := by rw [← Array.getElem?_toList, List.getElem?_eq_getElem hc]
      rw [kA_at e]
      have := (mem_zip_self (hl.mem_iff.mp (List.getElem_mem hc))).1
      unfold kf keyD
      rw [← this]
      rfl
    rw [gt i hi, gt j hj] at this
    exact this
theorem list_sort_tups {a : Addr} {vs : List Value} {n : Nat} {P : Fin → Shared → Prop} (ho : s.heap.get? a = some (seqObj "list" vs.toArray n)) (hv : ∀ v ∈ vs, ∃ n ns, tupKey s.heap v = some (n :: ns)) (h128 : vs.length < 128)
    (h : ∀ out : Array Value, out.toList.Perm vs → SrtV s.heap out.toList → P (.done (.ret .none)) { s with heap := sortedHeap s.heap a vs out }) : wpAny (model prog w) A (Builtin.«list.sort» ⟨[.ref a], []⟩) P E s := by
  rw [list_sort_plain]
  have ha : a < s.heap.objs.size := Heap.lt_size ho
  refine wpAny_bind (listItems_at ho rfl (wpAny_bind (listUpdate_at ho rfl ?_)))
  obtain ⟨e1, ho1⟩ : ∃ e1, (s.heap.update a (Obj.mapSeq fun _ => #[])).get? a = some (seqObj "list" #[] e1) := ⟨_, get?_update_seq ho (fun _ => #[])⟩
  refine wpAny_bind (seqEpoch_at ho1 rfl (wpAny_bind (wpAny_newTuple (wpAny_bind (wpAny_newList (wpAny_holding ?_))))))
  obtain ⟨hB, eB⟩ : ∃ hB, hB = ((s.heap.update a (Obj.mapSeq fun _ => #[])).push (seqObj "tuple" vs.toArray 0)).push (seqObj "list" #[] 0) := ⟨_, rfl⟩
  have ho2 : hB.get? a = some (seqObj "list" #[] e1) := by
    rw [eB, Heap.get?_push_ne _ _ _ (by rw [size_push', Heap.size_update]; exact Nat.ne_of_lt (Nat.lt_succ_of_lt ha)), Heap.get?_push_ne _ _ _ (by rw [Heap.size_update]; exact Nat.ne_of_lt ha)]
    exact ho1
  have keep : ∀ t o, s.heap.get? t = some o → t ≠ a → hB.get? t = some o := fun t o e ne => by
    have lt := Heap.lt_size e
    rw [eB, Heap.get?_push_ne _ _ _ (by rw [size_push', Heap.size_update]; exact Nat.ne_of_lt (Nat.lt_succ_of_lt lt)), Heap.get?_push_ne _ _ _ (by rw [Heap.size_update]; exact Nat.ne_of_lt lt), (Heap.SameBut.update ..).2 t ne]
    exact e
  have keys : ∀ v ns, tupKey s.heap v = some ns → tupKey hB v = some ns := fun v ns e => key_keep e fun t o _ ht hc => keep t o ht fun z => by
    rw [z, ho] at ht
    cases ht
    exact absurd (Value.type.inj hc) (by decide)
  have fin : ∀ out : Array Value, out.toList.Perm vs → SrtV hB out.toList → P (.done (.ret .none)) { s with heap := sortedHeap s.heap a vs out } := fun out hp hs => by
    refine h out hp (hs.imp_of_mem fun {x y} hx hy z => ?_)
    obtain ⟨n1, ns1, q1⟩ := hv x (hp.mem_iff.mp hx)
    obtain ⟨n2, ns2, q2⟩ := hv y (hp.mem_iff.mp hy)
    unfold keyD at z ⊢
    rw [keys _ _ q1, keys _ _ q2] at z
    rw [q1, q2]
    exact z
  have last : ∀ out : Array Value, out.size ≤ 1000 → sortedHeap s.heap a vs out = hB.update a (Obj.mapSeq fun _ => out) := fun out _ => by rw [eB]; rfl
  show wpAny (model prog w) A _ P E { s with heap := ((s.heap.update a (Obj.mapSeq fun _ => #[])).push (seqObj "tuple" vs.toArray 0)).push (seqObj "list" #[] 0) }
  rw [← eB]
  have hsz : vs.toArray.size = vs.length := by simp
  have line : sizeLine = 16777216 := sizeLine_eq
  dsimp only
  by_cases h2 : vs.toArray.size < 2
  · rw [if_pos h2, if_pos h2]
    refine wpAny_bind (wpAny_pure ?_)
    rw [StateT.run_pure]
    refine wpAny_bind (wpAny_pure ?_)
    dsimp only
    have pp : (pairsOf vs).Perm (pairsOf vs) := Array.Perm.refl _
    obtain ⟨f1, f2⟩ := sort_done (h := hB) pp fun i j hij hj => by
      rw [pairsOf_size] at hj
      have : i = j := by omega
      subst this
      exact KeyOrd.kle_refl _
    have sz : ((pairsOf vs).map (·.2)).size = vs.length := by rw [Array.size_map, pairsOf_size]
    refine wpAny_bind (seqEpoch_at (s := { s with heap := hB }) ho2 rfl ?_)
    refine wpAny_bind (listUpdate_at (s := { s with heap := hB }) ho2 rfl ?_ (hsz2 := by show ((pairsOf vs).map (·.2)).size ≤ _; omega))
    simp only [bne_self_eq_false, Bool.false_eq_true, if_false]
    have := fin _ f1 f2
    rw [last _ (by omega)] at this
    exact wpAny_pure this
  · rw [if_neg h2, if_neg h2]
    refine wpAny_bind (kind_tups (s := { s with heap := hB }) (fun v hv' => ?_) (fun z => by rw [z] at h2; simp at h2) ?_)
    · obtain ⟨n, ns, e⟩ := hv v hv'
      exact ⟨n, ns, keys _ _ e⟩
    have k0 : Kd (κT hB) (pairsOf vs).toList := fun x hx => by
      unfold pairsOf at hx
      rw [Array.toList_zip] at hx
      obtain ⟨n, ns, e⟩ := hv x.1 (mem_zip_self hx).2
      show (tupKey hB x.1).isSome = true
      rw [keys _ _ e]; rfl
    have run := wpS_runs (prog := prog) (w := w) (A := A) (E := E) (s := { s with heap := hB }) (a0 := pairsOf vs) cmp_tups k0 (st := SortSt.mk' (tuples' true) (pairsOf vs) #[] 7 none) ⟨Array.Perm.refl _, rfl, rfl, rfl, fun _ z => absurd z (Nat.not_lt_zero _)⟩
      (Q := fun _ st' => (arrOf st').Perm (pairsOf vs) ∧ failedOf st' = none ∧ ∀ i j, i ≤ j → j < (pairsOf vs).size → (κT hB).kle (kA (κT hB) (arrOf st') i) (kA (κT hB) (arrOf st') j)) (by rw [pairsOf_size]; omega) (by rw [pairsOf_size]; omega) fun st' p1 p2 p3 => ⟨p1, p2, p3⟩
    refine wpAny_bind (wpAny_mono run ?_ fun _ _ e => e)
    rintro ⟨⟨⟩, st'⟩ s' ⟨rfl, hp, hf, hs⟩
    dsimp only
    obtain ⟨f1, f2⟩ := sort_done hp hs
    have sz : ((arrOf st').map (·.2)).size = vs.length := by rw [Array.size_map, hp.size_eq, pairsOf_size]
    refine wpAny_bind (seqEpoch_at (s := { s with heap := hB }) ho2 rfl ?_)
    refine wpAny_bind (listUpdate_at (s := { s with heap := hB }) ho2 rfl ?_ (hsz2 := by show ((arrOf st').map (·.2)).size ≤ _; omega))
    rw [hf]
    simp only [bne_self_eq_false, Bool.false_eq_true, if_false]
    have := fin _ f1 f2
    rw [last _ (by show ((arrOf st').map (·.2)).size ≤ 1000; omega)] at this
    exact wpAny_pure this
theorem sorted_tups {l : Addr} {vs : List Value} {Q : Value → Shared → Prop} (hl : s.heap.IsList l vs.toArray) (hv : ∀ v ∈ vs, ∃ n ns, tupKey s.heap v = some (n :: ns)) (h128 : vs.length < 128)
    (h : ∀ out : Array Value, out.toList.Perm vs → SrtV s.heap out.toList → Q (.ref (s.heap.objs.size + 1)) { s with heap := sortedAll s.heap vs out }) : wpAny (model prog w) A (call (.builtin "sorted") [.ref l]) Q E s := by
  refine Calls.call_function_entry kind_sorted plain_sorted entry_sorted (args_sorted1 _) ?_
  unfold Builtin.«sorted»
  refine wpAny_bind (m := checkCount "sorted" 1 1 _) (wpAny_pure (wpAny_bind (collect_list hl (wpAny_bind (wpAny_newList ?_)))))
  have z1 : ((s.heap.push (seqObj "list" #[] 0)).update s.heap.objs.size (Obj.mapSeq (· ++ vs.toArray))).objs.size = s.heap.objs.size + 1 := by
    rw [Heap.size_update, size_push']
  obtain ⟨hC, eC⟩ : ∃ hC, hC = ((s.heap.push (seqObj "list" #[] 0)).update s.heap.objs.size (Obj.mapSeq (· ++ vs.toArray))).push (seqObj "list" vs.toArray 0) := ⟨_, rfl⟩
  have hoL : hC.get? (s.heap.objs.size + 1) = some (seqObj "list" vs.toArray 0) := by
    rw [eC, ← z1]; exact Heap.get?_push_size _ rfl
  have keep : ∀ t o, s.heap.get? t = some o → hC.get? t = some o := fun t o e => by
    have lt := Heap.lt_size e
    rw [eC, Heap.get?_push_ne _ _ _ (by rw [z1]; exact Nat.ne_of_lt (Nat.lt_succ_of_lt lt)), (Heap.SameBut.update ..).2 t (Nat.ne_of_lt lt), Heap.get?_push_ne _ _ _ (Nat.ne_of_lt lt)]
    exact e
  have keys : ∀ v ns, tupKey s.heap v = some ns → tupKey hC v = some ns := fun v ns e => key_keep e fun t o _ ht _ => keep t o ht
  show wpAny _ _ _ _ _ { s with heap := ((s.heap.push (seqObj "list" #[] 0)).update s.heap.objs.size (Obj.mapSeq (· ++ vs.toArray))).push (seqObj "list" vs.toArray 0) }
  rw [z1, ← eC]
  refine wpAny_bind (wpAny_holding (wpAny_call_entry slot_list_sort ⟨_, hoL, rfl⟩ entry_list_sort (list_sort_tups (s := { s with heap := hC }) hoL (fun v hv' => ?_) h128 fun out p1 p2 => ⟨_, rfl, ?_⟩) (args_list_sort _)))
  · obtain ⟨n, ns, e⟩ := hv v hv'
    exact ⟨n, ns, keys _ _ e⟩
  · refine wpAny_pure ⟨_, rfl, ?_⟩
    have := h out p1 (p2.imp_of_mem fun {x y} hx hy z => ?_)
    · unfold sortedAll at this
      rw [← eC] at this
      exact this
    · obtain ⟨n1, ns1, q1⟩ := hv x (p1.mem_iff.mp hx)
      obtain ⟨n2, ns2, q2⟩ := hv y (p1.mem_iff.mp hy)
      unfold keyD at z ⊢
      rw [keys _ _ q1, keys _ _ q2] at z
      rw [q1, q2]
      exact z
end
end So
namespace L2
open PySem PySem.Spec PyProof.Rows
def addrOf : Value → Addr
  | .ref a => a
  | _ => 0
theorem refs_perm {l : List Value} {ks : List Addr} (h : l.Perm (ks.map Value.ref)) : ∃ as : List Addr, as.Perm ks ∧ l = as.map Value.ref := by
  refine ⟨l.map addrOf, ?_, ?_⟩
  · have := h.map addrOf
    rw [List.map_map] at this
    rwa [show ks.map (addrOf ∘ Value.ref) = ks from (List.map_congr_left (g := id) fun _ _ => rfl).trans (List.map_id ks)] at this
  · rw [List.map_map]
    refine ((List.map_congr_left (g := id) fun v hv => ?_).trans (List.map_id l)).symm
    obtain ⟨a, _, rfl⟩ := List.mem_map.mp (h.mem_iff.mp hv)
    rfl
theorem vals_refs : ∀ as : List Addr, Vals (as.map V.ref) (as.map Value.ref)
  | [] => .nil
  | a :: as => .cons rfl (vals_refs as)
end L2
namespace Ts
open PySem PySem.SetTable
def adv (m : Nat) (p : Probe) : Probe := if p.more > 0 then { p with j := p.j + 1, more := p.more - 1 } else
  { p with j := (leap m p.i p.perturb).1, more := runEnd m (leap m p.i p.perturb).1 - (leap m p.i p.perturb).1, i := (leap m p.i p.perturb).1, perturb := (leap m p.i p.perturb).2 }
def pAt (m i pt : Nat) : Probe := { j := i, more := runEnd m i - i, i := i, perturb := pt, dummy := none }
def p0 (m : Nat) (h : Int) : Probe := pAt m (bits h % (m + 1)) (bits h)
def go (m : Nat) : Nat → Probe → Probe
  | 0, p => p
  | n + 1, p => go m n (adv m p)
theorem go_add (m : Nat) : ∀ a b p, go m (a + b) p = go m b (go m a p)
  | 0, b, p => by rw [Nat.zero_add]; rfl
  | a + 1, b, p => by rw [Nat.add_right_comm]; exact go_add m a b _
theorem go_run (m i pt : Nat) : ∀ k r j, k ≤ r → go m k ⟨j, r, i, pt, none⟩ = ⟨j + k, r - k, i, pt, none⟩
  | 0, r, j, _ => rfl
  | k + 1, r, j, h => by
    show go m k (adv m _) = _
    have e : adv m ⟨j, r, i, pt, none⟩ = ⟨j + 1, r - 1, i, pt, none⟩ := by unfold adv; rw [if_pos (show r > 0 by omega)]
    rw [e, go_run m i pt k (r - 1) (j + 1) (by omega), show j + 1 + k = j + (k + 1) by omega, show r - 1 - k = r - (k + 1) by omega]
theorem run9 (m i : Nat) : runEnd m i - i ≤ 9 := by unfold runEnd; split <;> omega
theorem run_le {m i : Nat} (h : i ≤ m) : i ≤ runEnd m i ∧ runEnd m i ≤ m := by unfold runEnd; split <;> omega
theorem go_leap (m i pt : Nat) : go m (runEnd m i - i + 1) (pAt m i pt) = pAt m (leap m i pt).1 (leap m i pt).2 := by
  rw [go_add]
  unfold pAt
  rw [go_run m i pt _ _ _ (Nat.le_refl _), Nat.sub_self]
  rw [show ∀ p, go m 1 p = adv m p from fun _ => rfl]
  unfold adv
  rw [if_neg (Nat.lt_irrefl 0)]
def lp (m : Nat) : Nat → Nat × Nat → Nat × Nat
  | 0, s => s
  | n + 1, s => lp m n (leap m s.1 s.2)
theorem go_lp (m : Nat) : ∀ L i pt, ∃ n, n ≤ 10 * L ∧ go m n (pAt m i pt) = pAt m (lp m L (i, pt)).1 (lp m L (i, pt)).2
  | 0, i, pt => ⟨0, by omega, rfl⟩
  | L + 1, i, pt => by
    obtain ⟨n, h1, h2⟩ := go_lp m L (leap m i pt).1 (leap m i pt).2
    have := run9 m i
    exact ⟨runEnd m i - i + 1 + n, by omega, by rw [go_add, go_leap, h2]; rfl⟩
theorem lp_add (m : Nat) : ∀ a b s, lp m (a + b) s = lp m b (lp m a s)
  | 0, b, s => by rw [Nat.zero_add]; rfl
  | a + 1, b, s => by rw [Nat.add_right_comm]; exact lp_add m a b _
theorem lp_pt (m : Nat) : ∀ L s, (lp m L s).2 = s.2 / 32 ^ L
  | 0, s => by show s.2 = s.2 / 32 ^ 0; rw [Nat.pow_zero, Nat.div_one]
  | L + 1, s => by
    show (lp m L _).2 = _
    rw [lp_pt m L, Nat.pow_succ, Nat.mul_comm, ← Nat.div_div_eq_div_mul]
    rfl
theorem lp_le (m : Nat) : ∀ L s, s.1 ≤ m → (lp m L s).1 ≤ m
  | 0, s, h => h
  | L + 1, s, h => lp_le m L _ (Nat.le_of_lt_succ (Nat.mod_lt _ (Nat.succ_pos m)))
def it (m : Nat) : Nat → Nat → Nat
  | 0, i => i
  | k + 1, i => it m k ((i * 5 + 1) % (m + 1))
theorem it_add (m : Nat) : ∀ a b i, it m (a + b) i = it m b (it m a i)
  | 0, b, i => by rw [Nat.zero_add]; rfl
  | a + 1, b, i => by rw [Nat.add_right_comm]; exact it_add m a b _
theorem lp_zero (m : Nat) : ∀ k i, lp m k (i, 0) = (it m k i, 0)
  | 0, i => rfl
  | k + 1, i => by
    show lp m k ((i * 5 + 1 + 0 / 32) % (m + 1), 0 / 32) = _
    rw [Nat.zero_div, Nat.add_zero]
    exact lp_zero m k _
def Good (m : Nat) : Prop := m = 7 ∨ m = 31 ∨ m = 127
theorem orb {m : Nat} (hm : Good m) : it m (m + 1) 0 = 0 ∧ ∀ j, j ≤ m → ∃ a, a ≤ m ∧ it m a 0 = j := by
  have key : ∀ m, it m (m + 1) 0 = 0 → ((List.range (m + 1)).all fun j => ((List.range (m + 1)).map fun a => it m a 0).contains j) = true → it m (m + 1) 0 = 0 ∧ ∀ j, j ≤ m → ∃ a, a ≤ m ∧ it m a 0 = j := fun m h1 h2 => ⟨h1, fun j hj => by
    have := List.all_eq_true.mp h2 j (List.mem_range.mpr (by omega))
    obtain ⟨a, ha, e⟩ := List.mem_map.mp (List.contains_iff_mem.mp this)
    exact ⟨a, by have := List.mem_range.mp ha; omega, e⟩⟩
  rcases hm with rfl | rfl | rfl <;> exact key _ (by decide +kernel) (by decide +kernel)
theorem cover {m i pt j : Nat} (hm : Good m) (hp : pt < 2 ^ 64) (hi : i ≤ m) (hj : j ≤ m) : ∃ L, L ≤ m + 13 ∧ (lp m L (i, pt)).1 = j := by
  obtain ⟨o1, o2⟩ := orb hm
  have z : (lp m 13 (i, pt)).2 = 0 := by
    rw [lp_pt]
    exact Nat.div_eq_of_lt (Nat.lt_of_lt_of_le hp (by decide))
  have l := lp_le m 13 (i, pt) hi
  generalize hs : lp m 13 (i, pt) = s at z l
  obtain ⟨i', pt'⟩ := s
  dsimp only at z l
  subst z
  obtain ⟨a, ha, ea⟩ := o2 i' l
  obtain ⟨b, hb, eb⟩ := o2 j hj
  have : ∃ k, k ≤ m ∧ it m k i' = j := by
    rcases Nat.le_total a b with h | h
    · exact ⟨b - a, by omega, by rw [← ea, ← it_add, show a + (b - a) = b by omega, eb]⟩
    · rcases Nat.eq_or_lt_of_le h with h | h
      · subst h
        exact ⟨0, by omega, by show i' = j; rw [← ea, eb]⟩
      · exact ⟨m + 1 - a + b, by omega, by rw [← ea, ← it_add, show a + (m + 1 - a + b) = (m + 1) + b by omega, it_add, o1, eb]⟩
  obtain ⟨k, hk, e⟩ := this
  exact ⟨13 + k, by omega, by rw [lp_add, hs, lp_zero, e]⟩
theorem pig : ∀ (n : Nat) (ns : List Nat), (∀ j, j < n → j ∈ ns) → n ≤ ns.length
  | 0, _, _ => Nat.zero_le _
  | n + 1, ns, h => by
    have hn := h n (Nat.lt_succ_self n)
    have := pig n (ns.erase n) fun j hj => (List.mem_erase_of_ne (by omega)).mpr (h j (by omega))
    rw [List.length_erase_of_mem hn] at this
    have := List.length_pos_of_mem hn
    omega
theorem least {p : Nat → Prop} : ∀ {n : Nat}, p n → ∃ k, k ≤ n ∧ p k ∧ ∀ i, i < k → ¬ p i := by
  intro n
  induction n using Nat.strongRecOn with
  | _ n ih =>
    intro hn
    by_cases h : ∃ i, i < n ∧ p i
    · obtain ⟨i, hi, pi⟩ := h
      obtain ⟨k, h1, h2, h3⟩ := ih i hi pi
      exact ⟨k, by omega, h2, h3⟩
    · exact ⟨n, Nat.le_refl _, hn, fun i hi pi => h ⟨i, hi, pi⟩⟩
def Rch (m : Nat) (ns : List Nat) (h : Int) (j : Nat) : Prop := ∃ n, n < 10 * turns m ∧ (go m n (p0 m h)).j = j ∧ ∀ k, k < n → (go m k (p0 m h)).j ∈ ns
theorem Rch.mono {m : Nat} {ns ns' : List Nat} {h : Int} {j : Nat} (r : Rch m ns h j) (s : ∀ x ∈ ns, x ∈ ns') : Rch m ns' h j :=
  let ⟨n, a, b, c⟩ := r; ⟨n, a, b, fun k hk => s _ (c k hk)⟩
theorem bits_lt (h : Int) : bits h < 2 ^ 64 := by
  unfold bits
  have := Int.emod_lt_of_pos h (show (0 : Int) < 2 ^ 64 by decide)
  have := Int.emod_nonneg h (show (2 ^ 64 : Int) ≠ 0 by decide)
  omega
theorem find_free {m : Nat} {ns : List Nat} (hm : Good m) (h : Int) (hl : ns.length ≤ m) : ∃ j, j ∉ ns ∧ j ≤ m ∧ Rch m ns h j := by
  obtain ⟨j0, h0, h1⟩ : ∃ j, j ≤ m ∧ j ∉ ns := by
    apply Classical.byContradiction
    intro z
    have := pig (m + 1) ns fun j hj => Classical.byContradiction fun q => z ⟨j, by omega, q⟩
    omega
  obtain ⟨L, hL, eL⟩ := cover (pt := bits h) (i := bits h % (m + 1)) hm (bits_lt h) (Nat.le_of_lt_succ (Nat.mod_lt _ (Nat.succ_pos m))) h0
  obtain ⟨n, hn, en⟩ := go_lp m L (bits h % (m + 1)) (bits h)
  have hpn : (go m n (p0 m h)).j ∉ ns := by
    show (go m n (pAt m _ _)).j ∉ ns
    rw [en]
    show (lp m L _).1 ∉ ns
    rw [eL]; exact h1
  obtain ⟨k, k1, k2, k3⟩ := least (p := fun n => (go m n (p0 m h)).j ∉ ns) hpn
  refine ⟨(go m k (p0 m h)).j, k2, ?_, k, ?_, rfl, fun i hi => Classical.byContradiction fun q => k3 i hi q⟩
  · have key : ∀ n i pt, i ≤ m → (go m n (pAt m i pt)).j ≤ m := by
      intro n
      induction n using Nat.strongRecOn with
      | _ n ih =>
        intro i pt hi
        have := run_le hi
        rcases Nat.lt_or_ge (runEnd m i - i) n with h | h
        · rw [show n = runEnd m i - i + 1 + (n - (runEnd m i - i + 1)) by omega, go_add, go_leap]
          exact ih _ (by omega) _ _ (Nat.le_of_lt_succ (Nat.mod_lt _ (Nat.succ_pos m)))
        · unfold pAt
          rw [go_run m i pt n _ _ h]
          show i + n ≤ m
          omega
    exact key k _ _ (Nat.le_of_lt_succ (Nat.mod_lt _ (Nat.succ_pos m)))
  · show k < 10 * (m + 15)
    omega
theorem slot_live {t : SetTable} {ns : List Nat} {i j : Nat} (hp : t.place = ns.toArray) (up : ns.Pairwise (· < ·)) (hi : ns[i]? = some j) : t.slot j = .live i := by
  have hl := (List.getElem?_eq_some_iff.mp hi).1
  have ej := (List.getElem?_eq_some_iff.mp hi).2
  have hb : below t.place j = i := by
    rw [hp]
    refine L2.below_cut (by rw [List.size_toArray]; omega) (fun q h1 h2 => ?_) fun q h1 h2 => ?_
    · rw [List.size_toArray] at h2
      rw [L2.getD_list, List.getD_eq_getElem?_getD, List.getElem?_eq_getElem h2]
      have := List.pairwise_iff_getElem.mp up q i h2 hl h1
      show ns[q] < j
      omega
    · rw [List.size_toArray] at h2
      rw [L2.getD_list, List.getD_eq_getElem?_getD, List.getElem?_eq_getElem h2]
      show ¬ ns[q] < j
      rcases Nat.eq_or_lt_of_le h1 with h | h
      · subst h; omega
      · have := List.pairwise_iff_getElem.mp up i q hl h2 h; omega
  unfold slot
  dsimp only
  rw [hb, hp, List.getElem?_toArray, hi, if_pos (by simp)]
theorem slot_empty {t : SetTable} {ns : List Nat} {j : Nat} (hp : t.place = ns.toArray) (hd : t.dummies = #[]) (hj : j ∉ ns) : t.slot j = .empty := by
  unfold slot
  dsimp only
  rw [if_neg, if_neg]
  · rw [hd, show has #[] j = false from rfl]; exact Bool.false_ne_true
  · intro z
    have z := eq_of_beq z
    rw [hp, List.getElem?_toArray] at z
    exact hj (List.mem_of_getElem? z)
theorem pgo (t : SetTable) (hashAt : Nat → Int) (h : Int) : ∀ n fuel p, n < fuel → (∀ k, k < n → ∃ i, t.slot (go t.mask k p).j = .live i ∧ hashAt i ≠ h) → probe.go t hashAt h fuel p = probe.go t hashAt h (fuel - n) (go t.mask n p)
  | 0, fuel, p, _, _ => rfl
  | n + 1, 0, p, hf, _ => by omega
  | n + 1, fuel + 1, p, hf, hk => by
    obtain ⟨i, h1, h2⟩ := hk 0 (Nat.succ_pos n)
    have e : probe.go t hashAt h (fuel + 1) p = probe.go t hashAt h fuel (adv t.mask p) := by
      conv => lhs; unfold probe.go
      rw [show t.slot p.j = .live i from h1]
      dsimp only
      rw [if_neg (by simpa using h2)]
      rfl
    rw [e, pgo t hashAt h n fuel (adv t.mask p) (by omega) fun k hk' => hk (k + 1) (by omega)]
    rw [show fuel + 1 - (n + 1) = fuel - n by omega]
    rfl
abbrev Ent := Nat × Int × Value
structure Tb (led : Bool) (t : SetTable) (L : List Ent) : Prop where
  place : t.place = (L.map (·.1)).toArray
  dum : t.dummies = #[]
  plain : t.plain = true
  led : t.led = led
  mask : Good t.mask
  room : L.length * 5 < t.mask * 3
  up : (L.map (·.1)).Pairwise (· < ·)
  le : ∀ e ∈ L, e.1 ≤ t.mask
  nd : (L.map (·.2.1)).Nodup
  rch : ∀ e ∈ L, Rch t.mask (L.map (·.1)) e.2.1 e.1
theorem Tb.lt {led : Bool} {t : SetTable} {L : List Ent} (T : Tb led t L) : L.length ≤ t.mask := by have := T.room; omega
theorem Tb.fits {led : Bool} {t : SetTable} {L : List Ent} (T : Tb led t L) : t.fits (L.map (·.2)).toArray.size = true := by
  unfold SetTable.fits SetTable.fill
  rw [T.place, T.dum]
  have := T.lt
  simp
  omega
theorem Tb.hit {led : Bool} {t : SetTable} {L : List Ent} (T : Tb led t L) {hashAt : Nat → Int} (hh : ∀ i e, L[i]? = some e → hashAt i = e.2.1) {i : Nat} {e : Ent} (hi : L[i]? = some e) : ∃ nx, t.probe hashAt e.2.1 (t.probeStart e.2.1) = some (.candidate e.1 i nx) := by
  obtain ⟨n, h1, h2, h3⟩ := T.rch e (List.mem_of_getElem? hi)
  obtain ⟨n0, k1, k2, k3⟩ := least (p := fun n => (go t.mask n (p0 t.mask e.2.1)).j = e.1) h2
  have hli : (L.map (·.1))[i]? = some e.1 := by rw [List.getElem?_map, hi]; rfl
  have key := pgo t hashAt e.2.1 n0 (10 * turns t.mask) (p0 t.mask e.2.1) (by omega) fun k hk => by
    have hm := h3 k (by omega)
    obtain ⟨q, hq, eq⟩ := List.getElem_of_mem hm
    have hq' : q < L.length := by rw [List.length_map] at hq; exact hq
    have e1 : (L.map (·.1))[q]? = some (go t.mask k (p0 t.mask e.2.1)).j := by rw [List.getElem?_eq_getElem hq, eq]
    refine ⟨q, slot_live T.place T.up e1, fun z => ?_⟩
    rw [hh q L[q] (List.getElem?_eq_getElem hq')] at z
    have hil := (List.getElem?_eq_some_iff.mp hi).1
    have ei := (List.getElem?_eq_some_iff.mp hi).2
    have : q = i := by
      refine (List.getElem_inj (xs := L.map (·.2.1)) (h₀ := by rw [List.length_map]; exact hq') (h₁ := by rw [List.length_map]; exact hil) T.nd).mp ?_
      rw [List.getElem_map, List.getElem_map, z, ei]
    subst this
    rw [e1] at hli
    exact k3 k hk (Option.some.inj hli)
  refine ⟨t.advance (go t.mask n0 (p0 t.mask e.2.1)), ?_⟩
  show probe.go t hashAt e.2.1 (10 * turns t.mask) (p0 t.mask e.2.1) = _
  rw [key, show 10 * turns t.mask - n0 = (10 * turns t.mask - n0 - 1) + 1 by omega]
  unfold probe.go
  rw [k2, slot_live T.place T.up hli]
  dsimp only
  rw [hh i e hi, if_pos (by simp)]
theorem Tb.miss {led : Bool} {t : SetTable} {L : List Ent} (T : Tb led t L) {hashAt : Nat → Int} (hh : ∀ i e, L[i]? = some e → hashAt i = e.2.1) {h : Int} (hn : h ∉ L.map (·.2.1)) : ∃ j, t.probe hashAt h (t.probeStart h) = some (.empty j none) ∧ j ∉ L.map (·.1) ∧ j ≤ t.mask ∧ Rch t.mask (L.map (·.1)) h j := by
  obtain ⟨j, j1, j2, r⟩ := find_free (ns := L.map (·.1)) T.mask h (by rw [List.length_map]; exact T.lt)
  refine ⟨j, ?_, j1, j2, r⟩
  obtain ⟨n, h1, h2, h3⟩ := r
  have dn : ∀ n i pt, (go t.mask n (pAt t.mask i pt)).dummy = none := by
    have : ∀ n p, (go t.mask n p).dummy = p.dummy := by
      intro n
      induction n with
      | zero => intro p; rfl
      | succ n ih =>
        intro p
        show (go t.mask n (adv t.mask p)).dummy = _
        rw [ih]
        unfold adv
        split <;> rfl
    exact fun n i pt => this n _
  have key := pgo t hashAt h n (10 * turns t.mask) (p0 t.mask h) (by omega) fun k hk => by
    have hm := h3 k (by omega)
    obtain ⟨q, hq, eq⟩ := List.getElem_of_mem hm
    have hq' : q < L.length := by rw [List.length_map] at hq; exact hq
    have e1 : (L.map (·.1))[q]? = some (go t.mask k (p0 t.mask h)).j := by rw [List.getElem?_eq_getElem hq, eq]
    refine ⟨q, slot_live T.place T.up e1, fun z => ?_⟩
    rw [hh q L[q] (List.getElem?_eq_getElem hq')] at z
    exact hn (List.mem_map.mpr ⟨L[q], List.getElem_mem hq', z⟩)
  show probe.go t hashAt h (10 * turns t.mask) (p0 t.mask h) = _
  rw [key, show 10 * turns t.mask - n = (10 * turns t.mask - n - 1) + 1 by omega]
  unfold probe.go
  rw [h2, slot_empty T.place T.dum j1]
  dsimp only
  rw [show (go t.mask n (p0 t.mask h)).dummy = none from dn n _ _]
theorem cut_ex (j : Nat) : ∀ ns : List Nat, ns.Pairwise (· < ·) → ∃ k, k ≤ ns.length ∧ (∀ x ∈ ns.take k, x < j) ∧ ∀ x ∈ ns.drop k, ¬ x < j
  | [], _ => ⟨0, Nat.le_refl _, (fun x h => nomatch h), fun x h => nomatch h⟩
  | n :: ns, h => by
    rw [List.pairwise_cons] at h
    by_cases hn : n < j
    · obtain ⟨k, h1, h2, h3⟩ := cut_ex j ns h.2
      refine ⟨k + 1, by rw [List.length_cons]; omega, fun x hx => ?_, h3⟩
      rw [List.take_succ_cons] at hx
      rcases List.mem_cons.mp hx with rfl | hx
      · exact hn
      · exact h2 x hx
    · refine ⟨0, Nat.zero_le _, (fun x h => nomatch h), fun x hx => ?_⟩
      rw [List.drop_zero] at hx
      rcases List.mem_cons.mp hx with rfl | hx
      · exact hn
      · have := h.1 x hx; omega
theorem below_of {ns : List Nat} {j k : Nat} (h0 : k ≤ ns.length) (h1 : ∀ x ∈ ns.take k, x < j) (h2 : ∀ x ∈ ns.drop k, ¬ x < j) : below ns.toArray j = k := by
  refine L2.below_cut (by rw [List.size_toArray]; exact h0) (fun q a b => ?_) fun q a b => ?_
  · rw [List.size_toArray] at b
    rw [L2.getD_list, List.getD_eq_getElem?_getD, List.getElem?_eq_getElem b]
    exact h1 _ (List.mem_iff_getElem?.mpr ⟨q, by rw [List.getElem?_take_of_lt a, List.getElem?_eq_getElem b]; rfl⟩)
  · rw [List.size_toArray] at b
    rw [L2.getD_list, List.getD_eq_getElem?_getD, List.getElem?_eq_getElem b]
    exact h2 _ (List.mem_iff_getElem?.mpr ⟨q - k, by rw [List.getElem?_drop, show k + (q - k) = q by omega, List.getElem?_eq_getElem b]; rfl⟩)
def insL (L : List Ent) (k : Nat) (e : Ent) : List Ent := L.take k ++ [e] ++ L.drop k
theorem mem_ins {L : List Ent} {k : Nat} {e x : Ent} : x ∈ insL L k e ↔ x = e ∨ x ∈ L := by
  unfold insL
  simp only [List.mem_append, List.mem_singleton]
  conv => rhs; rw [← List.take_append_drop k L, List.mem_append]
  constructor
  · rintro ((h | h) | h)
    · exact .inr (.inl h)
    · exact .inl h
    · exact .inr (.inr h)
  · rintro (h | h | h)
    · exact .inl (.inr h)
    · exact .inl (.inl h)
    · exact .inr h
theorem ins_perm (L : List Ent) (k : Nat) (e : Ent) : (insL L k e).Perm (e :: L) := by
  unfold insL
  rw [List.append_assoc, List.singleton_append]
  refine List.perm_middle.trans ?_
  rw [List.take_append_drop]
theorem Tb.put {led : Bool} {t : SetTable} {L : List Ent} (T : Tb led t L) {h : Int} {j : Nat} {x : Value} (hn : h ∉ L.map (·.2.1)) (j1 : j ∉ L.map (·.1)) (j2 : j ≤ t.mask) (r : Rch t.mask (L.map (·.1)) h j) :
    ∃ k, t.put j = ({ t with place := ((insL L k (j, h, x)).map (·.1)).toArray }, k) ∧ SetTable.insertAt (L.map (·.2)).toArray k (h, x) = ((insL L k (j, h, x)).map (·.2)).toArray ∧
      ((insL L k (j, h, x)).length * 5 < t.mask * 3 → Tb led { t with place := ((insL L k (j, h, x)).map (·.1)).toArray } (insL L k (j, h, x))) ∧ ((insL L k (j, h, x)).map (·.1)).Pairwise (· < ·) ∧ ((insL L k (j, h, x)).map (·.2.1)).Nodup := by
  obtain ⟨k, k0, k1, k2⟩ := cut_ex j _ T.up
  have hb : below t.place j = k := by rw [T.place]; exact below_of k0 k1 k2
  have up : ((insL L k (j, h, x)).map (·.1)).Pairwise (· < ·) := by
    unfold insL
    rw [List.map_append, List.map_append, List.map_take, List.map_drop]
    rw [List.pairwise_append, List.pairwise_append]
    have hT := T.up
    rw [← List.take_append_drop k (L.map (·.1)), List.pairwise_append] at hT
    refine ⟨⟨hT.1, List.pairwise_singleton _ _, fun a ha b hb => ?_⟩, hT.2.1, fun a ha b hb => ?_⟩
    · rw [List.mem_singleton.mp hb]; exact k1 a ha
    · rcases List.mem_append.mp ha with ha | ha
      · exact hT.2.2 a ha b hb
      · rw [List.mem_singleton.mp ha]
        have h1 := k2 b hb
        have h2 : b ≠ j := fun z => j1 (z ▸ List.mem_of_mem_drop hb)
        show j < b
        omega
  have nd : ((insL L k (j, h, x)).map (·.2.1)).Nodup := by
    refine ((ins_perm L k (j, h, x)).map (·.2.1)).nodup_iff.mpr ?_
    rw [List.map_cons, List.nodup_cons]
    exact ⟨hn, T.nd⟩
  refine ⟨k, ?_, ?_, fun hr => ?_, up, nd⟩
  · unfold SetTable.put
    dsimp only
    rw [hb]
    have hh : has t.dummies j = false := by rw [T.dum]; rfl
    rw [hh]
    have : insertAt t.place k j = ((insL L k (j, h, x)).map (·.1)).toArray := by
      apply Array.ext'
      rw [SetTable.toList_insertAt, T.place]
      unfold insL
      rw [List.map_append, List.map_append, List.map_take, List.map_drop]
      simp
    rw [this]
    rfl
  · apply Array.ext'
    rw [SetTable.toList_insertAt]
    unfold insL
    rw [List.map_append, List.map_append, List.map_take, List.map_drop]
    simp
  · refine ⟨rfl, T.dum, T.plain, T.led, T.mask, hr, up, fun e he => ?_, nd, fun e he => ?_⟩
    · rcases mem_ins.mp he with rfl | he
      · exact j2
      · exact T.le e he
    · have sub : ∀ y ∈ L.map (·.1), y ∈ (insL L k (j, h, x)).map (·.1) := fun y hy => by
        obtain ⟨q, hq, rfl⟩ := List.mem_map.mp hy
        exact List.mem_map.mpr ⟨q, mem_ins.mpr (.inr hq), rfl⟩
      rcases mem_ins.mp he with rfl | he
      · exact r.mono sub
      · exact (T.rch e he).mono sub
end Ts
namespace Ts
open PySem PySem.SetTable
structure Ow (m : Nat) (hs : List Int) (ss : List Nat) (owner : Array (Option Nat)) : Prop where
  len : ss.length = hs.length
  size : owner.size = m + 1
  nd : ss.Nodup
  le : ∀ s ∈ ss, s ≤ m
  own : ∀ (j i : Nat), j ≤ m → (owner[j]? = some (some i) ↔ ss[i]? = some j)
  emp : ∀ (j : Nat), j ≤ m → (owner[j]? = some none ↔ j ∉ ss)
  rch : ∀ (i s : Nat) (h : Int), ss[i]? = some s → hs[i]? = some h → Rch m ss h s
theorem Ow.isN {m : Nat} {hs : List Int} {ss : List Nat} {owner : Array (Option Nat)} (O : Ow m hs ss owner) {j : Nat} (hj : j ≤ m) : (owner.getD j (some 0)).isNone = true ↔ j ∉ ss := by
  rw [← O.emp j hj]
  have : j < owner.size := by rw [O.size]; omega
  rw [Array.getD_eq_getD_getElem?, Array.getElem?_eq_getElem this]
  show Option.isNone owner[j] = true ↔ some owner[j] = some none
  rw [Option.isNone_iff_eq_none]
  exact ⟨fun h => by rw [h], fun h => Option.some.inj h⟩
theorem free_spec {m : Nat} {hs : List Int} {ss : List Nat} {owner : Array (Option Nat)} (O : Ow m hs ss owner) : ∀ fuel L i pt, i ≤ m → L < fuel → (lp m L (i, pt)).1 ∉ ss →
    ∃ n, n < 10 * fuel ∧ layClean.free m owner fuel i pt = some (go m n (pAt m i pt)).j ∧ (go m n (pAt m i pt)).j ∉ ss ∧ (go m n (pAt m i pt)).j ≤ m ∧ ∀ k, k < n → (go m k (pAt m i pt)).j ∈ ss := by
  intro fuel
  induction fuel with
  | zero => intro L i pt _ h; omega
  | succ fuel ih =>
    intro L i pt hi hL hn
    have r := run_le hi
    have r9 := run9 m i
    have at_ : ∀ k, k ≤ runEnd m i - i → (go m k (pAt m i pt)).j = i + k := fun k hk => by
      unfold pAt
      rw [go_run m i pt k _ _ hk]
    unfold layClean.free
    cases hf : (List.range (runEnd m i + 1 - i)).find? fun k => (owner.getD (i + k) (some 0)).isNone with
    | some k =>
      dsimp only
      obtain ⟨h1, h2, h3⟩ := List.find?_range_eq_some.mp hf
      have hk := List.mem_range.mp h2
      have e := at_ k (by omega)
      refine ⟨k, by omega, by rw [e], by rw [e]; exact (O.isN (by omega)).mp h1, by rw [e]; omega, fun q hq => ?_⟩
      rw [at_ q (by omega)]
      have := h3 q hq
      exact Classical.byContradiction fun z => by
        rw [(O.isN (by omega)).mpr z] at this
        cases this
    | none =>
      dsimp only
      have h3 := List.find?_range_eq_none.mp hf
      have occ : ∀ k, k ≤ runEnd m i - i → i + k ∈ ss := fun k hk => Classical.byContradiction fun z => by
        have := h3 k (by omega)
        rw [(O.isN (by omega)).mpr z] at this
        cases this
      cases L with
      | zero => exact absurd (occ 0 (Nat.zero_le _)) hn
      | succ L =>
        obtain ⟨n, a1, a2, a3, a4, a5⟩ := ih L (leap m i pt).1 (leap m i pt).2 (Nat.le_of_lt_succ (Nat.mod_lt _ (Nat.succ_pos m))) (by omega) hn
        have eg : ∀ q, go m (runEnd m i - i + 1 + q) (pAt m i pt) = go m q (pAt m (leap m i pt).1 (leap m i pt).2) := fun q => by rw [go_add, go_leap]
        refine ⟨runEnd m i - i + 1 + n, by omega, by rw [eg]; exact a2, by rw [eg]; exact a3, by rw [eg]; exact a4, fun q hq => ?_⟩
        rcases Nat.lt_or_ge (runEnd m i - i) q with z | z
        · rw [show q = runEnd m i - i + 1 + (q - (runEnd m i - i + 1)) by omega, eg]
          exact a5 _ (by omega)
        · rw [at_ q z]
          exact occ q z
theorem fm_congr {α β : Type} {f g : α → Option β} : ∀ {l : List α}, (∀ x ∈ l, f x = g x) → l.filterMap f = l.filterMap g
  | [], _ => rfl
  | a :: l, h => by
    rw [List.filterMap_cons, List.filterMap_cons, h a (List.mem_cons_self ..), fm_congr fun x hx => h x (List.mem_cons_of_mem _ hx)]
def stepC (m : Nat) (acc : Option (Array (Option Nat) × Nat)) (h : Int) : Option (Array (Option Nat) × Nat) := do
  let (owner, k) ← acc
  let j ← layClean.free m owner (turns m) (bits h % (m + 1)) (bits h)
  pure (owner.setIfInBounds j (some k), k + 1)
theorem step_ok {m : Nat} {hs : List Int} {ss : List Nat} {owner : Array (Option Nat)} (hm : Good m) (O : Ow m hs ss owner) (h : Int) (hl : hs.length ≤ m) : ∃ j, stepC m (some (owner, ss.length)) h = some (owner.setIfInBounds j (some ss.length), ss.length + 1) ∧ Ow m (hs ++ [h]) (ss ++ [j]) (owner.setIfInBounds j (some ss.length)) := by
  obtain ⟨j0, h0, h1⟩ : ∃ j, j ≤ m ∧ j ∉ ss := by
    apply Classical.byContradiction
    intro z
    have := pig (m + 1) ss fun j hj => Classical.byContradiction fun q => z ⟨j, by omega, q⟩
    have := O.len
    omega
  obtain ⟨L, hL, eL⟩ := cover (pt := bits h) (i := bits h % (m + 1)) hm (bits_lt h) (Nat.le_of_lt_succ (Nat.mod_lt _ (Nat.succ_pos m))) h0
  obtain ⟨n, a1, a2, a3, a4, a5⟩ := free_spec O (turns m) L (bits h % (m + 1)) (bits h) (Nat.le_of_lt_succ (Nat.mod_lt _ (Nat.succ_pos m))) (by show L < m + 15; omega) (by rw [eL]; exact h1)
  generalize hj : (go m n (pAt m (bits h % (m + 1)) (bits h))).j = j at a2 a3 a4
  refine ⟨j, ?_, ?_⟩
  · unfold stepC
    dsimp only [Option.bind_eq_bind, Option.bind_some]
    rw [a2]
    rfl
  · have sj : j < owner.size := by rw [O.size]; omega
    refine ⟨by rw [List.length_append, List.length_append, O.len]; rfl, by rw [Array.size_setIfInBounds]; exact O.size, ?_, fun s hs => ?_, fun q i hq => ?_, fun q hq => ?_, fun i s h' e1 e2 => ?_⟩
    · rw [List.nodup_append]
      exact ⟨O.nd, List.nodup_cons.mpr ⟨(fun z => nomatch z), .nil⟩, fun a ha b hb z => by rw [List.mem_singleton.mp hb] at z; exact a3 (z ▸ ha)⟩
    · rcases List.mem_append.mp hs with hs | hs
      · exact O.le s hs
      · rw [List.mem_singleton.mp hs]; exact a4
    · rw [Array.getElem?_setIfInBounds]
      by_cases e : j = q
      · subst e
        rw [if_pos rfl, if_pos sj]
        constructor
        · intro z
          have : ss.length = i := Option.some.inj (Option.some.inj z)
          subst this
          rw [List.getElem?_append_right (Nat.le_refl _), Nat.sub_self]
          rfl
        · intro z
          rcases Nat.lt_or_ge i ss.length with hi | hi
          · rw [List.getElem?_append_left hi] at z
            exact absurd (List.mem_of_getElem? z) a3
          · rw [List.getElem?_append_right hi] at z
            have : i - ss.length = 0 := by
              have := (List.getElem?_eq_some_iff.mp z).1
              rw [List.length_singleton] at this
              omega
            have : i = ss.length := by omega
            rw [this]
      · rw [if_neg e, O.own q i hq]
        constructor
        · intro z
          rw [List.getElem?_append_left (List.getElem?_eq_some_iff.mp z).1]; exact z
        · intro z
          rcases Nat.lt_or_ge i ss.length with hi | hi
          · rw [List.getElem?_append_left hi] at z; exact z
          · rw [List.getElem?_append_right hi] at z
            have := List.mem_singleton.mp (List.mem_of_getElem? z)
            exact absurd this.symm e
    · rw [Array.getElem?_setIfInBounds]
      by_cases e : j = q
      · subst e
        rw [if_pos rfl, if_pos sj]
        exact ⟨fun z => (nomatch Option.some.inj z), fun z => absurd (by simp) z⟩
      · rw [if_neg e, O.emp q hq]
        refine ⟨fun z z' => ?_, fun z z' => z (List.mem_append_left _ z')⟩
        rcases List.mem_append.mp z' with z' | z'
        · exact z z'
        · exact e (List.mem_singleton.mp z').symm
    · have sub : ∀ x ∈ ss, x ∈ ss ++ [j] := fun x hx => List.mem_append_left _ hx
      rcases Nat.lt_or_ge i ss.length with hi | hi
      · rw [List.getElem?_append_left hi] at e1
        rw [List.getElem?_append_left (by rw [← O.len]; exact hi)] at e2
        exact (O.rch i s h' e1 e2).mono sub
      · rw [List.getElem?_append_right hi] at e1
        rw [List.getElem?_append_right (by rw [← O.len]; exact hi)] at e2
        have q1 := List.mem_singleton.mp (List.mem_of_getElem? e1)
        have q2 := List.mem_singleton.mp (List.mem_of_getElem? e2)
        subst q1 q2
        exact ⟨n, a1, hj, fun k hk => sub _ (a5 k hk)⟩
theorem fold_ok {m : Nat} (hm : Good m) : ∀ (rest hs : List Int) (ss : List Nat) (owner : Array (Option Nat)), Ow m hs ss owner → hs.length + rest.length ≤ m + 1 → ∃ ss' owner', rest.foldl (stepC m) (some (owner, ss.length)) = some (owner', ss'.length) ∧ Ow m (hs ++ rest) ss' owner'
  | [], hs, ss, owner, O, _ => ⟨ss, owner, rfl, by rw [List.append_nil]; exact O⟩
  | h :: rest, hs, ss, owner, O, hl => by
    rw [List.length_cons] at hl
    obtain ⟨j, h1, h2⟩ := step_ok hm O h (by omega)
    obtain ⟨ss', owner', h3, h4⟩ := fold_ok hm rest (hs ++ [h]) (ss ++ [j]) _ h2 (by rw [List.length_append, List.length_singleton]; omega)
    refine ⟨ss', owner', ?_, by rw [List.append_assoc] at h4; exact h4⟩
    rw [List.foldl_cons, h1, ← h3, List.length_append]
    rfl
theorem clean_ok {m : Nat} (hm : Good m) (hs : Array Int) (hl : hs.size ≤ m + 1) : ∃ ss owner, layClean m hs = some owner ∧ Ow m hs.toList ss owner := by
  have O0 : Ow m [] [] (Array.replicate (m + 1) none) := by
    refine ⟨rfl, Array.size_replicate, .nil, (fun s h => nomatch h), fun j i hj => ?_, fun j hj => ?_, fun i s h e => by cases e⟩
    · rw [Array.getElem?_replicate, if_pos (by omega)]
      exact ⟨fun z => (nomatch Option.some.inj z), fun z => (nomatch z)⟩
    · rw [Array.getElem?_replicate, if_pos (by omega)]
      exact ⟨fun _ z => (nomatch z), fun _ => rfl⟩
  obtain ⟨ss, owner, h1, h2⟩ := fold_ok hm hs.toList [] [] _ O0 (by simpa using hl)
  refine ⟨ss, owner, ?_, by simpa using h2⟩
  show (hs.foldl (stepC m) (some (Array.replicate (m + 1) none, 0)) |>.map (·.1)) = some owner
  rw [← Array.foldl_toList]
  have h1' : hs.toList.foldl (stepC m) (some (Array.replicate (m + 1) none, 0)) = some (owner, ss.length) := h1
  rw [h1']
  rfl
theorem laid_ok {m : Nat} (hm : Good m) {L : List Ent} (hl : L.length ≤ m + 1) (nd : (L.map (·.2.1)).Nodup) (fg mv : Nat) (led plain : Bool) :
    ∃ (L' : List Ent) (order : Array Nat), laid m fg mv led plain ((L.map (·.2)).toArray.map (·.1)) = some ({ mask := m, place := (L'.map (·.1)).toArray, dummies := #[], finger := fg, led := led, moves := mv, plain := plain }, order) ∧ order.filterMap ((L.map (·.2)).toArray[·]?) = (L'.map (·.2)).toArray ∧ (L'.map (·.2)).Perm (L.map (·.2)) ∧
      (L'.map (·.1)).Pairwise (· < ·) ∧ (∀ e ∈ L', e.1 ≤ m) ∧ ∀ e ∈ L', Rch m (L'.map (·.1)) e.2.1 e.1 := by
  have eh : ((L.map (·.2)).toArray.map (·.1)).toList = L.map (·.2.1) := by simp
  obtain ⟨ss, owner, h1, O⟩ := clean_ok hm ((L.map (·.2)).toArray.map (·.1)) (by simpa using hl)
  rw [eh] at O
  have sl : ss.length = L.length := by rw [O.len, List.length_map]
  obtain ⟨live, hlive⟩ : ∃ live, live = (List.range (m + 1)).filterMap fun j => (owner.getD j none).map (j, ·) := ⟨_, rfl⟩
  have mem : ∀ j i, (j, i) ∈ live ↔ ss[i]? = some j := fun j i => by
    rw [hlive, List.mem_filterMap]
    constructor
    · rintro ⟨q, hq, e⟩
      have hq := List.mem_range.mp hq
      have sq : q < owner.size := by rw [O.size]; omega
      rw [Array.getD_eq_getD_getElem?, Array.getElem?_eq_getElem sq, Option.getD_some] at e
      obtain ⟨i', e1, e2⟩ := Option.map_eq_some_iff.mp e
      cases e2
      exact (O.own j i (by omega)).mp (by rw [Array.getElem?_eq_getElem sq, e1])
    · intro e
      have hj := O.le j (List.mem_of_getElem? e)
      have sq : j < owner.size := by rw [O.size]; omega
      refine ⟨j, List.mem_range.mpr (by omega), ?_⟩
      have := (O.own j i hj).mpr e
      rw [Array.getD_eq_getD_getElem?, this]
      rfl
  have lt : ∀ q ∈ live, q.2 < L.length := fun q hq => by
    have := (List.getElem?_eq_some_iff.mp ((mem q.1 q.2).mp hq)).1
    omega
  have up : (live.map (·.1)).Pairwise (· < ·) := by
    rw [hlive, List.pairwise_map, List.pairwise_filterMap]
    refine (List.pairwise_lt_range (n := m + 1)).imp fun {a b} hab x hx y hy => ?_
    obtain ⟨_, _, rfl⟩ := Option.map_eq_some_iff.mp hx
    obtain ⟨_, _, rfl⟩ := Option.map_eq_some_iff.mp hy
    exact hab
  obtain ⟨L', hL'⟩ : ∃ L' : List Ent, L' = live.map fun q => (q.1, (L.getD q.2 (0, 0, .none)).2) := ⟨_, rfl⟩
  have e1 : L'.map (·.1) = live.map (·.1) := by rw [hL', List.map_map]; rfl
  have gd : ∀ i, i < L.length → ∃ e, L[i]? = some e ∧ L.getD i (0, 0, .none) = e := fun i hi => ⟨L[i], List.getElem?_eq_getElem hi, by rw [List.getD_eq_getElem?_getD, List.getElem?_eq_getElem hi]; rfl⟩
  have mem' : ∀ e, e ∈ L' ↔ ∃ (i : Nat) (e0 : Ent), ss[i]? = some e.1 ∧ L[i]? = some e0 ∧ e.2 = e0.2 := fun e => by
    rw [hL', List.mem_map]
    constructor
    · rintro ⟨q, hq, rfl⟩
      obtain ⟨e0, z1, z2⟩ := gd q.2 (lt q hq)
      exact ⟨q.2, e0, (mem q.1 q.2).mp hq, z1, by show (L.getD q.2 _).2 = _; rw [z2]⟩
    · rintro ⟨i, e0, z1, z2, z3⟩
      refine ⟨(e.1, i), (mem e.1 i).mpr z1, ?_⟩
      show (e.1, (L.getD i _).2) = e
      rw [List.getD_eq_getElem?_getD, z2, Option.getD_some, ← z3]
  have ndh : (L'.map (·.2.1)).Nodup := by
    rw [hL', List.map_map]
    unfold List.Nodup
    rw [List.pairwise_map]
    rw [List.pairwise_map] at up
    refine up.imp_of_mem fun {a b} ha hb hab z => ?_
    obtain ⟨ea, a1, a2⟩ := gd a.2 (lt a ha)
    obtain ⟨eb, b1, b2⟩ := gd b.2 (lt b hb)
    have z' : ea.2.1 = eb.2.1 := by rw [← a2, ← b2]; exact z
    have : a.2 = b.2 := by
      refine (List.getElem_inj (xs := L.map (·.2.1)) (h₀ := by rw [List.length_map]; exact lt a ha) (h₁ := by rw [List.length_map]; exact lt b hb) nd).mp ?_
      rw [List.getElem_map, List.getElem_map, (List.getElem?_eq_some_iff.mp a1).2, (List.getElem?_eq_some_iff.mp b1).2, z']
    have s1 := (mem a.1 a.2).mp ha
    have s2 := (mem b.1 b.2).mp hb
    rw [this, s2] at s1
    have := Option.some.inj s1
    omega
  refine ⟨L', (live.map (·.2)).toArray, ?_, ?_, ?_, by rw [e1]; exact up, fun e he => ?_, fun e he => ?_⟩
  · unfold laid
    rw [h1]
    dsimp only [Option.bind_eq_bind, Option.bind_some, Option.pure_def]
    rw [← hlive, e1]
  · apply Array.ext'
    rw [Array.toList_filterMap]
    show (live.map (·.2)).filterMap _ = L'.map (·.2)
    rw [List.filterMap_map, hL', List.map_map, show ∀ (f : Nat × Nat → Int × Value), live.map f = live.filterMap (some ∘ f) from fun f => by rw [List.filterMap_eq_map]]
    refine fm_congr fun q hq => ?_
    obtain ⟨e0, z1, z2⟩ := gd q.2 (lt q hq)
    show (L.map (·.2)).toArray[q.2]? = some (L.getD q.2 (0, 0, .none)).2
    rw [List.getElem?_toArray, List.getElem?_map, z1, z2]
    rfl
  · have nd1 : (L'.map (·.2)).Nodup := by
      have : (L'.map (·.2)).map (·.1) = L'.map (·.2.1) := by rw [List.map_map]; rfl
      rw [← this] at ndh
      exact List.Pairwise.of_map _ (fun a b hab z => hab (by rw [z])) ndh
    have nd2 : (L.map (·.2)).Nodup := by
      have : (L.map (·.2)).map (·.1) = L.map (·.2.1) := by rw [List.map_map]; rfl
      rw [← this] at nd
      exact List.Pairwise.of_map _ (fun a b hab z => hab (by rw [z])) nd
    refine (List.perm_ext_iff_of_nodup nd1 nd2).mpr fun x => ?_
    rw [List.mem_map, List.mem_map]
    constructor
    · rintro ⟨e, he, rfl⟩
      obtain ⟨i, e0, _, z2, z3⟩ := (mem' e).mp he
      exact ⟨e0, List.mem_of_getElem? z2, z3.symm⟩
    · rintro ⟨e0, he, rfl⟩
      obtain ⟨i, hi, ei⟩ := List.getElem_of_mem he
      have z2 : L[i]? = some e0 := by rw [List.getElem?_eq_getElem hi, ei]
      exact ⟨(ss[i]'(by omega), e0.2), (mem' _).mpr ⟨i, e0, List.getElem?_eq_getElem (by omega), z2, rfl⟩, rfl⟩
  · obtain ⟨i, e0, z1, _, _⟩ := (mem' e).mp he
    exact O.le _ (List.mem_of_getElem? z1)
  · obtain ⟨i, e0, z1, z2, z3⟩ := (mem' e).mp he
    have := O.rch i e.1 e.2.1 z1 (by rw [List.getElem?_map, z2, z3]; rfl)
    refine this.mono fun s hs => ?_
    obtain ⟨q, hq, eq⟩ := List.getElem_of_mem hs
    rw [e1]
    exact List.mem_map.mpr ⟨(s, q), (mem s q).mpr (by rw [List.getElem?_eq_getElem hq, eq]), rfl⟩
end Ts
namespace Ts
open PySem PySem.Spec PyProof.Rows
def hP (p : Nat × Nat) : Int := reduceHash (Builtin.Tuple.tupleHashOf [hashInt (p.1 : Int), hashInt (p.2 : Int)])
def allP : List (Nat × Nat) := (List.range 7).flatMap fun a => (List.range 7).map fun b => (a, b)
theorem hP_inj {p q : Nat × Nat} (hp : p.1 ≤ 6 ∧ p.2 ≤ 6) (hq : q.1 ≤ 6 ∧ q.2 ≤ 6) (h : hP p = hP q) : p = q := by
  have key : (allP.all fun p => allP.all fun q => decide (hP p = hP q → p = q)) = true := by decide +kernel
  have mem : ∀ p : Nat × Nat, p.1 ≤ 6 ∧ p.2 ≤ 6 → p ∈ allP := fun p h => List.mem_flatMap.mpr ⟨p.1, List.mem_range.mpr (by omega), List.mem_map.mpr ⟨p.2, List.mem_range.mpr (by omega), rfl⟩⟩
  have := List.all_eq_true.mp (List.all_eq_true.mp key p (mem p hp)) q (mem q hq)
  exact of_decide_eq_true this h
abbrev kP (p : Nat × Nat) : List L2.Key := [.inl (p.1 : Int), .inl (p.2 : Int)]
def IsP (h : Heap) (p : Nat × Nat) (a : Addr) : Prop := ∃ o n t u, h.get? a = some o ∧ o.cls = .type "tuple" ∧ o.data = .seq #[.int (p.1 : Int) t, .int (p.2 : Int) u] n
theorem IsP.key {prog : Program} {w : World} {h : Heap} {p : Nat × Nat} {a : Addr} (x : IsP h p a) : IsTupleKey (L2.mixKind prog w) h (kP p) a := by
  obtain ⟨o, n, t, u, h1, h2, h3⟩ := x
  exact ⟨o, _, n, h1, h2, h3, .cons (L2.mixKind_int _ _ _ _) (.cons (L2.mixKind_int _ _ _ _) .nil)⟩
theorem IsP.typeIs {s : Shared} {p : Nat × Nat} {a : Addr} (x : IsP s.heap p a) : s.TypeIs (.ref a) "tuple" := let ⟨o, _, _, _, ho, hc, _⟩ := x; ⟨o, ho, hc⟩
theorem IsP.at {h h' : Heap} {p : Nat × Nat} {a : Addr} (x : IsP h p a) (e : ∀ o, h.get? a = some o → h'.get? a = some o) : IsP h' p a := let ⟨o, n, t, u, ho, r⟩ := x; ⟨o, n, t, u, e o ho, r⟩
section
variable {prog : Program} {w : World} {A : Around} {E : Value → Shared → Prop} {s : Shared}
theorem byVal {p : Nat × Nat} {a : Addr} {Q : Bool → Shared → Prop} (x : IsP s.heap p a) (h : Q true s) : wpAny (model prog w) A (hashByValue 8 (.ref a)) Q E s := by
  have hT := x.typeIs
  obtain ⟨o, n, t, u, ho, _, hd⟩ := x
  unfold hashByValue
  refine wpAny_bind (wpAny_specialOf hT F.slot_tuple_hash.lookup ?_)
  show wpAny _ _ (seqItems? (.ref a) >>= _) _ _ s
  refine wpAny_bind (wpAny_seqItems ho hd ?_)
  refine wpAny_bind ?_
  show wpAny _ _ (forIn (#[Value.int (p.1 : Int) t, Value.int (p.2 : Int) u]) _ _) _ _ s
  rw [← Array.forIn_toList]
  refine wpAny_forIn_list _ (fun rest r s' => r.1 = none ∧ s' = s ∧ ∀ v ∈ rest, ∃ i t, v = Value.int i t) _ ?_ ?_ _ _ ⟨rfl, rfl, fun v hv => ?_⟩
  · rintro v rest r s' ⟨hr, rfl, hall⟩
    obtain ⟨i, t', rfl⟩ := hall v List.mem_cons_self
    unfold hashByValue
    refine wpAny_bind (wpAny_pure ?_)
    simp only [Bool.not_true, Bool.false_eq_true, if_false]
    exact wpAny_pure ⟨rfl, rfl, fun u hu' => hall u (List.mem_cons_of_mem _ hu')⟩
  · rintro ⟨r1, r2⟩ s' ⟨hr, rfl, _⟩
    simp only at hr
    subst hr
    exact wpAny_pure h
  · rcases List.mem_cons.mp hv with rfl | hv
    · exact ⟨_, _, rfl⟩
    · rw [List.mem_singleton.mp hv]; exact ⟨_, _, rfl⟩
theorem ofClass {p : Nat × Nat} {a : Addr} {Q : Bool → Shared → Prop} (x : IsP s.heap p a) (h : Q false s) : wpAny (model prog w) A (ofAClassStatement 8 (.ref a)) Q E s := by
  have hT := x.typeIs
  obtain ⟨o, n, t, u, ho, _, hd⟩ := x
  unfold ofAClassStatement
  refine wpAny_bind (wpAny_typeOf hT ?_)
  dsimp only
  rw [if_pos (by decide)]
  refine wpAny_bind (wpAny_pure ?_)
  simp only [Bool.not_true, Bool.false_eq_true, if_false]
  refine wpAny_bind (wpAny_seqItems ho hd ?_)
  dsimp only
  refine wpAny_bind ?_
  rw [← Array.forIn_toList]
  refine wpAny_forIn_list _ (fun rest r s' => r.1 = none ∧ s' = s ∧ ∀ v ∈ rest, ∃ i t, v = Value.int i t) _ ?_ ?_ _ _ ⟨rfl, rfl, fun v hv => ?_⟩
  · rintro v rest r s' ⟨hr, rfl, hall⟩
    obtain ⟨i, t', rfl⟩ := hall v List.mem_cons_self
    unfold ofAClassStatement
    refine wpAny_bind (wpAny_pure ?_)
    simp only [Bool.false_eq_true, if_false]
    exact wpAny_pure ⟨rfl, rfl, fun u hu' => hall u (List.mem_cons_of_mem _ hu')⟩
  · rintro ⟨r1, r2⟩ s' ⟨hr, rfl, _⟩
    simp only at hr
    subst hr
    exact wpAny_pure h
  · rcases List.mem_cons.mp hv with rfl | hv
    · exact ⟨_, _, rfl⟩
    · rw [List.mem_singleton.mp hv]; exact ⟨_, _, rfl⟩
theorem seen {p : Nat × Nat} {a : Addr} {l : List Value} {Q : Bool → Shared → Prop} (x : IsP s.heap p a) (hl : ∀ v ∈ l, ∃ q b, v = .ref b ∧ IsP s.heap q b) (h : Q false s) : wpAny (model prog w) A (searchCouldBeSeen (.ref a) l) Q E s := by
  unfold searchCouldBeSeen
  refine wpAny_bind ?_
  refine wpAny_forIn_list _ (fun rest r s' => r.1 = none ∧ s' = s ∧ ∀ v ∈ rest, ∃ q b, v = .ref b ∧ IsP s.heap q b) _ ?_ ?_ _ _ ⟨rfl, rfl, hl⟩
  · rintro v rest r s' ⟨hr, rfl, hall⟩
    obtain ⟨q, b, rfl, xb⟩ := hall v List.mem_cons_self
    dsimp only
    by_cases hab : (a == b) = true
    · rw [if_pos (by rw [hab]; rfl)]
      exact wpAny_pure ⟨rfl, rfl, fun u hu' => hall u (List.mem_cons_of_mem _ hu')⟩
    · rw [if_neg (by rw [Bool.not_eq_true] at hab; rw [hab]; exact Bool.false_ne_true)]
      refine wpAny_bind (wpAny_eqIsQuiet_tuple (knd := L2.mixKind prog w) x.key ?_)
      simp only [Bool.not_true, Bool.false_eq_true, if_false]
      refine wpAny_bind (wpAny_eqIsQuiet_tuple (knd := L2.mixKind prog w) xb.key ?_)
      simp only [Bool.not_true, Bool.false_eq_true, if_false]
      refine wpAny_bind (ofClass x ?_)
      simp only [Bool.false_eq_true, if_false]
      refine wpAny_bind (ofClass xb ?_)
      simp only [Bool.false_eq_true, if_false]
      exact wpAny_pure ⟨rfl, rfl, fun u hu' => hall u (List.mem_cons_of_mem _ hu')⟩
  · rintro ⟨r1, r2⟩ s' ⟨hr, rfl, _⟩
    simp only at hr
    subst hr
    exact wpAny_pure h
def SetT (led : Bool) (h : Heap) (S : Addr) (L : List Ent) : Prop := ∃ o t ep, h.get? S = some o ∧ o.ExactSet ∧ o.data = .set (L.map (·.2)).toArray ep t ∧ Tb led t L
theorem SetT.at {led : Bool} {h h' : Heap} {a : Addr} {L : List Ent} (x : SetT led h a L) (e : ∀ o, h.get? a = some o → h'.get? a = some o) : SetT led h' a L :=
  let ⟨o, t, ep, ho, r⟩ := x; ⟨o, t, ep, e o ho, r⟩
def Ek (h : Heap) (e : Int × Value) (p : Nat × Nat) : Prop := (p.1 ≤ 6 ∧ p.2 ≤ 6) ∧ ∃ a, e = (hP p, .ref a) ∧ IsP h p a
theorem hashAt_of {L : List Ent} (i : Nat) (e : Ent) (h : L[i]? = some e) : (((L.map (·.2)).toArray[i]?).map (·.1)).getD 0 = e.2.1 := by
  rw [List.getElem?_toArray, List.getElem?_map, h]; rfl
theorem gave {m : Nat} (h : Good m) : (m % 2 == 0) = false := by rcases h with rfl | rfl | rfl <;> rfl
theorem search_hit {led : Bool} {S a : Addr} {L : List Ent} {p : Nat × Nat} {o : Obj} {t : SetTable} {ep : Nat} {Q : SetFound → Shared → Prop} (hu : A.units < cLine) (ho : s.heap.get? S = some o) (hd : o.data = .set (L.map (·.2)).toArray ep t) (T : Tb led t L) (hE : ∀ e ∈ L, ∃ q, Ek s.heap e.2 q) (x : IsP s.heap p a) (sp : p.1 ≤ 6 ∧ p.2 ≤ 6) {e : Ent} (he : e ∈ L) (hh : e.2.1 = hP p) (h : Q (.there none) s) :
    wpAny (model prog w) A (setSearch S (.ref a) (hP p) true) Q E s := by
  obtain ⟨i, hi, ei⟩ := List.getElem_of_mem he
  have hi' : L[i]? = some e := by rw [List.getElem?_eq_getElem hi, ei]
  obtain ⟨nx, hp⟩ := T.hit (hashAt := fun i => (((L.map (·.2)).toArray[i]?).map (·.1)).getD 0) hashAt_of hi'
  rw [hh] at hp
  obtain ⟨q, sq, b, eb, xb⟩ := hE e he
  have pq : q = p := hP_inj sq sp (by rw [← hh, eb])
  subst pq
  unfold setSearch
  show wpAny _ _ (setSearchFrom S (.ref a) (hP q) true (99999 + 1) none) _ _ _
  unfold setSearchFrom
  refine wpAny_bind (wpAny_setState_of ho hd T.fits ?_)
  dsimp only
  rw [if_neg (by show ¬ (t.mask % 2 == 0) = true; rw [gave T.mask]; exact Bool.false_ne_true)]
  have hp' : t.probe (fun i => (((L.map (·.2)).toArray[i]?).map (·.1)).getD 0) (hP q) ((none : Option SetTable.Probe).getD (t.probeStart (hP q))) = some (.candidate e.1 i nx) := hp
  refine wpAny_bind (wpAny_pure ?_)
  show wpAny _ _ (match t.probe (fun i => (((L.map (·.2)).toArray[i]?).map (·.1)).getD 0) (hP q) ((none : Option SetTable.Probe).getD (t.probeStart (hP q))) with | some met => _ | _ => _) _ _ _
  rw [hp']
  dsimp only
  have tail : wpAny (model prog w) A (do
      let some (_, y) := (L.map (·.2)).toArray[i]? | unsupported "internal:set-entry"
      let equal ← holding [y] (eqBool y (.ref a))
      let (es', _, t') ← setState S
      if true && equal then return .there none
      let some same := t'.sameMemory t.moves t.mask | unsupported "set.changed-during-lookup:is-the-new-block-at-the-old-address"
      let still ← match (if same then t'.slot e.1 else .empty) with
        | .live i' => match es'[i']? with
          | some (_, y') => do pure (if ← isSame y' y then some i' else none)
          | none => pure none
        | _ => pure none
      match still with
      | none => rule "set.search.anew"; setSearchFrom S (.ref a) (hP q) true 99999 none
      | some i' => if equal then return .there (some i') else setSearchFrom S (.ref a) (hP q) true 99999 (some nx)) Q E s := by
    have eg : (L.map (·.2)).toArray[i]? = some (hP q, .ref b) := by rw [List.getElem?_toArray, List.getElem?_map, hi', ← eb]; rfl
    rw [eg]
    dsimp only
    refine wpAny_bind (wpAny_holding (wpAny_eqBool_tuple (knd := L2.mixKind prog w) hu xb.key x.key ?_))
    rw [decide_eq_true rfl]
    refine wpAny_bind (wpAny_setState_of ho hd T.fits ?_)
    dsimp only
    simp only [Bool.and_self, if_true]
    exact wpAny_pure h
  by_cases hl : t.led = true
  · rw [if_neg (by rw [hl]; decide)]
    exact tail
  · rw [if_pos (by simpa using hl)]
    refine wpAny_bind (seen x (fun v hv => ?_) ?_)
    · obtain ⟨y, hy, rfl⟩ := List.mem_map.mp hv
      have hy := (Array.mem_filter.mp (Array.mem_toList_iff.mp hy)).1
      have hy' : y ∈ L.map (·.2) := by simpa using hy
      obtain ⟨e', he', rfl⟩ := List.mem_map.mp hy'
      obtain ⟨q', _, b', eb', xb'⟩ := hE e' he'
      exact ⟨q', b', by rw [eb'], xb'⟩
    · simp only [Bool.false_eq_true, if_false]
      exact tail
theorem search_miss {led : Bool} {S a : Addr} {L : List Ent} {h0 : Int} {o : Obj} {t : SetTable} {ep : Nat} {Q : SetFound → Shared → Prop} (ho : s.heap.get? S = some o) (hd : o.data = .set (L.map (·.2)).toArray ep t) (T : Tb led t L) (hn : h0 ∉ L.map (·.2.1)) (h : ∀ j, j ∉ L.map (·.1) → j ≤ t.mask → Rch t.mask (L.map (·.1)) h0 j → Q (.free j false) s) :
    wpAny (model prog w) A (setSearch S (.ref a) h0 true) Q E s := by
  obtain ⟨j, hp, j1, j2, r⟩ := T.miss (hashAt := fun i => (((L.map (·.2)).toArray[i]?).map (·.1)).getD 0) hashAt_of hn
  unfold setSearch
  show wpAny _ _ (setSearchFrom S (.ref a) h0 true (99999 + 1) none) _ _ _
  unfold setSearchFrom
  refine wpAny_bind (wpAny_setState_of ho hd T.fits ?_)
  dsimp only
  rw [if_neg (by show ¬ (t.mask % 2 == 0) = true; rw [gave T.mask]; exact Bool.false_ne_true)]
  refine wpAny_bind (wpAny_pure ?_)
  have hp' : t.probe (fun i => (((L.map (·.2)).toArray[i]?).map (·.1)).getD 0) h0 ((none : Option SetTable.Probe).getD (t.probeStart h0)) = some (.empty j none) := hp
  show wpAny _ _ (match t.probe (fun i => (((L.map (·.2)).toArray[i]?).map (·.1)).getD 0) h0 ((none : Option SetTable.Probe).getD (t.probeStart h0)) with | some met => _ | _ => _) _ _ _
  rw [hp']
  exact wpAny_pure (h j j1 j2 r)
end
end Ts
namespace Ts
open PySem PySem.Spec PyProof.Rows
theorem relay_pure {t : SetTable} {L : List Ent} (hm : t.mask = 7 ∧ L.length = 5 ∨ t.mask = 31 ∧ L.length = 19) (nd : (L.map (·.2.1)).Nodup) (hp : t.plain = true) : ∃ (L' : List Ent) (t' : SetTable) (order : Array Nat), t.relaid ((L.map (·.2)).toArray.map (·.1)) (SetTable.grown L.length) = some (t', order) ∧ order.filterMap ((L.map (·.2)).toArray[·]?) = (L'.map (·.2)).toArray ∧ (L'.map (·.2)).Perm (L.map (·.2)) ∧ Tb t.led t' L' ∧ SetTable.sizeAbove (SetTable.grown L.length) ≤ 1000 := by
  have key : ∀ m, SetTable.sizeAbove (SetTable.grown L.length) - 1 = m → Good m → L.length * 5 < m * 3 → ∃ (L' : List Ent) (t' : SetTable) (order : Array Nat), t.relaid ((L.map (·.2)).toArray.map (·.1)) (SetTable.grown L.length) = some (t', order) ∧ order.filterMap ((L.map (·.2)).toArray[·]?) = (L'.map (·.2)).toArray ∧ (L'.map (·.2)).Perm (L.map (·.2)) ∧ Tb t.led t' L' := by
    intro m em gm hr
    obtain ⟨L', order, h1, h2, h3, h4, h5, h6⟩ := laid_ok gm (L := L) (by omega) nd t.finger (t.movedTo m) t.led t.plain
    have hl : L'.length = L.length := by
      have := h3.length_eq
      rw [List.length_map, List.length_map] at this
      exact this
    refine ⟨L', { mask := m, place := (L'.map (·.1)).toArray, dummies := #[], finger := t.finger, led := t.led, moves := t.movedTo m, plain := t.plain }, order, ?_, h2, h3, ⟨rfl, rfl, hp, rfl, gm, by rw [hl]; exact hr, h4, h5, ?_, h6⟩⟩
    · unfold SetTable.relaid
      rw [em]
      exact h1
    · have := h3.map (·.1)
      rw [List.map_map, List.map_map] at this
      exact this.nodup_iff.mpr nd
  rcases hm with ⟨h1, h2⟩ | ⟨h1, h2⟩
  · have e : SetTable.sizeAbove (SetTable.grown L.length) = 32 := by rw [h2]; decide
    obtain ⟨L', t', order, a⟩ := key 31 (by rw [e]) (.inr (.inl rfl)) (by omega)
    exact ⟨L', t', order, a.1, a.2.1, a.2.2.1, a.2.2.2, by omega⟩
  · have e : SetTable.sizeAbove (SetTable.grown L.length) = 128 := by rw [h2]; decide
    obtain ⟨L', t', order, a⟩ := key 127 (by rw [e]) (.inr (.inr rfl)) (by omega)
    exact ⟨L', t', order, a.1, a.2.1, a.2.2.1, a.2.2.2, by omega⟩
section
variable {prog : Program} {w : World} {A : Around} {E : Value → Shared → Prop} {s : Shared}
theorem add_old {led : Bool} {S a : Addr} {L : List Ent} {p : Nat × Nat} {Q : Bool → Shared → Prop} (hu : A.units < cLine) (hS : SetT led s.heap S L) (hE : ∀ e ∈ L, ∃ q, Ek s.heap e.2 q) (x : IsP s.heap p a) (sp : p.1 ≤ 6 ∧ p.2 ≤ 6) (hh : hP p ∈ L.map (·.2.1)) (h : Q false s) :
    wpAny (model prog w) A (setAddHashed S (.ref a) (hP p)) Q E s := by
  obtain ⟨o, t, ep, ho, hex, hd, T⟩ := hS
  obtain ⟨e, he, eh⟩ := List.mem_map.mp hh
  unfold setAddHashed
  refine wpAny_holding ?_
  show wpAny _ _ (setAddHashedIn S (.ref a) (hP p) (99999 + 1)) _ _ _
  unfold setAddHashedIn
  refine wpAny_bind (wpAny_setState_of ho hd T.fits ?_)
  dsimp only
  rw [if_neg (show ¬ byScan (.ref a) (L.map (·.2)).toArray = true from Bool.false_ne_true)]
  refine wpAny_bind (search_hit hu ho hd T hE x sp he eh ?_)
  exact wpAny_pure h
theorem add_new {led : Bool} {S a : Addr} {L : List Ent} {p : Nat × Nat} {Q : Bool → Shared → Prop} (hS : SetT led s.heap S L) (hl : L.length < 70) (x : IsP s.heap p a) (hh : hP p ∉ L.map (·.2.1))
    (h : ∀ h' L', Heap.SameBut S s.heap h' → SetT led h' S L' → (L'.map (·.2)).Perm ((hP p, .ref a) :: L.map (·.2)) → Q true { s with heap := h' }) :
    wpAny (model prog w) A (setAddHashed S (.ref a) (hP p)) Q E s := by
  obtain ⟨o, t, ep, ho, hex, hd, T⟩ := hS
  have big : sizeLine = 16777216 := sizeLine_eq
  unfold setAddHashed
  refine wpAny_holding ?_
  show wpAny _ _ (setAddHashedIn S (.ref a) (hP p) (99999 + 1)) _ _ _
  unfold setAddHashedIn
  refine wpAny_bind (wpAny_setState_of ho hd T.fits ?_)
  dsimp only
  rw [if_neg (show ¬ byScan (.ref a) (L.map (·.2)).toArray = true from Bool.false_ne_true)]
  refine wpAny_bind (search_miss ho hd T hh fun j j1 j2 r => ?_)
  dsimp only
  refine wpAny_bind (wpAny_setState_of ho hd T.fits ?_)
  dsimp only
  obtain ⟨k, k1, k2, k3, k4, k5⟩ := T.put (x := .ref a) hh j1 j2 r
  generalize hN : insL L k (j, hP p, Value.ref a) = N at k1 k2 k3 k4 k5
  have pm : (N.map (·.2)).Perm ((hP p, .ref a) :: L.map (·.2)) := by rw [← hN]; exact (ins_perm L k _).map (·.2)
  have nl : N.length = L.length + 1 := by
    have := pm.length_eq
    rw [List.length_map, List.length_cons, List.length_map] at this
    exact this
  rw [k1]
  dsimp only
  rw [if_pos (show ({ t with place := (N.map (·.1)).toArray } : SetTable).plain = true from T.plain)]
  refine wpAny_bind (byVal x ?_)
  rw [if_pos rfl]
  have tp : ({ t with place := (N.map (·.1)).toArray } : SetTable).plain = true := T.plain
  have tl : ({ t with place := (N.map (·.1)).toArray } : SetTable).led = led := T.led
  have tm : ({ t with place := (N.map (·.1)).toArray } : SetTable).mask = t.mask := rfl
  have tpl : ({ t with place := (N.map (·.1)).toArray } : SetTable).place = (N.map (·.1)).toArray := rfl
  have tdu : ({ t with place := (N.map (·.1)).toArray } : SetTable).dummies = #[] := T.dum
  generalize hT1 : ({ t with place := (N.map (·.1)).toArray } : SetTable) = t1 at k3 tp tl tm tpl tdu
  rw [k2]
  have hsz : (N.map (·.2)).toArray.size = N.length := by rw [List.size_toArray, List.length_map]
  refine wpAny_bind (wpAny_storeSet_of ho hd ?_ (by rw [hsz]; omega))
  have hg : (s.heap.update S (Obj.putSet (N.map (·.2)).toArray t1)).get? S = some { o with data := .set (N.map (·.2)).toArray (ep + 1) t1 } := by
    have := Heap.get?_update_self (Obj.putSet (N.map (·.2)).toArray t1) ho (by rw [putSet_of _ _ hd]; rfl)
    rw [putSet_of _ _ hd] at this
    exact this
  have fill : t1.fill = N.length := by unfold SetTable.fill; rw [tpl, tdu, List.size_toArray, List.length_map]; rfl
  have full : t1.tooFull = decide (t.mask * 3 ≤ N.length * 5) := by
    unfold SetTable.tooFull
    rw [fill, tm]
  by_cases hf : t.mask * 3 ≤ N.length * 5
  · rw [if_pos (by rw [full, decide_eq_true hf]; rfl)]
    have r0 := T.room
    have hm : t1.mask = 7 ∧ N.length = 5 ∨ t1.mask = 31 ∧ N.length = 19 := by
      rw [tm]
      rcases T.mask with z | z | z <;> omega
    have hfit : t1.fits (N.map (·.2)).toArray.size = true := by
      unfold SetTable.fits
      rw [fill, tpl, hsz, List.size_toArray, List.length_map, tm]
      rcases T.mask with z | z | z <;> (simp; omega)
    obtain ⟨L', t', order, a1, a2, a3, a4, a5⟩ := relay_pure hm k5 tp
    have l' : L'.length = N.length := by
      have := a3.length_eq
      rw [List.length_map, List.length_map] at this
      exact this
    refine wpAny_bind ?_
    unfold setRelay
    refine wpAny_bind (wpAny_setState_of (s := { s with heap := _ }) hg rfl hfit ?_)
    dsimp only
    have eg : (L.map (·.2)).toArray.size + 1 = N.length := by rw [List.size_toArray, List.length_map, nl]
    rw [eg, if_neg (by omega), a1]
    have hre : ∀ {Q' : (Array (Int × Value) × SetTable) → Shared → Prop} {s1 : Shared}, Q' ((L'.map (·.2)).toArray, t') s1 → wpAny (model prog w) A (do
        let some (t, order) := (some (t', order) : Option (SetTable × Array Nat)) | unsupported "internal:set-table-without-room"
        let es' := order.filterMap ((N.map (·.2)).toArray[·]?)
        if es'.size != (N.map (·.2)).toArray.size then unsupported "internal:set-table-lost-an-element"
        pure (es', t)) Q' E s1 := fun {Q' s1} hq => by
      dsimp only
      rw [a2, if_neg (by rw [List.size_toArray, List.size_toArray, List.length_map, List.length_map, l']; simp)]
      exact wpAny_pure hq
    refine wpAny_bind (hre ?_)
    dsimp only
    refine wpAny_storeSet_of (s := { s with heap := _ }) hg rfl ?_ (by rw [List.size_toArray, List.length_map]; omega)
    refine wpAny_pure ?_
    have hg2 := Heap.get?_update_self (Obj.putSet (L'.map (·.2)).toArray t') hg (by rw [putSet_of _ _ rfl]; rfl)
    rw [putSet_of _ _ rfl] at hg2
    rw [tl] at a4
    exact h _ L' ((Heap.SameBut.update ..).trans (Heap.SameBut.update ..)) ⟨_, _, _, hg2, hex, rfl, a4⟩ (a3.trans pm)
  · rw [if_neg (by rw [full, decide_eq_false hf]; decide)]
    exact wpAny_pure (h _ N (Heap.SameBut.update ..) ⟨_, _, _, hg, hex, rfl, k3 (by omega)⟩ pm)
end
end Ts
namespace Ts
open PySem PySem.Spec PyProof.Rows
theorem nd_len {α : Type} [DecidableEq α] : ∀ (l m : List α), l.Nodup → (∀ x ∈ l, x ∈ m) → l.length ≤ m.length
  | [], m, _, _ => Nat.zero_le _
  | a :: l, m, nd, h => by
    rw [List.nodup_cons] at nd
    have ha := h a (List.mem_cons_self ..)
    have := nd_len l (m.erase a) nd.2 fun x hx => (List.mem_erase_of_ne (fun z : x = a => nd.1 (z ▸ hx))).mpr (h x (List.mem_cons_of_mem _ hx))
    rw [List.length_erase_of_mem ha] at this
    have := List.length_pos_of_mem ha
    rw [List.length_cons]
    omega
structure Acc (as : List Addr) (ps : List (Nat × Nat)) (i : Nat) (L : List Ent) : Prop where
  src : ∀ e ∈ L, ∃ (j : Nat) (a : Addr) (p : Nat × Nat), j < i ∧ as[j]? = some a ∧ ps[j]? = some p ∧ e.2 = (hP p, .ref a)
  all : ∀ (j : Nat) (p : Nat × Nat), j < i → ps[j]? = some p → hP p ∈ L.map (·.2.1)
structure Prs (h : Heap) (as : List Addr) (ps : List (Nat × Nat)) : Prop where
  len : ps.length = as.length
  small : ∀ p ∈ ps, p.1 ≤ 6 ∧ p.2 ≤ 6
  isp : ∀ (j : Nat) (a : Addr) (p : Nat × Nat), as[j]? = some a → ps[j]? = some p → IsP h p a
theorem Prs.at {h h' : Heap} {as : List Addr} {ps : List (Nat × Nat)} (x : Prs h as ps) (e : ∀ a ∈ as, ∀ o, h.get? a = some o → h'.get? a = some o) : Prs h' as ps :=
  ⟨x.len, x.small, fun j a p h1 h2 => (x.isp j a p h1 h2).at (e a (List.mem_of_getElem? h1))⟩
theorem Acc.len {h : Heap} {as : List Addr} {ps : List (Nat × Nat)} {i : Nat} {L : List Ent} (c : Acc as ps i L) (x : Prs h as ps) (nd : (L.map (·.2.1)).Nodup) : L.length ≤ 49 := by
  have := nd_len (L.map (·.2.1)) (allP.map hP) nd fun z hz => by
    obtain ⟨e, he, rfl⟩ := List.mem_map.mp hz
    obtain ⟨j, a, p, _, _, hp, ee⟩ := c.src e he
    have sm := x.small p (List.mem_of_getElem? hp)
    rw [ee]
    exact List.mem_map.mpr ⟨p, List.mem_flatMap.mpr ⟨p.1, List.mem_range.mpr (by omega), List.mem_map.mpr ⟨p.2, List.mem_range.mpr (by omega), rfl⟩⟩, rfl⟩
  rw [List.length_map, List.length_map] at this
  exact this
theorem Acc.ek {h : Heap} {as : List Addr} {ps : List (Nat × Nat)} {i : Nat} {L : List Ent} (c : Acc as ps i L) (x : Prs h as ps) : ∀ e ∈ L, ∃ q, Ek h e.2 q := fun e he => by
  obtain ⟨j, a, p, _, ha, hp, ee⟩ := c.src e he
  exact ⟨p, x.small p (List.mem_of_getElem? hp), a, ee, x.isp j a p ha hp⟩
section
variable {prog : Program} {w : World} {A : Around} {E : Value → Shared → Prop} {s : Shared} {R : Result → Shared → Prop} {I : Addr} {fp wr : List Addr} {n : Nat} {P : Nat → Value → Prop} {St : Nat → Heap → Prop}
theorem loop_pairs {led : Bool} (W : Walks prog w A.in1 I fp wr n P St) (S : Addr) (hSf : S ∉ fp) {as : List Addr} {ps : List (Nat × Nat)} (hu : A.units + 1 < cLine) (hn : n = as.length)
    (hval : ∀ i v, P i v → ∃ a, as[i]? = some a ∧ v = .ref a) (hoff : ∀ a ∈ as, a ∉ wr ∧ a ≠ S) :
    ∀ (k i : Nat) (s : Shared) (L : List Ent), n - i = k → i ≤ n → St i s.heap → Prs s.heap as ps → SetT led s.heap S L → Acc as ps i L →
      (∀ h' tk L', (∀ b o, b ∉ wr → b ≠ S → s.heap.get? b = some o → h'.get? b = some o) → SetT led h' S L' → Acc as ps n L' → R (.ok (.ret .none)) { s with heap := h', toks := tk }) →
      codeAny (model prog w) A (.builtin "set.update.loop" ⟨[.ref S, .ref I], []⟩) R s := by
  have hSw : S ∉ wr := fun h => hSf (W.sub _ h)
  intro k
  induction k with
  | zero =>
    intro i s L hk hi hst hP0 hS hA hR
    have hin : i = n := by omega
    refine codeAny_builtin F.entry_set_update_loop ?_
    rw [Around.under_plainId F.plain_set_update_loop _]
    show wpAny _ A.in1 (pyNext (.ref I) >>= _) _ _ s
    refine wpAny_bind (W.done s _ _ (hin ▸ hst) fun h' tk hm => ?_)
    show wpAny _ A.in1 (ret Value.none) _ _ _
    exact wpAny_pure (hR h' tk L (fun b o hb _ e => hm b o hb e) (hS.at fun o e => hm S o hSw e) (hin ▸ hA))
  | succ k ih =>
    intro i s L hk hi hst hP0 hS hA hR
    have hlt : i < n := by omega
    refine codeAny_builtin F.entry_set_update_loop ?_
    rw [Around.under_plainId F.plain_set_update_loop _]
    show wpAny _ A.in1 (pyNext (.ref I) >>= _) _ _ s
    refine wpAny_bind (W.item i s _ _ hlt hst fun v h1 tk1 hPi hst' hm => ?_)
    obtain ⟨a, ha, rfl⟩ := hval i v hPi
    have hS' : SetT led h1 S L := hS.at fun o e => hm S o hSw e
    have hP1 : Prs h1 as ps := hP0.at fun b hb o e => hm b o (hoff b hb).1 e
    obtain ⟨p, hp⟩ : ∃ p, ps[i]? = some p := ⟨_, List.getElem?_eq_getElem (by rw [hP0.len]; omega)⟩
    have xp : IsP h1 p a := hP1.isp i a p ha hp
    have sp := hP1.small p (List.mem_of_getElem? hp)
    have nd : (L.map (·.2.1)).Nodup := by obtain ⟨_, _, _, _, _, _, T⟩ := hS'; exact T.nd
    have ll := hA.len hP1 nd
    have ek := hA.ek hP1
    show wpAny _ A.in1 (holding [Value.ref a] (setAdd S (.ref a)) >>= _) _ _ _
    refine wpAny_bind (wpAny_holding ?_)
    unfold setAdd
    refine wpAny_holding ?_
    refine wpAny_bind (wpAny_pyHash_tuple (knd := L2.mixKind prog w) (ks := kP p) (by show A.units + 1 < cLine; exact hu) xp.key ?_)
    show wpAny _ _ (setAddHashed S (.ref a) (hP p)) _ _ _
    by_cases hh : hP p ∈ L.map (·.2.1)
    · refine add_old (s := { s with heap := h1, toks := _ }) (by show A.units + 1 < cLine; exact hu) hS' ek xp sp hh ?_
      refine wpAny_pure ⟨plainId_quiet F.plain_set_update_loop _, ih (i + 1) _ L (by omega) hlt hst' hP1 hS' ⟨fun e he => ?_, fun j q hj hq => ?_⟩ fun h3 tk3 L3 hk3 hS3 hA3 => ?_⟩
      · obtain ⟨j, a', q, hj, r⟩ := hA.src e he
        exact ⟨j, a', q, by omega, r⟩
      · rcases Nat.lt_or_ge j i with z | z
        · exact hA.all j q z hq
        · have : j = i := by omega
          subst this
          rw [hp] at hq
          cases hq
          exact hh
      · exact hR h3 tk3 L3 (fun b o hb hbS e => hk3 b o hb hbS (hm b o hb e)) hS3 hA3
    · refine add_new (s := { s with heap := h1, toks := _ }) hS' (by omega) xp hh fun h2 L2 hsb hS2 pm => ?_
      refine wpAny_pure ⟨plainId_quiet F.plain_set_update_loop _, ih (i + 1) _ L2 (by omega) hlt (W.frame _ h1 h2 hst' fun b hb o e => ?_) (hP1.at fun b hb o e => ?_) hS2 ⟨fun e he => ?_, fun j q hj hq => ?_⟩ fun h3 tk3 L3 hk3 hS3 hA3 => ?_⟩
      · rw [hsb.2 b (fun h : b = S => hSf (by rw [← h]; exact hb))]; exact e
      · show h2.get? b = some o
        rw [hsb.2 b (hoff b hb).2]; exact e
      · have he2 : e.2 ∈ (hP p, Value.ref a) :: L.map (·.2) := pm.mem_iff.mp (List.mem_map.mpr ⟨e, he, rfl⟩)
        rcases List.mem_cons.mp he2 with z | z
        · exact ⟨i, a, p, Nat.lt_succ_self i, ha, hp, z⟩
        · obtain ⟨e', he', ee⟩ := List.mem_map.mp z
          obtain ⟨j, a', q, hj, h4, h5, h6⟩ := hA.src e' he'
          exact ⟨j, a', q, by omega, h4, h5, by rw [← ee, h6]⟩
      · have mem : ∀ z, z ∈ L2.map (·.2.1) ↔ z = hP p ∨ z ∈ L.map (·.2.1) := fun z => by
          have := (pm.map (·.1)).mem_iff (a := z)
          rw [List.map_map, List.map_cons, List.mem_cons, List.map_map] at this
          exact this
        rw [mem]
        rcases Nat.lt_or_ge j i with z | z
        · exact .inr (hA.all j q z hq)
        · have : j = i := by omega
          subst this
          rw [hp] at hq
          cases hq
          exact .inl rfl
      · exact hR h3 tk3 L3 (fun b o hb hbS e => hk3 b o hb hbS (by
          show h2.get? b = some o
          rw [hsb.2 b hbS]
          exact hm b o hb e)) hS3 hA3
end
section
variable {prog : Program} {w : World} {A : Around} {E : Value → Shared → Prop} {s : Shared}
theorem fresh_pairs {b : Bool} {h : Heap} {a : Addr} (e : h.get? a = some (L2.setO b)) : SetT b h a [] :=
  ⟨_, _, _, e, ⟨rfl, rfl, rfl⟩, rfl, ⟨rfl, rfl, rfl, rfl, (.inl rfl), (show 0 * 5 < 7 * 3 by decide), .nil, (fun e h => nomatch h), .nil, fun e h => nomatch h⟩⟩
theorem init_pairs {led : Bool} {l S : Addr} {as : List Addr} {ps : List (Nat × Nat)} {Q : Value → Shared → Prop} (hh : A.handled = none) (hu : A.units + 4 < cLine) (hl : s.heap.IsList l (as.map Value.ref).toArray) (hP0 : Prs s.heap as ps) (hS : s.heap.get? S = some (L2.setO led)) (hlS : l ≠ S) (haS : ∀ a ∈ as, a ≠ S)
    (h : ∀ h' tk L, (∀ b o, b ≠ S → s.heap.get? b = some o → h'.get? b = some o) → SetT led h' S L → Acc as ps as.length L → Q .none { s with heap := h', toks := tk }) :
    wpAny (model prog w) A.in1 (Builtin.«set.__init__» ⟨[.ref S, .ref l], []⟩) (fun fin s' => ∃ r, fin = .done (.ret r) ∧ Q r s') E s := by
  obtain ⟨ol, hol, hcl, nl, hdl⟩ := id hl
  obtain ⟨ocls, odict, odata, oslots⟩ := ol
  simp only at hcl hdl
  subst hcl; subst hdl
  have hsls := F.sub_list_set
  have hslf := F.sub_list_frozenset
  have hne : (Value.type "list" == Value.type "dict") = false := by decide
  unfold L2.setO at hS
  unfold Builtin.«set.__init__» noKeywords Builtin.Frozenset.updateFrom
  generalize hPI : pyIter = PI
  obtain ⟨h0, g0, d0, t0, o0⟩ := s
  wp_walk
  subst hPI
  refine wpAny_pyIter_list hl ?_
  refine wpAny_bind (wpAny_runValue ?_)
  have hh3 : A.in1.in1.handled = none := by simp [hh]
  have hneI : l ≠ h0.objs.size := Nat.ne_of_lt (Heap.lt_size hol)
  have hSI : S ≠ h0.objs.size := Nat.ne_of_lt (Heap.lt_size hS)
  have hsz : (as.map Value.ref).toArray.size = as.length := by rw [List.size_toArray, List.length_map]
  have aI : ∀ a ∈ as, a ≠ h0.objs.size := fun a ha => by
    obtain ⟨j, hj, ej⟩ := List.getElem_of_mem ha
    obtain ⟨o, _, _, _, ho, _⟩ := hP0.isp j a _ (by rw [List.getElem?_eq_getElem hj, ej]) (List.getElem?_eq_getElem (by rw [hP0.len]; exact hj))
    exact Nat.ne_of_lt (Heap.lt_size ho)
  refine loop_pairs (led := led) (ps := ps) (Walks.list hh3 h0.objs.size l hneI (as.map Value.ref).toArray) S (by simp only [List.mem_cons, List.not_mem_nil, or_false, not_or]; exact ⟨hSI, hlS.symm⟩) (by show A.units + 1 + 1 < cLine; omega) hsz (fun i v hv => ?_) (fun a ha => ⟨by simp only [List.mem_cons, List.not_mem_nil, or_false]; exact aI a ha, haS a ha⟩) _ 0 _ [] rfl (Nat.zero_le _) ?_ (hP0.at fun a ha o e => Heap.get?_push_of_some _ e) ?_ ⟨(fun e h => nomatch h), fun j p h => nomatch h⟩ fun h' tk L hk hS' hA' => ?_
  · rw [List.getElem?_toArray, List.getElem?_map] at hv
    cases e : as[i]? with
    | none => rw [e] at hv; cases hv
    | some p => rw [e] at hv; exact ⟨p, rfl, (Option.some.inj hv).symm⟩
  · exact ⟨⟨_, Heap.get?_push_size _ rfl, rfl, rfl⟩, hl.push _⟩
  · exact fresh_pairs (b := led) (Heap.get?_push_of_some _ hS)
  · show wpAny _ _ _ _ _ _
    refine wpAny_pure ?_
    show wpAny _ _ (ret Value.none) _ _ _
    rw [hsz] at hA'
    refine wpAny_pure ⟨_, rfl, h h' tk L (fun b o hb e => hk b o ?_ hb (Heap.get?_push_of_some _ e)) hS' hA'⟩
    simp only [List.mem_cons, List.not_mem_nil, or_false]
    exact Nat.ne_of_lt (Heap.lt_size e)
set_option maxHeartbeats 3200000 in
theorem call_pairs {l : Addr} {as : List Addr} {ps : List (Nat × Nat)} {Q : Value → Shared → Prop} (hh : A.handled = none) (hu : A.units + 8 < cLine) (hl : s.heap.IsList l (as.map Value.ref).toArray) (hP0 : Prs s.heap as ps)
    (h : ∀ (h' : Heap) (tk : Nat) (L : List Ent), SetT (!w.params.followText "set-order") h' s.heap.objs.size L → Acc as ps as.length L → (∀ b o, s.heap.get? b = some o → h'.get? b = some o) → Q (.ref s.heap.objs.size) { s with heap := h', toks := tk }) :
    wpAny (model prog w) A (call (.type "set") [.ref l]) Q E s := by
  obtain ⟨c, tl, hmro⟩ := F.called_set.mro
  have hmade := F.called_set.made
  have hsub := F.called_set.sub
  refine wpAny_call (codeAny_of_tree ?_)
  show wpAny _ _ (callAny (.type "set") _) _ _ _
  refine wpAny_pure ⟨Code.quiet_builtin _ (by decide +kernel), codeAny_builtin F.entry_type_call ?_⟩
  rw [Around.under_plain (weight_type_call_type "set" [.ref l] []) rfl]
  have h1 := F.called_set.notType
  have h2 := F.called_set.canCreate
  have hct := F.typeCall_set_1 (.ref l)
  repeat (any_goals (first | assumption | wp_step))
  refine codeAny_mono (L2.new_small (.ref l) (E := E) (Q₁ := fun obj s₁ => obj = .ref s.heap.objs.size ∧ s₁ = { s with heap := s.heap.push (L2.setO (!w.params.followText "set-order")) }) ⟨rfl, rfl⟩) fun r s₁ hr => ?_
  cases r with
  | error e => exact hr
  | ok fl =>
    cases fl with
    | ret obj =>
      obtain ⟨rfl, rfl⟩ := hr
      have hS : (s.heap.push (L2.setO (!w.params.followText "set-order"))).get? s.heap.objs.size = some (L2.setO (!w.params.followText "set-order")) := Heap.get?_push_size _ rfl
      have hT : Shared.TypeIs { s with heap := s.heap.push (L2.setO (!w.params.followText "set-order")) } (.ref s.heap.objs.size) "set" := ⟨_, hS, rfl⟩
      have hli := F.called_set.init.lookup
      have hbi := F.called_set.init.bind (.ref s.heap.objs.size)
      repeat (any_goals (first | assumption | wp_step))
      refine codeAny_mono (codeAny_call_builtin (R := wants (fun r s₂ => r = .none ∧ ∃ h' tk L, s₂ = { s with heap := h', toks := tk } ∧ SetT (!w.params.followText "set-order") h' s.heap.objs.size L ∧ Acc as ps as.length L ∧ (∀ b o, s.heap.get? b = some o → h'.get? b = some o)) E)
        F.called_set.init.plain F.entry_set_init (check_set_init_1 hT ?_)) fun r₂ s₂ hr₂ => ?_
      · refine wpAny_mono (init_pairs (A := A.in1) (ps := ps) (by simp [hh]) (by show A.units + 1 + 4 < cLine; omega) (hl.push _) (hP0.at fun a ha o e => Heap.get?_push_of_some _ e) hS ?_ (fun a ha => ?_) (Q := fun r s₂ => r = .none ∧ ∃ h' tk L, s₂ = { s with heap := h', toks := tk } ∧ SetT (!w.params.followText "set-order") h' s.heap.objs.size L ∧ Acc as ps as.length L ∧ (∀ b o, s.heap.get? b = some o → h'.get? b = some o)) fun h' tk L hk hS' hA' => ?_) (fun fin s' x => ?_) fun e s' x => x
        · obtain ⟨ol, hol, _⟩ := hl
          exact Nat.ne_of_lt (Heap.lt_size hol)
        · obtain ⟨j, hj, ej⟩ := List.getElem_of_mem ha
          obtain ⟨o, _, _, _, ho, _⟩ := hP0.isp j a _ (by rw [List.getElem?_eq_getElem hj, ej]) (List.getElem?_eq_getElem (by rw [hP0.len]; exact hj))
          exact Nat.ne_of_lt (Heap.lt_size ho)
        · exact ⟨rfl, h', tk, L, rfl, hS', hA', fun b o e => hk b o (Nat.ne_of_lt (Heap.lt_size e)) (Heap.get?_push_of_some _ e)⟩
        · obtain ⟨r, rfl, x⟩ := x
          exact x
      · cases r₂ with
        | error e => exact hr₂
        | ok fl₂ =>
          cases fl₂ with
          | ret r =>
            obtain ⟨rfl, h', tk, L, rfl, hS', hA', hk'⟩ := hr₂
            repeat (any_goals (first | assumption | wp_step))
            exact h _ _ L hS' hA' hk'
          | _ => exact hr₂.elim
    | _ => exact hr.elim
end
end Ts
namespace Ts
open PySem PySem.Spec PyProof.Rows
def setOut (w : World) (a : Addr) (ep : Nat) (L : List Ent) : List (Int × Value) := if w.params.followText "set-order" then (pickOrder (w.params.setOrder a ep) (L.map (·.2)).toArray).toList else L.map (·.2)
theorem setOut_perm (w : World) (a : Addr) (ep : Nat) (L : List Ent) : (setOut w a ep L).Perm (L.map (·.2)) := by
  unfold setOut
  split
  · exact (L2.pick_perm _ _).trans (by simp)
  · exact .rfl
def slotAt (b : Bool) (L : List Ent) : Nat → Nat
  | 0 => 0
  | i + 1 => if b then 0 else (L.map (·.1)).getD i 0 + 1
def IsSetIt (h : Heap) (it a : Addr) (slot i n ep : Nat) : Prop := ∃ o, h.get? it = some o ∧ o.cls = .type "set_iterator" ∧ o.data = .fields #[.int slot 0, .int i 0, .ref a, .int n 0, .int ep 0]
def SetE (led : Bool) (h : Heap) (a : Addr) (L : List Ent) (ep : Nat) : Prop :=
  ∃ o t, h.get? a = some o ∧ o.ExactSet ∧ o.data = .set (L.map (·.2)).toArray ep t ∧ Tb led t L ∧ t.fits (L.map (·.2)).toArray.size = true
theorem SetE.at {led : Bool} {h h' : Heap} {a : Addr} {L : List Ent} {ep : Nat} (x : SetE led h a L ep) (e : ∀ o, h.get? a = some o → h'.get? a = some o) : SetE led h' a L ep :=
  let ⟨o, t, ho, r⟩ := x; ⟨o, t, e o ho, r⟩
theorem IsSetIt.at {h h' : Heap} {it a : Addr} {slot i n ep : Nat} (x : IsSetIt h it a slot i n ep) (e : ∀ o, h.get? it = some o → h'.get? it = some o) : IsSetIt h' it a slot i n ep :=
  let ⟨o, ho, r⟩ := x; ⟨o, e o ho, r⟩
theorem IsSetIt.typeIs {s : Shared} {it a : Addr} {slot i n ep : Nat} (x : IsSetIt s.heap it a slot i n ep) : s.TypeIs (.ref it) "set_iterator" :=
  let ⟨o, ho, hc, _⟩ := x; ⟨o, ho, hc⟩
theorem SetE.typeIs {led : Bool} {s : Shared} {a : Addr} {L : List Ent} {ep : Nat} (x : SetE led s.heap a L ep) : s.TypeIs (.ref a) "set" :=
  let ⟨o, t, ho, hc, _⟩ := x; ⟨o, ho, hc.1⟩
theorem below_slot {L : List Ent} (up : (L.map (·.1)).Pairwise (· < ·)) {i : Nat} (hi : i ≤ L.length) : SetTable.below (L.map (·.1)).toArray (slotAt false L i) = i := by
  have key : ∀ p q (hp : p < (L.map (·.1)).length) (hq : q < (L.map (·.1)).length), p < q → (L.map (·.1))[p] < (L.map (·.1))[q] := fun p q hp hq h => List.pairwise_iff_getElem.mp up p q hp hq h
  have hl : (L.map (·.1)).length = L.length := List.length_map ..
  refine L2.below_cut (by rw [List.size_toArray, hl]; exact hi) (fun q h1 h2 => ?_) (fun q h1 h2 => ?_)
  · rw [List.size_toArray] at h2
    rw [L2.getD_list, List.getD_eq_getElem?_getD, List.getElem?_eq_getElem h2]
    cases i with
    | zero => omega
    | succ i =>
      have hi' : i < (L.map (·.1)).length := by omega
      show _ < (L.map (·.1)).getD i 0 + 1
      rw [List.getD_eq_getElem?_getD, List.getElem?_eq_getElem hi']
      show (L.map (·.1))[q] < (L.map (·.1))[i] + 1
      rcases Nat.lt_or_ge q i with h | h
      · have := key q i h2 hi' h; omega
      · have e : q = i := by omega
        subst e
        omega
  · rw [List.size_toArray] at h2
    rw [L2.getD_list, List.getD_eq_getElem?_getD, List.getElem?_eq_getElem h2]
    cases i with
    | zero =>
      show ¬ (L.map (·.1))[q] < 0
      omega
    | succ i =>
      have hi' : i < (L.map (·.1)).length := by omega
      show ¬ _ < (L.map (·.1)).getD i 0 + 1
      rw [List.getD_eq_getElem?_getD, List.getElem?_eq_getElem hi']
      show ¬ (L.map (·.1))[q] < (L.map (·.1))[i] + 1
      have := key i q hi' h2 (by omega)
      omega
section
variable {prog : Program} {w : World} {A : Around} {E : Value → Shared → Prop} {s : Shared}
theorem iter_set {a : Addr} {L : List Ent} {ep : Nat} {Q : Value → Shared → Prop} (hs : SetE (!w.params.followText "set-order") s.heap a L ep)
    (hQ : Q (.ref s.heap.objs.size) { s with heap := s.heap.push { cls := .type "set_iterator", data := .fields #[.int (0 : Nat) 0, .int (0 : Nat) 0, .ref a, .int (L.length : Nat) 0, .int ep 0] } }) :
    wpAny (model prog w) A (pyIter (.ref a)) Q E s := by
  obtain ⟨o, t, ho, hex, hd, T, hf⟩ := id hs
  refine wpAny_pyIter_slot hs.typeIs PySem.F.slot_set_iter (wpAny_call_entry PySem.F.slot_set_iter hs.typeIs L2.entry_set_iter ?_ (PySem.F.args_set_iter_1 _))
  unfold Builtin.«frozenset.__iter__» Builtin.Frozenset.slot0 slotArgs
  simp only [List.isEmpty_nil, Bool.not_true, Bool.false_eq_true, ↓reduceIte, bind_assoc, List.length_nil, bne_self_eq_false]
  unfold Builtin.Frozenset.addrOf Builtin.Frozenset.sizeOf
  refine wpAny_bind (wpAny_pure ?_)
  try dsimp only
  refine wpAny_bind (wpAny_pure ?_)
  refine wpAny_bind (wpAny_bind (wpAny_setEntries_of ho hd hf (wpAny_pure ?_)))
  unfold setDrawn
  refine wpAny_bind (wpAny_bind (wpAny_setState_of ho hd hf ?_))
  dsimp only
  unfold setsByText
  refine wpAny_bind (wpAny_bind (wpAny_askSetting (wpAny_pure ?_)))
  refine wpAny_pure ?_
  refine wpAny_ite_split (fun hab => ?_) (fun _ => ?_)
  · exfalso
    rw [Bool.and_eq_true] at hab
    have h2 : (!t.plain && decide ((L.map (·.2)).toArray.size > 1)) = true := hab.2
    rw [T.plain] at h2
    cases h2
  · refine wpAny_bind (wpAny_pure ?_)
    refine wpAny_bind (wpAny_setEpoch_of ho hd hf ?_)
    unfold newFields
    refine wpAny_bind (wpAny_newObj_type (wpAny_pure ⟨_, rfl, "set_iterator", _, ⟨_, Heap.get?_push_size _ rfl, rfl⟩, L2.slot_sit_next.lookup, ?_⟩))
    simpa [rawInt, List.length_map] using hQ
theorem next_set {a : Addr} {L : List Ent} {ep i : Nat} {Q : Option (Value × Nat) → Shared → Prop} (hs : SetE (!w.params.followText "set-order") s.heap a L ep) (hi : i ≤ L.length)
    (hQ : Q ((setOut w a ep L)[i]?.map fun e => (e.2, slotAt (w.params.followText "set-order") L (i + 1))) s) :
    wpAny (model prog w) A (setNext a (slotAt (w.params.followText "set-order") L i) i ep) Q E s := by
  obtain ⟨o, t, ho, hex, hd, T, hf⟩ := id hs
  unfold setNext
  refine wpAny_bind (wpAny_setState_of ho hd hf ?_)
  dsimp only
  unfold setsByText
  refine wpAny_bind (wpAny_bind (wpAny_askSetting (wpAny_pure ?_)))
  show wpAny _ _ (if w.params.followText "set-order" = true then _ else _) _ _ _
  unfold setOut at hQ
  cases hb : w.params.followText "set-order" with
  | true =>
    rw [hb] at hQ
    rw [if_pos rfl]
    simp only [bne_self_eq_false, Bool.false_eq_true, ↓reduceIte] at hQ ⊢
    refine wpAny_bind ?_
    unfold setWalk
    refine wpAny_bind (wpAny_setState_of ho hd hf ?_)
    dsimp only
    unfold setsByText
    refine wpAny_bind (wpAny_bind (wpAny_askSetting (wpAny_pure ?_)))
    show wpAny _ _ (if w.params.followText "set-order" = true then _ else _) _ _ _
    rw [hb, if_pos rfl]
    refine wpAny_bind (wpAny_askSetting (wpAny_pure ?_))
    refine wpAny_pure ?_
    have e0 : ∀ i, slotAt true L i = 0 := fun i => by cases i <;> rfl
    rw [e0, Array.getElem?_toList] at hQ
    rw [e0]
    exact hQ
  | false =>
    rw [hb] at hQ T
    rw [if_neg Bool.false_ne_true]
    simp only [Bool.false_eq_true, ↓reduceIte] at hQ
    refine wpAny_ite_split (fun hab => ?_) (fun _ => ?_)
    · exfalso
      have h2 : (!t.plain && decide ((L.map (·.2)).toArray.size > 1)) = true := hab
      rw [T.plain] at h2
      cases h2
    · have hl : t.led = true := T.led
      have hml : ∀ {Q' : Unit → Shared → Prop}, Q' () s → wpAny (model prog w) A (if (!t.led && !(L.map (·.2)).toArray.isEmpty) = true then unsupported "set:maker-not-led" else pure ()) Q' E s := fun hq => by
        rw [if_neg (by rw [hl]; exact Bool.false_ne_true)]
        exact wpAny_pure hq
      refine wpAny_bind (hml ?_)
      rw [T.place, below_slot T.up hi]
      rcases Nat.lt_or_ge i L.length with h | h
      · have e1 : (L.map (·.2)).toArray[i]? = some L[i].2 := by
          rw [List.getElem?_toArray, List.getElem?_map, List.getElem?_eq_getElem h]
          rfl
        have e2 : (L.map (·.1)).toArray[i]? = some L[i].1 := by
          rw [List.getElem?_toArray, List.getElem?_map, List.getElem?_eq_getElem h]
          rfl
        have e3 : (L.map (·.2))[i]? = some L[i].2 := by rw [← List.getElem?_toArray]; exact e1
        have e4 : slotAt false L (i + 1) = L[i].1 + 1 := by
          show (L.map (·.1)).getD i 0 + 1 = _
          rw [List.getD_eq_getElem?_getD, List.getElem?_map, List.getElem?_eq_getElem h]
          rfl
        rw [e1, e2]
        rw [e3, e4] at hQ
        exact wpAny_pure hQ
      · have e1 : (L.map (·.2)).toArray[i]? = none := by
          rw [List.getElem?_toArray, List.getElem?_eq_none_iff, List.length_map]
          exact h
        have e3 : (L.map (·.2))[i]? = none := by rw [← List.getElem?_toArray]; exact e1
        rw [e1]
        rw [e3] at hQ
        exact wpAny_pure hQ
theorem pyNext_set_item {it a : Addr} {i ep : Nat} {L : List Ent} {e : Int × Value} {Q : Option Value → Shared → Prop}
    (hit : IsSetIt s.heap it a (slotAt (w.params.followText "set-order") L i) i L.length ep) (hs : SetE (!w.params.followText "set-order") s.heap a L ep) (hx : (setOut w a ep L)[i]? = some e) (hne : a ≠ it)
    (hQ : ∀ h', IsSetIt h' it a (slotAt (w.params.followText "set-order") L (i + 1)) (i + 1) L.length ep → Heap.SameBut it s.heap h' → Q (some e.2) { s with heap := h' }) :
    wpAny (model prog w) A (pyNext (.ref it)) Q E s := by
  obtain ⟨o, ho, hc, hd⟩ := id hit
  obtain ⟨os, t, hos, hexs, hds, T, hf⟩ := id hs
  have hi : i < L.length := by
    have := (List.getElem?_eq_some_iff.mp hx).1
    rw [(setOut_perm w a ep L).length_eq, List.length_map] at this
    exact this
  unfold pyNext
  refine wpAny_bind (wpAny_attempt (wpAny_callSpecial?_slot (name := Str.ofString "__next__") hit.typeIs L2.slot_sit_next
    (wpAny_call_entry L2.slot_sit_next hit.typeIs L2.entry_sit_next ?_ (L2.args_sit_next _))))
  unfold Builtin.«set_iterator.__next__»
  refine wpAny_bind (wpAny_pure ?_)
  refine wpAny_bind (wpAny_fieldsOf ho hd ?_)
  dsimp only
  refine wpAny_bind (wpAny_setEntries_of hos hds hf ?_)
  rw [if_neg (by rw [List.size_toArray, List.length_map]; simp)]
  dsimp only [Int.toNat_natCast]
  refine wpAny_bind (next_set hs (Nat.le_of_lt hi) ?_)
  rw [hx]
  dsimp only [Option.map_some]
  refine wpAny_bind (wpAny_setField ho hd (by simp) ?_)
  have ho1 : (s.heap.update it (Obj.mapFields (·.setIfInBounds 0 (rawInt ((slotAt (w.params.followText "set-order") L (i + 1) : Nat) : Int))))).get? it = some _ := Heap.get?_update_self _ ho (Obj.isFreed_of_fields (Obj.data_mapFields hd _))
  refine wpAny_bind (wpAny_setField (s := { s with heap := _ }) ho1 (Obj.data_mapFields hd _) (by simp) ?_)
  refine wpAny_pure ⟨_, rfl, wpAny_pure (hQ _ ?_ ?_)⟩
  · refine ⟨_, Heap.get?_update_self _ ho1 (Obj.isFreed_of_fields (Obj.data_mapFields (Obj.data_mapFields hd _) _)), ?_, ?_⟩
    · rw [Obj.cls_mapFields, Obj.cls_mapFields, hc]
    · rw [Obj.data_mapFields (Obj.data_mapFields hd _)]
      simp [rawInt]
  · exact (Heap.SameBut.update ..).trans (Heap.SameBut.update ..)
theorem pyNext_set_end {it a : Addr} {i ep : Nat} {L : List Ent} {Q : Option Value → Shared → Prop} (hh : A.handled = none)
    (hit : IsSetIt s.heap it a (slotAt (w.params.followText "set-order") L i) i L.length ep) (hs : SetE (!w.params.followText "set-order") s.heap a L ep) (hi : i = L.length)
    (hQ : ∀ h', Heap.ExtBut it s.heap h' → Q none { s with heap := h' }) : wpAny (model prog w) A (pyNext (.ref it)) Q E s := by
  obtain ⟨o, ho, hc, hd⟩ := id hit
  obtain ⟨os, t, hos, hexs, hds, T, hf⟩ := id hs
  unfold pyNext
  refine wpAny_bind (wpAny_attempt (wpAny_callSpecial?_slot (name := Str.ofString "__next__") hit.typeIs L2.slot_sit_next
    (wpAny_call_entry L2.slot_sit_next hit.typeIs L2.entry_sit_next ?_ (L2.args_sit_next _))))
  unfold Builtin.«set_iterator.__next__»
  refine wpAny_bind (wpAny_pure ?_)
  refine wpAny_bind (wpAny_fieldsOf ho hd ?_)
  dsimp only
  refine wpAny_bind (wpAny_setEntries_of hos hds hf ?_)
  rw [if_neg (by rw [List.size_toArray, List.length_map]; simp)]
  dsimp only [Int.toNat_natCast]
  refine wpAny_bind (next_set hs (Nat.le_of_eq hi) ?_)
  rw [show (setOut w a ep L)[i]? = none by rw [List.getElem?_eq_none_iff, (setOut_perm w a ep L).length_eq, List.length_map, hi]; exact Nat.le_refl _]
  dsimp only [Option.map_none]
  refine wpAny_bind (wpAny_setField ho hd (by simp) ?_)
  show wpAny _ _ (newExc (.type "StopIteration") [] >>= _) _ _ _
  refine wpAny_bind ?_
  simp only [newExc, newTuple]
  refine wpAny_bind (wpAny_newObj_type ?_ (by size_fits))
  refine wpAny_bind (m := firstArgMember _ _) (wpAny_of_eq (a := Value.none) (by first | rfl | (simp only [firstArgMember]; rfl)) ?_)
  refine wpAny_newObj_type ?_ (by size_fits)
  simp only [raiseNew]
  refine wpAny_bind (wpAny_handled ?_)
  rw [show A.in1.handled = none from hh]
  refine wpAny_bind (wpAny_pure (wpAny_throw ?_))
  refine wpAny_bind (wpAny_isInstance (T := "StopIteration") (b := true) ⟨_, Heap.get?_push_size _ rfl, rfl⟩ isSubtype_stop ?_)
  exact wpAny_pure (hQ _ (((Heap.SameBut.update ..).extBut.push _).push _))
theorem walks_set {I a : Addr} {L : List Ent} {ep : Nat} (hh : A.handled = none) (hne : a ≠ I) :
    Walks prog w A I [I, a] [I] L.length (fun i v => ∃ x, (setOut w a ep L)[i]? = some (x, v)) (fun i h => IsSetIt h I a (slotAt (w.params.followText "set-order") L i) i L.length ep ∧ SetE (!w.params.followText "set-order") h a L ep) where
  sub := fun b hb => by simp at hb; simp [hb]
  frame := fun _ _ _ st hk => ⟨st.1.at fun o e => hk I (by simp) o e, st.2.at fun o e => hk a (by simp) o e⟩
  item := fun i s Q E hi st hQ => by
    have hl : i < (setOut w a ep L).length := by rw [(setOut_perm w a ep L).length_eq, List.length_map]; exact hi
    obtain ⟨⟨x, v⟩, hx⟩ : ∃ p, (setOut w a ep L)[i]? = some p := ⟨_, List.getElem?_eq_getElem hl⟩
    refine pyNext_set_item st.1 st.2 hx hne fun h' hit' hs' => ?_
    exact hQ v h' s.toks ⟨x, hx⟩ ⟨hit', st.2.at fun o e => hs'.extBut a o hne e⟩ fun b o hb e => hs'.extBut b o (fun h => hb (by simp [h])) e
  done := fun s Q E st hQ => pyNext_set_end hh st.1 st.2 rfl fun h' he' => hQ h' s.toks fun b o hb e => he' b o (fun h => hb (by simp [h])) e
  self := fun i s Q E st hQ => by
    refine wpAny_pyIter_slot st.1.typeIs L2.slot_sit_iter (wpAny_call_entry L2.slot_sit_iter st.1.typeIs L2.entry_sit_iter ?_ (L2.args_sit_iter _))
    show wpAny _ _ (ret (.ref I)) _ _ s
    exact wpAny_pure ⟨_, rfl, "set_iterator", _, st.1.typeIs, L2.slot_sit_next.lookup, hQ⟩
theorem src_set {a : Addr} {L : List Ent} {ep : Nat} :
    PySem.W.KdlSrc prog w "set" a a L.length (fun i v => ∃ x, (setOut w a ep L)[i]? = some (x, v)) (fun h => SetE (!w.params.followText "set-order") h a L ep) where
  type := fun _ hm => hm.typeIs
  there := fun _ hm => let ⟨_, _, ho, _⟩ := hm; ⟨Heap.lt_size ho, Heap.lt_size ho⟩
  keep := fun _ _ hm hk => hm.at fun o e => hk a (.inl rfl) o e
  notList := by decide
  notTuple := by decide
  hint := fun _ _ _ _ hm hq => L2.hint_set hm.typeIs hq
  iter := fun _ _ hh hm => ⟨_, _, (fun _ _ hq => iter_set hm hq), walks_set hh (let ⟨_, _, ho, _⟩ := hm; Nat.ne_of_lt (Heap.lt_size ho)), ⟨⟨_, Heap.get?_push_size _ rfl, rfl, rfl⟩, hm.at fun o e => Heap.get?_push_of_some _ e⟩⟩
end
end Ts
namespace L2
open PySem PySem.Spec PyProof.Rows
def LeT (x y : List Int) : Prop := So.lexLt y x = false
def srtT (ds : List (List Int)) : List (List Int) := ds.mergeSort fun a b => !So.lexLt b a
theorem srtT_perm (ds : List (List Int)) : (srtT ds).Perm ds := List.mergeSort_perm ..
theorem srtT_le (ds : List (List Int)) : (srtT ds).Pairwise LeT := by
  have := List.pairwise_mergeSort (le := fun a b : List Int => !So.lexLt b a) (fun a b c h1 h2 => by
    simp only [Bool.not_eq_true'] at *
    cases h : So.lexLt c a with
    | false => rfl
    | true =>
      rcases So.lex_nt c b a h with z | z
      · rw [h2] at z; cases z
      · rw [h1] at z; cases z) (fun a b => by
    simp only [Bool.or_eq_true, Bool.not_eq_true']
    cases h : So.lexLt b a with
    | false => exact .inl rfl
    | true =>
      right
      cases z : So.lexLt a b with
      | false => rfl
      | true =>
        have := So.lex_tr a b a z h
        rw [So.lex_irr] at this; cases this) ds
  exact this.imp fun h => by simpa [LeT] using h
theorem srt_unique {a b : List (List Int)} (p : a.Perm b) (ha : a.Pairwise LeT) (hb : b.Pairwise LeT) : a = b := List.Perm.eq_of_pairwise (fun x y _ _ h1 h2 => So.lex_tot x y h2 h1) ha hb p
abbrev dT (d : List Int) : Dv := .tup (d.map di)
theorem refs_of : ∀ {as : List Addr} {its : List Value}, Vals (as.map V.ref) its → its = as.map Value.ref
  | [], _, r => by rw [List.map_nil] at r; cases r; rfl
  | a :: as, _, r => by
    rw [List.map_cons] at r
    cases r with
    | cons h t => cases h; rw [refs_of t]; rfl
structure Tps (K : PySem.W.Frag) (H : Hp) (as : List Addr) (ds : List (List Int)) : Prop where
  len : as.length = ds.length
  at_ : ∀ (j : Nat) (a : Addr) (d : List Int), as[j]? = some a → ds[j]? = some d → SqT K H a (d.map V.int)
theorem tups_of {K : PySem.W.Frag} {G : Hp} : ∀ {ds : List (List Int)} {ys : List V}, HvL K G (ds.map dT) ys → ∃ as : List Addr, ys = as.map V.ref ∧ Tps K G as ds
  | [], _, h => by cases h; exact ⟨[], rfl, rfl, fun j a d h => nomatch h⟩
  | d :: ds, _, h => by
    obtain ⟨y, ys, rfl, ⟨a, vs, rfl, h1, h2⟩, h3⟩ := h
    obtain ⟨as, rfl, T⟩ := tups_of h3
    have := hvl_ints h2
    subst this
    refine ⟨a :: as, rfl, by rw [List.length_cons, List.length_cons, T.len], fun j a' d' e1 e2 => ?_⟩
    cases j with
    | zero => cases e1; cases e2; exact h1
    | succ j => exact T.at_ j a' d' e1 e2
theorem hvl_tups {K : PySem.W.Frag} {G : Hp} : ∀ {qs : List (Addr × List Int)}, (∀ q ∈ qs, SqT K G q.1 (q.2.map V.int)) → HvL K G (qs.map fun q => dT q.2) (qs.map fun q => V.ref q.1)
  | [], _ => rfl
  | q :: qs, h => ⟨_, _, rfl, ⟨q.1, _, rfl, h q (List.mem_cons_self ..), ints_hvl⟩, hvl_tups fun x hx => h x (List.mem_cons_of_mem _ hx)⟩
section
variable {X : Cx} {pins : List (Addr × Obj)} {σ : St} {H : Hp} {s : Shared}
theorem tup_key {a : Addr} {d : List Int} (I : Inv X pins σ H s) (h : SqT X.K H a (d.map V.int)) : So.tupKey s.heap (.ref a) = some d := by
  obtain ⟨its, r, p, _⟩ := I.tuple h
  exact So.key_of p (intsAre_of r)
def rSortL (K : PySem.W.Frag) : List V → Hp → VK → Prop := fun xs H Q => ∃ (p : Addr) (as : List Addr) (ds : List (List Int)), xs = [.ref p] ∧ SqL K H p (as.map V.ref) ∧ Tps K H as ds ∧ (∀ d ∈ ds, d ≠ []) ∧ ds.length < 128 ∧
    ∀ (l : Addr) (qs : List (Addr × List Int)), H l = none → qs.Perm (as.zip ds) → (qs.map (·.2)).Pairwise LeT → Q (.ref l) (upd H l (.lst (qs.map fun q => .ref q.1)))
theorem zip_kd {as : List Addr} {ds : List (List Int)} {kd : Addr → List Int} (hl : as.length = ds.length) (h : ∀ (j : Nat) (a : Addr) (d : List Int), as[j]? = some a → ds[j]? = some d → kd a = d) : as.zip ds = as.map fun a => (a, kd a) := by
  refine List.ext_getElem? fun i => ?_
  rw [List.getElem?_map]
  rcases Nat.lt_or_ge i as.length with hi | hi
  · have hi' : i < ds.length := by omega
    rw [List.getElem?_eq_getElem hi, List.getElem?_eq_getElem (by rw [List.length_zip]; omega), List.getElem_zip]
    show some (as[i], ds[i]) = some (as[i], kd as[i])
    rw [h i as[i] ds[i] (List.getElem?_eq_getElem hi) (List.getElem?_eq_getElem hi')]
  · rw [List.getElem?_eq_none hi, List.getElem?_eq_none (by rw [List.length_zip]; omega)]; rfl
theorem call_sortedL : CallR X (.builtin "sorted") (rSortL X.K) := by
  intro pins s σ H xs us Q I r h
  obtain ⟨p, as, ds, rfl, hq, T, ne, hz, q⟩ := h
  obtain ⟨u, rfl, rx⟩ := vals1 r
  cases rx
  obtain ⟨its, rv, pl, hz'⟩ := I.list hq
  have := refs_of rv
  subst this
  have big : 1000 < sizeLine := by decide
  have hl := T.len
  obtain ⟨kd, ekd⟩ : ∃ kd : Addr → List Int, kd = fun a => So.keyD s.heap (.ref a) := ⟨_, rfl⟩
  have kdv : ∀ (j : Nat) (a : Addr) (d : List Int), as[j]? = some a → ds[j]? = some d → kd a = d := fun j a d e1 e2 => by
    rw [ekd]
    show (So.tupKey s.heap (.ref a)).getD [] = d
    rw [tup_key I (T.at_ j a d e1 e2)]; rfl
  refine So.sorted_tups pl.isList (fun v hv => ?_) (by rw [List.length_map]; omega) fun out p1 p2 => ?_
  · obtain ⟨a, ha, rfl⟩ := List.mem_map.mp hv
    obtain ⟨j, hj, ej⟩ := List.getElem_of_mem ha
    have e1 : as[j]? = some a := by rw [List.getElem?_eq_getElem hj, ej]
    have e2 : ds[j]? = some (ds[j]'(by omega)) := List.getElem?_eq_getElem (by omega)
    have k := tup_key I (T.at_ j a _ e1 e2)
    cases hd : ds[j]'(by omega) with
    | nil => exact absurd hd (ne _ (List.getElem_mem _))
    | cons n ns => exact ⟨n, ns, by rw [k, hd]⟩
  · obtain ⟨bs, pm, eo⟩ := refs_perm p1
    obtain ⟨e, he⟩ := sortedAll_at s.heap (as.map Value.ref) out
    have hb : bs.length = as.length := pm.length_eq
    have fin := q (s.heap.objs.size + 1) (bs.map fun a => (a, kd a)) (I.hok.fresh (Nat.le_succ _)) (by rw [zip_kd hl kdv]; exact pm.map _) (by
      rw [List.map_map, List.pairwise_map]
      unfold So.SrtV at p2
      rw [eo, List.pairwise_map] at p2
      refine p2.imp fun {x y} z => ?_
      show So.lexLt (kd y) (kd x) = false
      rw [ekd]
      exact z)
    rw [List.map_map] at fin
    refine ⟨.ref (s.heap.objs.size + 1), _, I.laid (t' := s.toks) (o := .lst (bs.map V.ref)) (fun b o e => sortedAll_old e) (Nat.le_succ _) ?_, rfl, fin⟩
    exact ⟨by rw [List.length_map]; omega, out.toList, e, by rw [eo]; exact vals_refs bs, by rw [Array.toArray_toList]; exact he⟩
end
abbrev lP (p : Nat × Nat) : List Int := [(p.1 : Int), (p.2 : Int)]
section
variable {X : Cx} {pins : List (Addr × Obj)} {σ : St} {H : Hp} {s : Shared}
theorem isP_of {a : Addr} {p : Nat × Nat} (I : Inv X pins σ H s) (h : SqT X.K H a ((lP p).map V.int)) : Ts.IsP s.heap p a := by
  obtain ⟨its, r, ⟨o, h1, h2, n, h3⟩, _⟩ := I.tuple h
  cases r with
  | cons e1 r =>
    cases r with
    | cons e2 r =>
      cases r
      obtain ⟨t, rfl⟩ := e1
      obtain ⟨u, rfl⟩ := e2
      exact ⟨o, n, t, u, h1, h2, h3⟩
def setPO (w : World) (l : Addr) (L : List Ts.Ent) : HO := .ext fun h => Ts.SetT (!w.params.followText "set-order") h l L
def rSetP (K : PySem.W.Frag) (w : World) : List V → Hp → VK → Prop := fun xs H Q => ∃ (p : Addr) (as : List Addr) (ps : List (Nat × Nat)), xs = [.ref p] ∧ SqL K H p (as.map V.ref) ∧ Tps K H as (ps.map lP) ∧ (∀ p ∈ ps, p.1 ≤ 6 ∧ p.2 ≤ 6) ∧
    ∀ l L, H l = none → Ts.Acc as ps as.length L → (L.map (·.2.1)).Nodup → L.length ≤ 49 → Q (.ref l) (upd H l (setPO w l L))
theorem call_setP (hc : X.calm = true) (hu : X.A.units + 64 < cLine) : CallR X (.type "set") (rSetP X.K X.w) := by
  intro pins s σ H xs us Q I r h
  obtain ⟨p, as, ps, rfl, hq, T, sm, q⟩ := h
  obtain ⟨u, rfl, rx⟩ := vals1 r
  cases rx
  obtain ⟨its, rv, pl, _⟩ := I.list hq
  have := refs_of rv
  subst this
  have hP : Ts.Prs s.heap as ps := ⟨by rw [T.len, List.length_map], sm, fun j a p e1 e2 => isP_of I (T.at_ j a _ e1 (by rw [List.getElem?_map, e2]; rfl))⟩
  refine Ts.call_pairs (I.ok.hd hc) (by omega) pl.isList hP fun h' tk L hs hA kp => ?_
  have nd : (L.map (·.2.1)).Nodup := by obtain ⟨_, _, _, _, _, _, T⟩ := id hs; exact T.nd
  refine ⟨.ref s.heap.objs.size, _, I.laid (t' := tk) (o := setPO X.w s.heap.objs.size L) kp (Nat.le_refl _) ?_, rfl, q _ L (I.hok.fresh (Nat.le_refl _)) hA nd (hA.len hP nd)⟩
  refine ⟨hs, ?_, fun h1 h2 x e => x.at e⟩
  obtain ⟨o, _, _, ho, _⟩ := hs
  exact ⟨o, ho⟩
def rSortP (K : PySem.W.Frag) (w : World) : List V → Hp → VK → Prop := fun xs H Q => ∃ (p : Addr) (L : List Ts.Ent) (rs : List (Addr × (Nat × Nat))), xs = [.ref p] ∧ H p = some (setPO w p L) ∧ L.map (·.2.2) = rs.map (fun r => Value.ref r.1) ∧ (∀ r ∈ rs, SqT K H r.1 ((lP r.2).map V.int)) ∧ rs.length < 128 ∧
    ∀ (l : Addr) (qs : List (Addr × List Int)), H l = none → qs.Perm (rs.map fun r => (r.1, lP r.2)) → (qs.map (·.2)).Pairwise LeT → Q (.ref l) (upd H l (.lst (qs.map fun q => .ref q.1)))
theorem call_sortedP (hc : X.calm = true) : CallR X (.builtin "sorted") (rSortP X.K X.w) := by
  intro pins s σ H xs us Q I r h
  obtain ⟨p, L, rs, rfl, hp, hL, hr, hz, q⟩ := h
  obtain ⟨u, rfl, rx⟩ := vals1 r
  cases rx
  have hS : Ts.SetT (!X.w.params.followText "set-order") s.heap p L := (show ObjOk X.prog X.w H s.heap p (setPO X.w p L) from I.hok p _ hp).1
  obtain ⟨o, t, ep, h1, h2, h3, h4⟩ := hS
  have hE : Ts.SetE (!X.w.params.followText "set-order") s.heap p L ep := ⟨o, t, h1, h2, h3, h4, h4.fits⟩
  have big : 1000 < sizeLine := by decide
  have Ll : L.length = rs.length := by
    have := congrArg List.length hL
    rw [List.length_map, List.length_map] at this
    exact this
  have tup : ∀ r ∈ rs, So.tupKey s.heap (.ref r.1) = some (lP r.2) := fun r hrm => tup_key I (hr r hrm)
  refine Calls.call_function_entry kind_sorted plain_sorted entry_sorted (args_sorted1 _) ?_
  unfold Builtin.«sorted»
  refine wpAny_bind (m := checkCount "sorted" 1 1 _) (wpAny_pure ?_)
  refine wpAny_bind (PySem.W.kdu_collect (A := X.A.in1) (Ts.src_set (L := L) (ep := ep)) (I.ok.hd hc) hE (by omega) fun h' tk acc hk hacc => ?_)
  have ha : acc.toList.length = L.length := by rw [Array.length_toList, hacc.1]
  have hval : acc.toList = (Ts.setOut X.w p ep L).map (·.2) := by
    apply List.ext_getElem?
    intro j
    rcases Nat.lt_or_ge j acc.toList.length with hj | hj
    · obtain ⟨x, hx⟩ := hacc.2 j acc.toList[j] (by rw [← Array.getElem?_toList]; exact List.getElem?_eq_getElem hj)
      rw [List.getElem?_eq_getElem hj, List.getElem?_map, hx]
      rfl
    · rw [List.getElem?_eq_none hj, List.getElem?_eq_none (by rw [List.length_map, (Ts.setOut_perm X.w p ep L).length_eq, List.length_map, ← ha]; exact hj)]
  have pv : acc.toList.Perm (rs.map fun r => Value.ref r.1) := by
    rw [hval, ← hL]
    have := (Ts.setOut_perm X.w p ep L).map (·.2)
    rw [List.map_map] at this
    exact this
  have pv' : acc.toList.Perm ((rs.map (·.1)).map Value.ref) := by rw [List.map_map]; exact pv
  obtain ⟨ks, pk, ea⟩ := refs_perm pv'
  have known : ∀ a ∈ ks, ∃ r ∈ rs, r.1 = a := fun a hm => by
    obtain ⟨r, h1, h2⟩ := List.mem_map.mp (pk.mem_iff.mp hm)
    exact ⟨r, h1, h2⟩
  refine wpAny_bind (wpAny_newList ?_ (by rw [ha]; omega))
  have hoL : (h'.push (seqObj "list" acc.toList.toArray 0)).get? h'.objs.size = some (seqObj "list" acc.toList.toArray 0) := Heap.get?_push_size _ rfl
  have keepL : ∀ v ns, So.tupKey s.heap v = some ns → So.tupKey (h'.push (seqObj "list" acc.toList.toArray 0)) v = some ns := fun v ns e => So.key_keep e fun t o _ ht _ => Heap.get?_push_of_some _ (hk t o ht)
  refine wpAny_bind (wpAny_holding (wpAny_call_entry slot_list_sort ⟨_, hoL, rfl⟩ entry_list_sort (So.list_sort_tups (s := { s with heap := h'.push (seqObj "list" acc.toList.toArray 0), toks := tk }) hoL (fun v hv => ?_) (by rw [ha]; omega) fun out p1 p2 => ⟨_, rfl, wpAny_pure ⟨_, rfl, ?_⟩⟩) (args_list_sort _)))
  · rw [ea] at hv
    obtain ⟨a, hm, rfl⟩ := List.mem_map.mp hv
    obtain ⟨r, hrm, rfl⟩ := known a hm
    exact ⟨_, _, keepL _ _ (tup r hrm)⟩
  · rw [ea] at p1
    obtain ⟨bs, pm, eo⟩ := refs_perm p1
    obtain ⟨e, heL⟩ := sortedHeap_at (out := out) hoL
    have I1 : Inv X pins σ H { s with heap := h', toks := tk } := I.kept (t' := tk) hk
    obtain ⟨kd, ekd⟩ : ∃ kd : Addr → List Int, kd = fun a => (So.tupKey s.heap (.ref a)).getD [] := ⟨_, rfl⟩
    have kdv : ∀ r ∈ rs, kd r.1 = lP r.2 := fun r hrm => by rw [ekd]; show (So.tupKey s.heap (.ref r.1)).getD [] = _; rw [tup r hrm]; rfl
    have lt : bs.length = rs.length := by rw [pm.length_eq, pk.length_eq, List.length_map]
    have fin := q h'.objs.size (bs.map fun a => (a, kd a)) (I1.hok.fresh (Nat.le_refl _)) (by
      have := (pm.trans pk).map fun a => (a, kd a)
      rw [List.map_map] at this
      refine this.trans (List.Perm.of_eq (List.map_congr_left fun r hrm => ?_))
      show (r.1, kd r.1) = _
      rw [kdv r hrm]) (by
      rw [List.map_map, List.pairwise_map]
      unfold So.SrtV at p2
      rw [eo, List.pairwise_map] at p2
      refine p2.imp_of_mem fun {x y} hx hy z => ?_
      obtain ⟨rx, hrx, rfl⟩ := known x (pm.mem_iff.mp hx)
      obtain ⟨ry, hry, rfl⟩ := known y (pm.mem_iff.mp hy)
      unfold So.keyD at z
      rw [keepL _ _ (tup rx hrx), keepL _ _ (tup ry hry)] at z
      show So.lexLt (kd ry.1) (kd rx.1) = false
      rw [kdv rx hrx, kdv ry hry]
      exact z)
    rw [List.map_map] at fin
    refine ⟨.ref h'.objs.size, _, I1.laid (t' := tk) (o := .lst (bs.map V.ref)) (fun b o eb => ?_) (Nat.le_refl _) ?_, rfl, fin⟩
    · have lt : b < h'.objs.size := Heap.lt_size eb
      rw [sortedHeap_old (Nat.ne_of_lt lt) (by rw [size_push']; exact Nat.lt_succ_of_lt lt), Heap.get?_push_ne _ _ _ (Nat.ne_of_lt lt)]
      exact eb
    · refine ⟨by rw [List.length_map]; omega, out.toList, e, ?_, by rw [Array.toArray_toList]; exact heL⟩
      rw [eo]
      exact vals_refs bs
end
def outP (ps : List (Nat × Nat)) : List (Nat × Nat) := Ts.allP.filter fun p => ps.contains p
theorem allP_le : (Ts.allP.map lP).Pairwise LeT := by
  have key : ((Ts.allP.map lP).Pairwise fun x y => So.lexLt y x = false) := by decide +kernel
  exact key
theorem allP_nd : Ts.allP.Nodup := by decide +kernel
theorem mem_allP {p : Nat × Nat} : p ∈ Ts.allP ↔ p.1 ≤ 6 ∧ p.2 ≤ 6 := by
  constructor
  · intro h
    obtain ⟨a, ha, h⟩ := List.mem_flatMap.mp h
    obtain ⟨b, hb, rfl⟩ := List.mem_map.mp h
    have := List.mem_range.mp ha
    have := List.mem_range.mp hb
    exact ⟨by show a ≤ 6; omega, by show b ≤ 6; omega⟩
  · intro h
    exact List.mem_flatMap.mpr ⟨p.1, List.mem_range.mpr (by omega), List.mem_map.mpr ⟨p.2, List.mem_range.mpr (by omega), rfl⟩⟩
section
variable {ι : Type} {F : Fam ι} {e a b c : Expr} {es : List Expr} {ρ : En} {t ta tb' : Tr} {ts : List Tr} {pos : Pos}
theorem ev_sortset2 {ps : List (Nat × Nat)} (hm : F.mg "sorted" = none) (hm2 : F.mg "set" = none) (ha : Ev F a ρ ta) (ea : er ta = .lst ((ps.map lP).map dT)) (sm : ∀ p ∈ ps, p.1 ≤ 6 ∧ p.2 ≤ 6) {p1 p2 pos1 : Pos} (hg : ∀ i, Gl (F.cx i) "sorted" := by intro _; rfl) (hg2 : ∀ i, Gl (F.cx i) "set" := by intro _; rfl)
    (hs : ∀ i, starEach [a] (F.cx i).env = [(false, eval a (F.cx i).env)] := by intro _; rfl) (hs2 : ∀ i, starEach [.Call (.Name "set" p2) [a] [] pos1] (F.cx i).env = [(false, eval (.Call (.Name "set" p2) [a] [] pos1) (F.cx i).env)] := by intro _; rfl) :
    Ev F (.Call (.Name "sorted" p1) [.Call (.Name "set" p2) [a] [] pos1] [] pos) ρ (.ow (((outP ps).map lP).map fun d => .fz (dT d))) := by
  obtain ⟨τ, p, q⟩ := ha.use
  refine ⟨tCB (rSortP F.K F.w) (tCons (tCB (rSetP F.K F.w) (tCons τ tNil)) tNil), fun i => pe_callB (F.hK i ▸ F.hw i ▸ call_sortedP (F.calm i)) (hg i) ((F.hm i).symm ▸ hm) bt_sorted (pa_cons (pe_callTy (F.hK i ▸ F.hw i ▸ call_setP (F.calm i) (F.hr i).units) (hg2 i) ((F.hm i).symm ▸ hm2) bt_set (pa_cons (p i) pa_nil (hs i)) (by decide) (by decide) (hs i) rfl) pa_nil (hs2 i)) (by decide) (by decide) (hs2 i) rfl, fun σ G H Q s rr k => q σ G H _ s rr fun v G1 H1 s1 hx => ?_⟩
  rw [ea] at hx
  obtain ⟨l, ys, rfl, h1, h2⟩ := hx
  obtain ⟨as, rfl, T⟩ := tups_of h2
  have pl : ps.length = as.length := by rw [T.len, List.length_map]
  refine ⟨l, as, ps, rfl, s1.s.seq h1, ⟨T.len, fun j a d e1 e2 => Same.tup s1.s (T.at_ j a d e1 e2)⟩, sm, fun l0 L hl0 hA nd hL => ?_⟩
  have ex : ∀ e ∈ L, ∃ r : Addr × (Nat × Nat), e.2 = (Ts.hP r.2, Value.ref r.1) ∧ SqT F.K G1 r.1 ((lP r.2).map V.int) ∧ r.2 ∈ ps := fun e he => by
    obtain ⟨j, a, p, _, e1, e2, e3⟩ := hA.src e he
    exact ⟨(a, p), e3, T.at_ j a _ e1 (by rw [List.getElem?_map, e2]; rfl), List.mem_of_getElem? e2⟩
  obtain ⟨rs, hrs⟩ : ∃ rs : List (Addr × (Nat × Nat)), L.map (·.2) = rs.map (fun r => (Ts.hP r.2, Value.ref r.1)) ∧ ∀ r ∈ rs, SqT F.K G1 r.1 ((lP r.2).map V.int) ∧ r.2 ∈ ps := by
    clear hA nd hL
    induction L with
    | nil => exact ⟨[], rfl, fun r h => nomatch h⟩
    | cons e L ih =>
      obtain ⟨rs, i1, i2⟩ := ih fun x hx => ex x (List.mem_cons_of_mem _ hx)
      obtain ⟨r, r1, r2⟩ := ex e (List.mem_cons_self ..)
      refine ⟨r :: rs, by rw [List.map_cons, List.map_cons, i1, r1], fun x hx => ?_⟩
      rcases List.mem_cons.mp hx with rfl | hx
      · exact r2
      · exact i2 x hx
  obtain ⟨hr1, hr2⟩ := hrs
  have eh : L.map (·.2.1) = (rs.map (·.2)).map Ts.hP := by
    have := congrArg (List.map (·.1)) hr1
    rw [List.map_map, List.map_map] at this
    rw [List.map_map]
    exact this
  have ev : L.map (·.2.2) = rs.map (fun r => Value.ref r.1) := by
    have := congrArg (List.map (·.2)) hr1
    rw [List.map_map, List.map_map] at this
    exact this
  have rl : rs.length = L.length := by
    have := congrArg List.length ev
    rw [List.length_map, List.length_map] at this
    exact this.symm
  refine ⟨l0, L, rs, rfl, upd_same, ev, fun r hr => Same.tup (s1.s.trans (Same.new hl0)) (hr2 r hr).1, by omega, fun l2 qs hl2 pm pw => ?_⟩
  have k2 := k.step (s1.trans (Step.newO (o := setPO F.w l0 L) s1.s hl0))
  have ndk : (rs.map (·.2)).Nodup := by
    rw [eh] at nd
    exact List.Pairwise.of_map _ (fun a b hab z => hab (by rw [z])) nd
  have mem : ∀ x, x ∈ rs.map (·.2) ↔ x ∈ outP ps := fun x => by
    unfold outP
    rw [List.mem_filter, mem_allP]
    constructor
    · intro h
      obtain ⟨r, hr, rfl⟩ := List.mem_map.mp h
      exact ⟨sm _ (hr2 r hr).2, by simpa using (hr2 r hr).2⟩
    · rintro ⟨h1, h2⟩
      have h2 : x ∈ ps := by simpa using h2
      obtain ⟨j, hj, ej⟩ := List.getElem_of_mem h2
      have := hA.all j x (by omega) (by rw [List.getElem?_eq_getElem hj, ej])
      rw [eh] at this
      obtain ⟨y, hy, e⟩ := List.mem_map.mp this
      obtain ⟨r, hr, rfl⟩ := List.mem_map.mp hy
      have := Ts.hP_inj (sm _ (hr2 r hr).2) h1 e
      rw [← this]; exact hy
  have pp : (rs.map (·.2)).Perm (outP ps) := (List.perm_ext_iff_of_nodup ndk (allP_nd.sublist List.filter_sublist)).mpr mem
  have e2 : qs.map (·.2) = (outP ps).map lP := srt_unique (by
    refine (pm.map (·.2)).trans ?_
    rw [List.map_map]
    have := pp.map lP
    rw [List.map_map] at this
    exact this) pw (by
    refine allP_le.sublist ?_
    exact List.Sublist.map _ List.filter_sublist)
  refine k2.lst (s1.s.trans (Same.new hl0)) ?_ hl2
  rw [← e2, List.map_map]
  have := (hvl_tups (K := F.K) (G := G1) (qs := qs) fun q hq => by
    have hq := pm.mem_iff.mp hq
    obtain ⟨r, hr, rfl⟩ := List.mem_map.mp hq
    exact (hr2 r hr).1).owl (H := upd H1 l0 (setPO F.w l0 L))
  rw [List.map_map] at this
  exact this
end
section
variable {ι : Type} {F : Fam ι} {e a b c : Expr} {es : List Expr} {ρ : En} {t ta tb' : Tr} {ts : List Tr} {pos : Pos}
theorem ev_sortedT {ds : List (List Int)} (hm : F.mg "sorted" = none) (ha : Ev F a ρ ta) (ea : er ta = .lst (ds.map dT)) (ne : ∀ d ∈ ds, d ≠ []) (hz : ds.length < 128) {p' : Pos} (hg : ∀ i, Gl (F.cx i) "sorted" := by intro _; rfl)
    (hs : ∀ i, starEach [a] (F.cx i).env = [(false, eval a (F.cx i).env)] := by intro _; rfl) : Ev F (.Call (.Name "sorted" p') [a] [] pos) ρ (.ow ((srtT ds).map fun d => .fz (dT d))) :=
  ev_callB (r := rSortL F.K) (fun i => F.hK i ▸ call_sortedL) hm bt_sorted (eva_cons ha eva_nil hs) (fun G H vs Q s hx k => by
    obtain ⟨x, rfl, hxx⟩ := hvl1 hx
    rw [ea] at hxx
    obtain ⟨l, ys, rfl, h1, h2⟩ := hxx
    obtain ⟨as, rfl, T⟩ := tups_of h2
    refine ⟨l, as, ds, rfl, s.seq h1, ⟨T.len, fun j a d e1 e2 => Same.tup s (T.at_ j a d e1 e2)⟩, ne, hz, fun l2 qs hl2 pm pw => ?_⟩
    have e2 : qs.map (·.2) = srtT ds := srt_unique ((pm.map (·.2)).trans (by rw [List.map_snd_zip (Nat.le_of_eq T.len.symm)]; exact (srtT_perm ds).symm)) pw (srtT_le ds)
    refine k.lst s ?_ hl2
    rw [← e2, List.map_map]
    have := (hvl_tups (K := F.K) (G := G) (qs := qs) fun q hq => by
      have hq := pm.mem_iff.mp hq
      obtain ⟨j, hj, ej⟩ := List.getElem_of_mem hq
      rw [List.length_zip] at hj
      rw [List.getElem_zip] at ej
      have e1 : as[j]? = some q.1 := by rw [List.getElem?_eq_getElem (by omega), ← ej]
      have e3 : ds[j]? = some q.2 := by rw [List.getElem?_eq_getElem (by omega), ← ej]
      exact T.at_ j q.1 q.2 e1 e3).owl (H := H)
    rw [List.map_map] at this
    exact this) hg (by decide) (by decide) hs (by intro _; rfl)
end
end L2
namespace K22
open PySem L2 Fra
def top (i : Nat) : Stmt := PySem.Challenge.pw_lotmeal_k22_which_are_over.main.body.getD i (.Pass ⟨0, 0, 0, 0⟩)
structure Txt (mg : Str → Option Value) : Prop where
  b_isinstance : mg "isinstance" = none
  b_int : mg "int" = none
  b_bool : mg "bool" = none
  b_list : mg "list" = none
  b_tuple : mg "tuple" = none
  b_len : mg "len" = none
  b_range : mg "range" = none
  b_zip : mg "zip" = none
  b_any : mg "any" = none
  b_enumerate : mg "enumerate" = none
  b_set : mg "set" = none
  b_abs : mg "abs" = none
  b_sum : mg "sum" = none
  b_sorted : mg "sorted" = none
  g_MOST : ∃ tk, mg "MOST" = some (.int 6 tk)
  g_MOST_COUNT : ∃ tk, mg "MOST_COUNT" = some (.int 9 tk)
section
variable {P : Program} {w : World} {K : PySem.W.Frag} {mg : Str → Option Value} {base : Heap}
def numsF (n : Nat) : List Int := (List.range n).map fun i => 0 + ((i : Nat) : Int)
theorem mem_nums {n : Nat} {x : Int} : x ∈ numsF n ↔ 0 ≤ x ∧ x < n := by
  unfold numsF
  constructor
  · intro h
    obtain ⟨i, hi, rfl⟩ := List.mem_map.mp h
    have := List.mem_range.mp hi
    omega
  · rintro ⟨h0, h1⟩
    exact List.mem_map.mpr ⟨x.toNat, List.mem_range.mpr (by omega), by omega⟩
theorem nums_nodup (n : Nat) : (numsF n).Nodup := by
  unfold numsF
  rw [List.nodup_iff_pairwise_ne, List.pairwise_map]
  exact (List.nodup_range (n := n)).imp fun h z => h (by omega)
abbrev s_common_part : Stmt := top 9
theorem sc_common_part : FnScope ["one", "other", "rest"] ["one", "other"] (defScope s_common_part) := ⟨rfl, rfl, rfl, by decide +kernel, rfl, by decide +kernel, by decide +kernel⟩
def rPart (dd : List Dv) (t : Tr) : Prop := ∃ a b : Int, 0 ≤ a ∧ 0 ≤ b ∧ dd = [di a, di b] ∧ t = ti (gc a b)
theorem ok_common_part {f : Addr} {fd : FuncData} {k : Nat} (F : Fun K "common_part" "common_part" s_common_part f fd) (T : Txt mg) : FnOk P w K mg base CX0 (k + 1) f fd ["one", "other"] (spT K rPart) := by
  refine fn_ok F.d sc_common_part (fun dd t h => by obtain ⟨_, _, _, _, rfl, _⟩ := h; rfl) fun dd t h => ?_
  obtain ⟨a, b, ha, hb, rfl, rfl⟩ := h
  refine ⟨_, .inl rfl, ?_⟩
  refine rns_while_by (fun p : Int × Int => [some (ti p.1), some (ti p.2), none]) (fun p => 0 ≤ p.1 ∧ 0 ≤ p.2 ∧ gc p.1 p.2 = gc a b) (fun p => !decide (p.2 = 0)) (fun p => p.2.toNat) (a, b) rfl ⟨ha, hb, rfl⟩ (fun p hp => Et.s (et_ne (ev_nm 1 rfl) ev_int)) (fun p hp h => ?_) (fun p hp h => ?_)
  · obtain ⟨x, y⟩ := p
    obtain ⟨h1, h2, h3⟩ := hp
    have hy : y ≠ 0 := by simpa using h
    have h2' : 0 ≤ y := h2
    have l1 := Int.emod_lt_of_pos x (show 0 < y by omega)
    have l2 := Int.emod_nonneg x hy
    refine ⟨(y, x % y), ⟨h2, l2, ?_⟩, ?_, Rns.fg (rns_cons (rn_set 2 (Ev.s (ev_mod (ev_nm 0 rfl) (ev_nm 1 rfl) (by omega))) (fun _ => sc_common_part.nd)) (rns_cons (rn_set 0 (Ev.s (ev_nm 1 rfl)) (fun _ => sc_common_part.nd)) (rns_one (rn_set 1 (Ev.s (ev_nm 2 rfl)) (fun _ => sc_common_part.nd))))) ⟨[2], rfl⟩⟩
    · show gc y (x % y) = _
      rw [gc_step]; exact h3
    · show (x % y).toNat < y.toNat
      omega
  · obtain ⟨x, y⟩ := p
    obtain ⟨h1, h2, h3⟩ := hp
    have hy0 : y = 0 := by simpa using h
    have h3' : gc x y = gc a b := h3
    have h1' : 0 ≤ x := h1
    have e : gc a b = x := by rw [← h3', hy0, gc_zero]; omega
    rw [e]
    exact rns_one (rn_ret (Ev.s (ev_nm 0 rfl)))
abbrev s_is_whole : Stmt := top 8
theorem sc_is_whole : FnScope ["number"] ["number"] (defScope s_is_whole) := ⟨rfl, rfl, rfl, by decide +kernel, rfl, by decide +kernel, by decide +kernel⟩
def rIsWhole (dd : List Dv) (t : Tr) : Prop := ∃ n : Int, dd = [di n] ∧ t = tb true
theorem ok_is_whole {f : Addr} {fd : FuncData} {k : Nat} (F : Fun K "is_whole" "is_whole" s_is_whole f fd) (T : Txt mg) : FnOk P w K mg base CX0 (k + 1) f fd ["number"] (spT K rIsWhole) := by
  refine fn_ok F.d sc_is_whole (fun dd t h => by obtain ⟨n, rfl, _⟩ := h; rfl) fun dd t h => ?_
  obtain ⟨n, rfl, rfl⟩ := h
  refine ⟨_, .inl rfl, ?_⟩
  exact rns_one (rn_ret (Ev.s (Ev.to (ev_and (p := true) (q := true) (ev_isi T.b_isinstance T.b_int bt_int (ev_nm 0 rfl) (by with_unfolding_all rfl)) fun _ => (ev_one (ev_not (p := false) (ev_isi T.b_isinstance T.b_bool bt_bool (ev_nm 0 rfl) (by with_unfolding_all rfl))))) rfl)))
abbrev s_fraction : Stmt := top 10
theorem sc_fraction : FnScope ["top", "bottom", "part"] ["top", "bottom"] (defScope s_fraction) := ⟨rfl, rfl, rfl, by decide +kernel, rfl, by decide +kernel, by decide +kernel⟩
def rFrac (dd : List Dv) (t : Tr) : Prop := ∃ a b : Int, 0 < b ∧ b.natAbs < 2 ^ 8000 ∧ dd = [di a, di b] ∧ t = tF (lT a b, lB a b)
theorem ok_fraction {f f1 f2 : Addr} {fd fd1 fd2 : FuncData} {dV : Value} {k : Nat} (F : FunD K "fraction" "fraction" s_fraction dV f fd) (T : Txt mg) (K_is_whole : Kn P w K mg base CX0 (k + 1) "is_whole" f1 fd1 ["number"] (spT K rIsWhole)) (K_common_part : Kn P w K mg base CX0 (k + 1) "common_part" f2 fd2 ["one", "other"] (spT K rPart)) : FnOk P w K mg base CX0 (k + 2) f fd ["top", "bottom"] (spT K rFrac) := by
  refine fn_ok F sc_fraction (fun dd t h => by obtain ⟨_, _, _, _, rfl, _⟩ := h; rfl) fun dd t h => ?_
  obtain ⟨a, b, hb, hz, rfl, rfl⟩ := h
  refine ⟨_, .inl rfl, ?_⟩
  refine rns_cons (rn_skip (Et.s (Ew.et (ew_or (et_not (et_val (ev_call K_is_whole (Nat.le_refl _) (eva_cons (ev_nm 0 rfl) eva_nil) ⟨a, rfl, rfl⟩))) fun _ => (ew_or1 (et_not (et_val (ev_call K_is_whole (Nat.le_refl _) (eva_cons (ev_nm 1 rfl) eva_nil) ⟨b, rfl, rfl⟩))))))) rfl) ?_
  refine rns_cons (rn_skip (Et.s (et_eq (ev_nm 1 rfl) ev_int)) (decide_eq_false (by omega))) ?_
  have ha : 0 ≤ (if a < 0 then -a else a) := by split <;> omega
  have hb' : 0 ≤ (if b < 0 then -b else b) := by split <;> omega
  have eg : gc (if a < 0 then -a else a) (if b < 0 then -b else b) = gc a b := by
    rw [show (if a < 0 then -a else a) = (a.natAbs : Int) by split <;> omega, show (if b < 0 then -b else b) = (b.natAbs : Int) by split <;> omega, gc_abs]
  have gp := gc_pos (a := a) (show b ≠ 0 by omega)
  have gl := gc_le_r (a := a) hb
  refine rns_cons (rn_set 2 (EvS.to (t' := ti (gc a b)) (Ev.s (ev_call K_common_part (Nat.le_refl _) (eva_cons (ev_abs T.b_abs (ev_nm 0 rfl)) (eva_cons (ev_abs T.b_abs (ev_nm 1 rfl)) eva_nil)) ⟨_, _, ha, hb', rfl, rfl⟩)) (by rw [eg])) (fun _ => sc_fraction.nd)) ?_
  refine rns_cons (rn_skip (Et.s (et_lt (ev_nm 1 rfl) ev_int)) (decide_eq_false (by omega))) ?_
  have cd : ∀ i : Int, CDivB i (gc a b) := fun i => ⟨gp, Nat.lt_of_le_of_lt (by omega) hz⟩
  refine rns_one (rn_ret (Ev.s (ev_tupD (eva_cons (ev_div (ev_nm 0 rfl) (ev_nm 2 rfl) (cd _)) (eva_cons (ev_div (ev_nm 1 rfl) (ev_nm 2 rfl) (cd _)) eva_nil)) ?_ (by show 2 ≤ sizeLine; decide))))
  show [di (a / gc a b), di (b / gc a b)] = _
  rw [lT_pos hb, lB_pos hb]
abbrev s_check_orders : Stmt := top 14
theorem sc_check_orders : FnScope ["orders", "many", "asker", "order"] ["orders", "many"] (defScope s_check_orders) := ⟨rfl, rfl, rfl, by decide +kernel, rfl, by decide +kernel, by decide +kernel⟩
def rCheck (dd : List Dv) (t : Tr) : Prop := ∃ (os : List (List Int)) (n : Int), (∀ o ∈ os, o.Nodup ∧ o.length ≤ 100 ∧ ∀ x ∈ o, 0 ≤ x ∧ x < n) ∧ dd = [.lst (os.map dis), di n] ∧ t = tn
theorem er_mapB {α : Type} (l : List α) (f : α → Bool) : er (.ow (l.map fun k => Tr.fz (db (f k)))) = .lst ((l.map f).map db) := by
  rw [er_ow_map, List.map_map]; rfl
theorem ok_check_orders {f : Addr} {fd : FuncData} {k : Nat} (F : Fun K "check_orders" "check_orders" s_check_orders f fd) (T : Txt mg) : FnOk P w K mg base CX0 (k + 1) f fd ["orders", "many"] (spT K rCheck) := by
  refine fn_ok F.d sc_check_orders (fun dd t h => by obtain ⟨_, _, _, rfl, _⟩ := h; rfl) fun dd t h => ?_
  obtain ⟨os, n, ho, rfl, rfl⟩ := h
  refine ⟨_, .inr ⟨rfl, [some (.fz (.lst (os.map dis))), some (ti n), none, none], rfl⟩, ?_⟩
  have big : 1000 < sizeLine := by decide
  refine rns_cons (ρ1 := [some (.fz (.lst (os.map dis))), some (ti n), none, none]) (rn_for (EvI.s (evi_enum T.b_enumerate (ev_nm 0 rfl) rfl)) (evg_t2 2 3 (fun _ => sc_check_orders.nd)) (fun _ => [some (.fz (.lst (os.map dis))), some (ti n), none, none]) rfl (fun _ => rfl) (fun j d hd => ?_)) ?_
  · obtain ⟨x, hx, rfl⟩ := enu_get hd
    obtain ⟨o, ho', rfl⟩ := map_get hx
    obtain ⟨o1, o2, o3⟩ := ho o (List.mem_of_getElem? ho')
    refine ⟨_, _, rfl, rns_one (rn_skip (Et.s (et_val (ev_any (bs := o.map fun x => decide (x < 0) || decide (n ≤ x)) T.b_any (ev_lcm (own := ["thing"]) (fr := [1]) o di (fun x => tb (decide (x < 0) || decide (n ≤ x))) (fun i => lcs ⟨rfl, rfl, by decide +kernel, by decide +kernel, by decide +kernel, by decide +kernel⟩) (evi_list (ev_nm 3 rfl) rfl) (evg_nm 0 (fun _ => by show List.Nodup (["thing", "many"] : List Str); decide)) (by decide) (by omega) (fun x hx => ⟨_, rfl, ev_or (ev_lt (ev_nm 0 rfl) ev_int) fun _ => ev_one (ev_ge (ev_nm 0 rfl) (ev_nm 1 rfl))⟩) (fun dd => by cases dd <;> rfl)) (er_mapB o _)))) ?_), [2, 3], rfl⟩
    rw [List.any_eq_false]
    intro b hb
    obtain ⟨x, hx, rfl⟩ := List.mem_map.mp hb
    obtain ⟨x0, x1⟩ := o3 x hx
    simp only [id, decide_eq_false (show ¬ x < 0 by omega), decide_eq_false (show ¬ n ≤ x by omega)]
    decide
  refine rns_cons (ρ1 := [some (.fz (.lst (os.map dis))), some (ti n), none, none]) (rn_for (EvI.s (evi_enum T.b_enumerate (ev_nm 0 rfl) rfl)) (evg_t2 2 3 (fun _ => sc_check_orders.nd)) (fun _ => [some (.fz (.lst (os.map dis))), some (ti n), none, none]) rfl (fun _ => rfl) (fun j d hd => ?_)) rns_nil
  obtain ⟨x, hx, rfl⟩ := enu_get hd
  obtain ⟨o, ho', rfl⟩ := map_get hx
  obtain ⟨o1, o2, o3⟩ := ho o (List.mem_of_getElem? ho')
  refine ⟨_, _, rfl, rns_one (rn_skip (Et.s (et_ne (ev_lenset T.b_len T.b_set (ev_nm 3 rfl) rfl (by omega)) (ev_len T.b_len (ev_nm 3 rfl) (.inl rfl)))) ?_), [2, 3], rfl⟩
  rw [unlike_nodup o1, List.length_map]
  simp
abbrev s_table_of : Stmt := top 15
theorem sc_table_of : FnScope ["counts", "orders"] ["counts", "orders"] (defScope s_table_of) := ⟨rfl, rfl, rfl, by decide +kernel, rfl, by decide +kernel, by decide +kernel⟩
def rTab (dd : List Dv) (t : Tr) : Prop := ∃ (c : List Int) (os : List (List Int)), TabOk c os ∧ dd = [dis c, .lst (os.map dis)] ∧ t = .tp [tInts c, tRows os]
theorem ok_table_of {f f1 : Addr} {fd fd1 : FuncData} {k : Nat} (F : Fun K "table_of" "table_of" s_table_of f fd) (T : Txt mg) (K_check_orders : Kn P w K mg base CX0 (k + 1) "check_orders" f1 fd1 ["orders", "many"] (spT K rCheck)) : FnOk P w K mg base CX0 (k + 2) f fd ["counts", "orders"] (spT K rTab) := by
  refine fn_ok F.d sc_table_of (fun dd t h => by obtain ⟨_, _, _, rfl, _⟩ := h; rfl) fun dd t h => ?_
  obtain ⟨c, os, ok, rfl, rfl⟩ := h
  refine ⟨_, .inl rfl, ?_⟩
  have big : 1000 < sizeLine := by decide
  have c6 := ok.c6
  have o6 := ok.o6
  have o1 := ok.o1
  obtain ⟨tk, gm⟩ := T.g_MOST
  obtain ⟨tk2, gm2⟩ := T.g_MOST_COUNT
  refine rns_cons (rn_skip (Et.s (Ew.et (ew_or (et_gt (ev_len T.b_len (ev_nm 0 rfl) (.inl rfl)) (ev_glob (v := .int 6) gm ⟨_, rfl⟩ rfl)) fun _ => (ew_or1 (et_gt (ev_len T.b_len (ev_nm 1 rfl) (.inl rfl)) (ev_glob (v := .int 6) gm ⟨_, rfl⟩ rfl)))))) ?_) ?_
  · rw [List.length_map, List.length_map, decide_eq_false (by omega), decide_eq_false (by omega)]; rfl
  refine rns_cons (rn_skip (Et.s (et_eq (ev_len T.b_len (ev_nm 1 rfl) (.inl rfl)) ev_int)) ?_) ?_
  · rw [List.length_map, decide_eq_false (by omega)]
  refine rns_cons (rn_skip (Et.s (et_val (ev_any (bs := c.map fun x => decide (x < 0) || decide (9 < x)) T.b_any (ev_lcm (own := ["count"]) (fr := []) c di (fun x => tb (decide (x < 0) || decide (9 < x))) (fun i => lcs ⟨rfl, rfl, by decide +kernel, by decide +kernel, by decide +kernel, by decide +kernel⟩) (evi_list (ev_nm 0 rfl) rfl) (evg_nm 0 (fun _ => by show List.Nodup (["count"] : List Str); decide)) (by decide) (by omega) (fun x hx => ⟨_, rfl, by exact ev_or (ev_lt (ev_nm 0 rfl) ev_int) fun _ => ev_one (ev_gt (ev_nm 0 rfl) (ev_glob (v := .int 9) gm2 ⟨_, rfl⟩ rfl))⟩) (fun dd => by cases dd <;> rfl)) (er_mapB c _)))) ?_) ?_
  · rw [List.any_eq_false]
    intro b hb
    obtain ⟨x, hx, rfl⟩ := List.mem_map.mp hb
    obtain ⟨x0, x1⟩ := ok.cnt x hx
    simp only [id, decide_eq_false (show ¬ x < 0 by omega), decide_eq_false (show ¬ 9 < x by omega)]
    decide
  refine rns_cons (rn_expr (Ev.s (ev_call K_check_orders (Nat.le_refl _) (eva_cons (ev_nm 1 rfl) (eva_cons (ev_len T.b_len (ev_nm 0 rfl) (.inl rfl)) eva_nil)) ⟨os, c.length, fun o ho => ⟨ok.nd o ho, Nat.le_trans (ok.olen ho) (by decide), ok.rng o ho⟩, ?_, rfl⟩))) ?_
  rotate_left
  · rw [List.length_map]; rfl
  refine rns_one (rn_ret (Ev.s (Ev.to (ev_tup (eva_cons (ev_list T.b_list (ev_nm 0 rfl) (.inl rfl)) (eva_cons (ev_lcm (own := ["order"]) (fr := []) os dis tInts (fun i => lcs ⟨rfl, rfl, by decide +kernel, by decide +kernel, by decide +kernel, by decide +kernel⟩) (evi_list (ev_nm 1 rfl) rfl) (evg_nm 0 (fun _ => by show List.Nodup (["order"] : List Str); decide)) (by decide) (by omega) (fun o ho => ⟨_, rfl, Ev.to (ev_list T.b_list (ev_nm 0 rfl) (.inl rfl)) (by rw [ints_tr])⟩) (fun dd => by cases dd <;> rfl)) eva_nil)) (by show 2 ≤ sizeLine; decide)) (by rw [ints_tr]))))
abbrev s_full_order : Stmt := top 16
theorem sc_full_order : FnScope ["table", "asker", "many", "order"] ["table", "asker"] (defScope s_full_order) := ⟨rfl, rfl, rfl, by decide +kernel, rfl, by decide +kernel, by decide +kernel⟩
def rFull (dd : List Dv) (t : Tr) : Prop := ∃ (c : List Int) (os : List (List Int)) (a : Int) (o : List Int), c.length ≤ 100 ∧ o.length ≤ 100 ∧ atI os a = some o ∧ dd = [tabD c os, di a] ∧ t = tInts (fullF c.length o)
theorem atI_map {α β : Type} (f : α → β) {l : List α} {k : Int} {x : α} (h : atI l k = some x) : atI (l.map f) k = some (f x) := by
  unfold atI at h ⊢
  rw [List.length_map]
  cases q : ixN l.length k with
  | none => rw [q] at h; cases h
  | some j =>
    rw [q] at h
    show (l.map f)[j]? = _
    have h' : l[j]? = some x := h
    rw [List.getElem?_map, h']; rfl
theorem ok_full_order {f : Addr} {fd : FuncData} {k : Nat} (F : Fun K "full_order" "full_order" s_full_order f fd) (T : Txt mg) : FnOk P w K mg base CX0 (k + 1) f fd ["table", "asker"] (spT K rFull) := by
  refine fn_ok F.d sc_full_order (fun dd t h => by obtain ⟨_, _, _, _, _, _, _, rfl, _⟩ := h; rfl) fun dd t h => ?_
  obtain ⟨c, os, a, o, h1, h2, h3, rfl, rfl⟩ := h
  refine ⟨_, .inl rfl, ?_⟩
  have big : 1000 < sizeLine := by decide
  refine rns_cons (rn_set 2 (Ev.s (ev_len T.b_len (ev_ixT (d := dis c) (ev_nm 0 rfl) ev_int rfl rfl) (.inl rfl))) (fun _ => sc_full_order.nd)) ?_
  refine rns_cons (rn_set 3 (Ev.s (ev_ix (d := dis o) (ev_ixT (d := .lst (os.map dis)) (ev_nm 0 rfl) ev_int rfl rfl) (ev_nm 1 rfl) rfl (atI_map dis h3))) (fun _ => sc_full_order.nd)) ?_
  rw [List.length_map]
  refine rns_one (rn_ret (Ev.s (Ev.to (ev_cat (ev_cat (ev_nm 3 rfl) (ev_lst (eva_cons (ev_nm 2 rfl) eva_nil) (by show 1 ≤ sizeLine; decide)) rfl rfl ?_) (ev_lc (own := ["thing"]) (fr := [3]) (fun i => lcs ⟨rfl, rfl, by decide +kernel, by decide +kernel, by decide +kernel, by decide +kernel⟩) (evi_range1 T.b_range (ev_nm 2 rfl) ⟨by omega, by omega⟩) (evg_nm 0 (fun _ => by show List.Nodup (["thing", "order"] : List Str); decide)) (by decide) (fun k => !o.contains (0 + ((k : Nat) : Int))) (fun k => ti (0 + ((k : Nat) : Int))) ?_ (fun k d hd => ?_) (fun dd => ?_)) (er_fzs _) (er_map _ _) ?_) ?_)))
  · show (o.map di).length + 1 ≤ sizeLine
    rw [List.length_map]; omega
  · rw [List.length_map, List.length_range]; omega
  · obtain ⟨hi, rfl⟩ := rng_get hd
    exact ⟨_, rfl, el_one (et_notin (ev_nm 0 rfl) (ev_nm 1 rfl) rfl (by with_unfolding_all rfl)), fun _ => ev_nm 0 rfl⟩
  · cases dd <;> rfl
  · have e : (rngD 0 ((c.length : Nat) : Int).toNat).length = c.length := by simp
    rw [e]
    show ((o.map di) ++ [di _]).length + ((restF c.length o).map di).length ≤ sizeLine
    have := restF_len c.length o
    simp only [List.length_append, List.length_map, List.length_singleton]
    omega
  · have e : (rngD 0 ((c.length : Nat) : Int).toNat).length = c.length := by simp
    rw [e]
    show Tr.ow ((((o.map di) ++ [di _]) ++ ((restF c.length o).map di)).map .fz) = Tr.ow ((o ++ [(c.length : Int)] ++ restF c.length o).map _)
    simp only [List.map_append, List.map_map]
    rfl
def topAt (tops : List Int) (x : Int) : Int := tops.getD x.toNat 0
structure RowOk (W : Int) (n : Nat) (tops : List Int) : Prop where
  w0 : 0 < W
  w1 : W < 2 ^ 70
  len : tops.length = n + 1
  t0 : ∀ t ∈ tops, 0 ≤ t ∧ t ≤ W
theorem topAt_ok {W : Int} {n : Nat} {tops : List Int} (h : RowOk W n tops) (x : Int) : 0 ≤ topAt tops x ∧ topAt tops x ≤ W := by
  unfold topAt
  rw [List.getD_eq_getElem?_getD]
  cases q : tops[x.toNat]? with
  | none => exact ⟨Int.le_refl _, Int.le_of_lt h.w0⟩
  | some t => exact h.t0 t (List.mem_of_getElem? q)
theorem rowAt {W : Int} {n : Nat} {tops : List Int} (h : RowOk W n tops) {x : Int} (x0 : 0 ≤ x) (x1 : x ≤ n) : atI ((tops.map (fW W)).map dF) x = some (dF (fW W (topAt tops x))) := by
  obtain ⟨m, rfl⟩ : ∃ m : Nat, x = (m : Int) := ⟨x.toNat, by omega⟩
  have hm : m < tops.length := by rw [h.len]; omega
  refine atI_nat ?_
  unfold topAt
  rw [List.getElem?_map, List.getElem?_map, List.getD_eq_getElem?_getD, Int.toNat_natCast, List.getElem?_eq_getElem hm]; rfl
def dRow (W : Int) (tops : List Int) : Dv := .lst ((tops.map (fW W)).map dF)
theorem okD_dF (p : Int × Int) : okD (dF p) = true := rfl
theorem dpD_dF (p : Int × Int) : dpD (dF p) ≤ 1 := by
  show dpDs _ + 1 ≤ 1
  exact Nat.succ_le_succ (dpDs_le fun d hd => by
    rcases List.mem_cons.mp hd with rfl | hd
    · exact Nat.le_refl _
    · rw [List.mem_singleton.mp hd]; exact Nat.le_refl _)
theorem frac1 (c : Int) : (lT c 1, lB c 1) = (c, 1) := by
  have := l_unique (t := c) (b := 1) (p := c) (q := 1) (by decide) (by decide) (by simp) (by rfl)
  rw [← this.1, ← this.2]
end
end K22
namespace K22
open PySem L2 Fra
section
variable {P : Program} {w : World} {K : PySem.W.Frag} {mg : Str → Option Value} {base : Heap}
abbrev s__law_cell_at : Stmt := top 21
theorem sc__law_cell_at : FnScope ["_law_script", "_law_k"] ["_law_script", "_law_k"] (defScope s__law_cell_at) := ⟨rfl, rfl, rfl, by decide +kernel, rfl, by decide +kernel, by decide +kernel⟩
def rCell (dd : List Dv) (t : Tr) : Prop := ∃ (ns : List Int) (k : Int), 0 ≤ k ∧ dd = [dis ns, di k] ∧ t = ti (cellF ns k)
theorem ok__law_cell_at {f : Addr} {fd : FuncData} {k : Nat} (F : Fun K "_law_cell_at" "_law_cell_at" s__law_cell_at f fd) (T : Txt mg) : FnOk P w K mg base CX0 (k + 1) f fd ["_law_script", "_law_k"] (spT K rCell) := by
  refine fn_ok F.d sc__law_cell_at (fun dd t h => by obtain ⟨_, _, _, rfl, _⟩ := h; rfl) fun dd t h => ?_
  obtain ⟨ns, j, hj, rfl, rfl⟩ := h
  refine ⟨_, .inl rfl, ?_⟩
  by_cases hl : j < ns.length
  · refine rns_ret (rn_ifT (Et.s (et_lt (ev_nm 1 rfl) (ev_len T.b_len (ev_nm 0 rfl) (.inl rfl)))) ?_ (rns_one (rn_ret (Ev.s (ev_ix (ev_nm 0 rfl) (ev_nm 1 rfl) rfl ?_)))))
    · rw [List.length_map]; exact decide_eq_true hl
    · exact cell_in hj hl
  · refine rns_cons (rn_skip (Et.s (et_lt (ev_nm 1 rfl) (ev_len T.b_len (ev_nm 0 rfl) (.inl rfl)))) ?_) ?_
    · rw [List.length_map]; exact decide_eq_false hl
    · rw [cell_out hj (by omega)]
      exact rns_one (rn_ret (Ev.s ev_int))
def strK (cell : Int) : Nat → Int × List Int
  | 0 => (cell % 2147483629 + 7, [])
  | k + 1 => (((strK cell k).1 * (strK cell k).1 + 48271 * (strK cell k).1 + (0 + ((k : Nat) : Int))) % 2147483647, (strK cell k).2 ++ [((strK cell k).1 * (strK cell k).1 + 48271 * (strK cell k).1 + (0 + ((k : Nat) : Int))) % 2147483647 / 16])
def strF (cell : Int) (n : Nat) : List Int := (strK cell n).2
theorem strK_ok (cell : Int) : ∀ k, 0 ≤ (strK cell k).1 ∧ (strK cell k).1 < 2147483648 ∧ (strK cell k).2.length = k
  | 0 => by
    have a := Int.emod_nonneg cell (show (2147483629 : Int) ≠ 0 by decide)
    have b := Int.emod_lt_of_pos cell (show (0 : Int) < 2147483629 by decide)
    show 0 ≤ cell % 2147483629 + 7 ∧ cell % 2147483629 + 7 < 2147483648 ∧ _
    exact ⟨by omega, by omega, rfl⟩
  | k + 1 => by
    obtain ⟨_, _, h⟩ := strK_ok cell k
    refine ⟨Int.emod_nonneg _ (by decide), Int.lt_trans (Int.emod_lt_of_pos _ (by decide)) (by decide), ?_⟩
    show ((strK cell k).2 ++ [_]).length = _
    rw [List.length_append, h]; rfl
abbrev s__law_stream : Stmt := top 22
theorem sc__law_stream : FnScope ["_law_cell", "_law_many", "_law_drawn_here", "_law_found", "_law_k"] ["_law_cell", "_law_many"] (defScope s__law_stream) := ⟨rfl, rfl, rfl, by decide +kernel, rfl, by decide +kernel, by decide +kernel⟩
def rStream (dd : List Dv) (t : Tr) : Prop := ∃ (cell : Int) (n : Nat), n ≤ 100 ∧ dd = [di cell, di n] ∧ t = tInts (strF cell n)
theorem ok__law_stream {f : Addr} {fd : FuncData} {k : Nat} (F : Fun K "_law_stream" "_law_stream" s__law_stream f fd) (T : Txt mg) : FnOk P w K mg base CX0 (k + 1) f fd ["_law_cell", "_law_many"] (spT K rStream) := by
  refine fn_ok F.d sc__law_stream (fun dd t h => by obtain ⟨_, _, _, rfl, _⟩ := h; rfl) fun dd t h => ?_
  obtain ⟨cell, n, hn, rfl, rfl⟩ := h
  refine ⟨_, .inl rfl, ?_⟩
  have big : 1000 < sizeLine := by decide
  refine rns_cons (rn_set 2 (Ev.s (ev_add (ev_mod (ev_nm 0 rfl) ev_int (by decide)) ev_int)) (fun _ => sc__law_stream.nd)) ?_
  refine rns_cons (rn_set 3 (Ev.s (ev_lst eva_nil (Nat.zero_le _))) (fun _ => sc__law_stream.nd)) ?_
  refine rns_cons (rn_for (EvI.s (evi_range1 T.b_range (ev_nm 1 rfl) ⟨by omega, by omega⟩)) (evg_nm 4 (fun _ => sc__law_stream.nd)) (fun k => [some (ti cell), some (ti n), some (ti (strK cell k).1), some (tInts (strK cell k).2), none]) rfl (fun _ => rfl) (fun j d hd => ?_)) ?_
  · obtain ⟨hj, rfl⟩ := rng_get hd
    obtain ⟨d0, d1, dl⟩ := strK_ok cell j
    have e : strK cell (j + 1) = (((strK cell j).1 * (strK cell j).1 + 48271 * (strK cell j).1 + (0 + ((j : Nat) : Int))) % 2147483647, (strK cell j).2 ++ [((strK cell j).1 * (strK cell j).1 + 48271 * (strK cell j).1 + (0 + ((j : Nat) : Int))) % 2147483647 / 16]) := rfl
    rw [e]
    generalize strK cell j = s at d0 d1 dl
    obtain ⟨x, l⟩ := s
    simp only at d0 d1 dl ⊢
    refine ⟨_, _, rfl, rns_cons (rn_set 2 (Ev.s (ev_mod (ev_add (ev_add (ev_mulS (ev_nm 2 rfl) (ev_nm 2 rfl) (.inl ⟨by omega, by omega⟩)) (ev_mulS ev_int (ev_nm 2 rfl) (.inr ⟨by omega, by omega⟩))) (ev_nm 4 rfl)) ev_int (by decide))) (fun _ => sc__law_stream.nd))
      (rns_one (rn_append 3 rfl (Ev.s (ev_div (ev_nm 2 rfl) ev_int ⟨by decide, small_lt (by decide) (by decide)⟩)) (by rw [List.length_map]; omega))), [4], ?_⟩
    show [_, _, _, some (Tr.ow (_ ++ [_])), _] = [_, _, _, some (Tr.ow _), _]
    rw [List.map_append]
    rfl
  · rw [List.length_map, List.length_range]
    show Rns _ _ [_, _, _, some (tInts (strK cell n).2), _] _
    exact rns_one (rn_retO 3 rfl)
def popS (some_ : List Int) (left : List Int) : Nat → List Int × List Int
  | 0 => (left, [])
  | k + 1 => ((popS some_ left k).1.eraseIdx ((some_.getD k 0) % (popS some_ left k).1.length).toNat, (popS some_ left k).2 ++ [(((popS some_ left k).1)[((some_.getD k 0) % (popS some_ left k).1.length).toNat]?).getD 0])
theorem popS_perm (sm left : List Int) : ∀ k, k ≤ left.length → ((popS sm left k).2 ++ (popS sm left k).1).Perm left ∧ (popS sm left k).1.length = left.length - k ∧ (popS sm left k).2.length = k
  | 0, _ => ⟨.refl _, by simp [popS], rfl⟩
  | k + 1, hk => by
    obtain ⟨h1, h2, h3⟩ := popS_perm sm left k (by omega)
    have e : popS sm left (k + 1) = ((popS sm left k).1.eraseIdx ((sm.getD k 0) % (popS sm left k).1.length).toNat, (popS sm left k).2 ++ [(((popS sm left k).1)[((sm.getD k 0) % (popS sm left k).1.length).toNat]?).getD 0]) := rfl
    rw [e]
    generalize popS sm left k = s at *
    obtain ⟨l, o⟩ := s
    generalize sm.getD k 0 = c
    have hl : 0 < l.length := by have : l.length = left.length - k := h2; omega
    have m0 := Int.emod_nonneg c (show (l.length : Int) ≠ 0 by omega)
    have m1 := Int.emod_lt_of_pos c (show 0 < (l.length : Int) by omega)
    have hml : (c % l.length).toNat < l.length := by omega
    simp only at h1 h2 h3 ⊢
    generalize (c % l.length).toNat = m at hml ⊢
    refine ⟨?_, ?_, by rw [List.length_append]; have : o.length = k := h3; simp [this]⟩
    · rw [List.getElem?_eq_getElem hml, Option.getD_some, List.append_assoc]
      exact (List.Perm.append_left o (erase_perm hml)).trans h1
    · rw [List.length_eraseIdx_of_lt hml]
      omega
def orderS (cell : Int) (n : Nat) : List Int :=
  if (strF (cell / 4) (n + 2)).getD n 0 % 3 = 0 then cutD (popS (strF (cell / 4) (n + 2)) (numsF n) n).2 none (some ((strF (cell / 4) (n + 2)).getD (n + 1) 0 % ((n : Int) + 1))) else (popS (strF (cell / 4) (n + 2)) (numsF n) n).2
theorem nums_len (n : Nat) : (numsF n).length = n := by unfold numsF; rw [List.length_map, List.length_range]
theorem orderS_sub (cell : Int) (n : Nat) : (orderS cell n).Sublist (popS (strF (cell / 4) (n + 2)) (numsF n) n).2 := by
  unfold orderS
  split
  · unfold cutD
    exact (List.take_sublist _ _).trans (List.drop_sublist _ _)
  · exact .refl _
theorem orderS_ok (cell : Int) (n : Nat) : (orderS cell n).Nodup ∧ ∀ x ∈ orderS cell n, 0 ≤ x ∧ x < n := by
  obtain ⟨h, _⟩ := popS_perm (strF (cell / 4) (n + 2)) (numsF n) n (by rw [nums_len]; exact Nat.le_refl _)
  have s := orderS_sub cell n
  refine ⟨((List.nodup_append.mp (h.nodup_iff.mpr (nums_nodup n))).1).sublist s, fun x hx => mem_nums.mp (h.mem_iff.mp (List.mem_append_left _ (s.subset hx)))⟩
abbrev s__law_order : Stmt := top 23
theorem sc__law_order : FnScope ["_law_cell", "_law_many", "_law_some", "_law_left", "_law_order_here", "_law_k"] ["_law_cell", "_law_many"] (defScope s__law_order) := ⟨rfl, rfl, rfl, by decide +kernel, rfl, by decide +kernel, by decide +kernel⟩
def rOrder (dd : List Dv) (t : Tr) : Prop := ∃ (cell : Int) (n : Nat), n ≤ 6 ∧ dd = [di cell, di n] ∧ t = tInts (orderS cell n)
theorem ok__law_order {f f1 : Addr} {fd fd1 : FuncData} {k : Nat} (F : Fun K "_law_order" "_law_order" s__law_order f fd) (T : Txt mg) (K__law_stream : Kn P w K mg base CX0 (k + 1) "_law_stream" f1 fd1 ["_law_cell", "_law_many"] (spT K rStream)) : FnOk P w K mg base CX0 (k + 2) f fd ["_law_cell", "_law_many"] (spT K rOrder) := by
  refine fn_ok F.d sc__law_order (fun dd t h => by obtain ⟨_, _, _, rfl, _⟩ := h; rfl) fun dd t h => ?_
  obtain ⟨cell, n, hn, rfl, rfl⟩ := h
  refine ⟨_, .inl rfl, ?_⟩
  have big : 1000 < sizeLine := by decide
  have sl : (strF (cell / 4) (n + 2)).length = n + 2 := (strK_ok (cell / 4) (n + 2)).2.2
  have popP := popS_perm (strF (cell / 4) (n + 2)) (numsF n)
  have fin0 : orderS cell n = if (strF (cell / 4) (n + 2)).getD n 0 % 3 = 0 then cutD (popS (strF (cell / 4) (n + 2)) (numsF n) n).2 none (some ((strF (cell / 4) (n + 2)).getD (n + 1) 0 % ((n : Int) + 1))) else (popS (strF (cell / 4) (n + 2)) (numsF n) n).2 := rfl
  generalize orderS cell n = res at fin0
  have ecall : [di (cell / 4), di ((n : Int) + 2)] = [di (cell / 4), di ((n + 2 : Nat) : Int)] := rfl
  refine rns_cons (rn_set 2 (Ev.s (Ev.as (d := dis (strF (cell / 4) (n + 2))) (ev_call K__law_stream (Nat.le_refl _) (eva_cons (ev_div (ev_nm 0 rfl) ev_int ⟨by decide, small_lt (by decide) (by decide)⟩) (eva_cons (ev_add (ev_nm 1 rfl) ev_int) eva_nil)) ⟨cell / 4, n + 2, by omega, ecall, rfl⟩) (er_tInts _))) (fun _ => sc__law_order.nd)) ?_
  generalize strF (cell / 4) (n + 2) = sm at *
  have sget : ∀ m : Nat, m < n + 2 → atI (sm.map di) ((m : Nat) : Int) = some (di (sm.getD m 0)) := fun m hm => atI_nat (by
    rw [List.getElem?_map, List.getElem?_eq_getElem (by omega), List.getD_eq_getElem?_getD, List.getElem?_eq_getElem (by omega)]; rfl)
  refine rns_cons (rn_set 3 (Ev.s (ev_listrange T.b_list T.b_range (ev_nm 1 rfl) (by omega) (by omega))) (fun _ => sc__law_order.nd)) ?_
  refine rns_cons (rn_set 4 (Ev.s (ev_lst eva_nil (Nat.zero_le _))) (fun _ => sc__law_order.nd)) ?_
  refine rns_cons (rn_for (EvI.s (evi_range1 T.b_range (ev_nm 1 rfl) ⟨by omega, by omega⟩)) (evg_nm 5 (fun _ => sc__law_order.nd)) (fun k => [some (ti cell), some (ti n), some (.fz (dis sm)), some (tInts (popS sm (numsF n) k).1), some (tInts (popS sm (numsF n) k).2), none]) rfl (fun _ => rfl) (fun j d hd => ?_)) ?_
  · obtain ⟨hj, rfl⟩ := rng_get hd
    have hj' : j < n := by omega
    obtain ⟨p1, p2, p3⟩ := popP j (by rw [nums_len]; omega)
    rw [nums_len] at p2
    have e : popS sm (numsF n) (j + 1) = ((popS sm (numsF n) j).1.eraseIdx ((sm.getD j 0) % (popS sm (numsF n) j).1.length).toNat, (popS sm (numsF n) j).2 ++ [(((popS sm (numsF n) j).1)[((sm.getD j 0) % (popS sm (numsF n) j).1.length).toNat]?).getD 0]) := rfl
    have sj : atI (sm.map di) (0 + (j : Int)) = some (di (sm.getD j 0)) := by
      have := sget j (by omega)
      rwa [Int.zero_add]
    rw [e]
    generalize popS sm (numsF n) j = s at p1 p2 p3
    obtain ⟨l, o⟩ := s
    generalize sm.getD j 0 = c at sj
    simp only at p1 p2 p3 ⊢
    have hl : 0 < (l.length : Int) := by omega
    have hl6 : (l.length : Int) ≤ 6 := by omega
    have m0 := Int.emod_nonneg c (show (l.length : Int) ≠ 0 by omega)
    have m1 := Int.emod_lt_of_pos c hl
    have el : (ers (l.map fun n => Tr.fz (di n))).length = l.length := by rw [ers_map, List.length_map, List.length_map]
    refine ⟨_, _, rfl, rns_one (rn_append_pop 4 3 (d := di ((l[(c % l.length).toNat]?).getD 0)) (n := c % l.length) (m := (c % l.length).toNat) (by decide) rfl rfl (EvS.to (t' := ti (c % l.length)) (Ev.pk (ev_mod (ev_ix (ev_nm 2 rfl) (ev_nm 5 rfl) rfl sj) (ev_len T.b_len (ev_nm 3 rfl) (.inl rfl)) (by rw [el]; exact hl)) True.intro) (by rw [el])) ?_ ⟨by omega, by omega⟩ ?_ ?_), [5], ?_⟩
    · rw [List.length_map]
      unfold ixN
      rw [if_pos m0, if_pos m1]
    · rw [List.getElem?_map, List.getElem?_eq_getElem (show (c % l.length).toNat < l.length by omega)]
      rfl
    · rw [List.length_map]; omega
    · show [_, _, _, some (Tr.ow (List.eraseIdx _ _)), some (Tr.ow (_ ++ [_])), _] = [_, _, _, some (Tr.ow _), some (Tr.ow _), _]
      rw [List.map_append, erase_map]
      rfl
  · rw [List.length_map, List.length_range, Int.toNat_natCast]
    generalize hp : (popS sm (numsF n) n).2 = pp at fin0
    generalize (popS sm (numsF n) n).1 = ll
    show Rns _ _ [some (ti cell), some (ti n), some (.fz (dis sm)), some (tInts ll), some (tInts pp), none] _
    have s1 := sget n (by omega)
    have s2 := sget (n + 1) (by omega)
    have s2' : atI (sm.map di) ((n : Int) + 1) = some (di (sm.getD (n + 1) 0)) := s2
    cases h3 : decide (sm.getD n 0 % 3 = 0) with
    | true =>
      rw [if_pos (of_decide_eq_true h3)] at fin0
      refine rns_cons (ρ1 := [some (ti cell), some (ti n), some (.fz (dis sm)), some (tInts ll), some (tInts res), none]) (rn_ifT (Et.s (et_eq (ev_mod (ev_ix (ev_nm 2 rfl) (ev_nm 1 rfl) rfl s1) ev_int (by decide)) ev_int)) h3 (rns_one (rn_set 4 (EvS.to (t' := tInts res) (Ev.pk (ev_slice (ev_nm 4 rfl) (er_tInts pp) eo_none (eo_some (ev_mod (ev_ix (ev_nm 2 rfl) (ev_add (ev_nm 1 rfl) ev_int) rfl s2') (ev_add (ev_nm 1 rfl) ev_int) (by omega)))) ?_) ?_) (fun _ => sc__law_order.nd)))) (rns_one (rn_retO 4 rfl))
      · rw [cutD_map, ints_tr]
        exact cl_ints _
      · rw [cutD_map, ints_tr, fin0]
    | false =>
      rw [if_neg (of_decide_eq_false h3)] at fin0
      rw [fin0]
      exact rns_cons (rn_skip (Et.s (et_eq (ev_mod (ev_ix (ev_nm 2 rfl) (ev_nm 1 rfl) rfl s1) ev_int (by decide)) ev_int)) h3) (rns_one (rn_retO 4 rfl))
theorem atI_last {α : Type} {l : List α} {x : α} : atI (l ++ [x]) (-1) = some x := by
  unfold atI ixN
  rw [if_neg (by decide), if_pos (by rw [List.length_append]; simp; omega)]
  show (l ++ [x])[_]? = _
  have e : (-1 + ((l ++ [x]).length : Int)).toNat = l.length := by rw [List.length_append, List.length_singleton]; omega
  rw [e, List.getElem?_append_right (Nat.le_refl _), Nat.sub_self]; rfl
theorem eq_nil {α : Type} (f : α → Dv) : ∀ L : List α, eqD (.lst (L.map f)) (.lst []) = L.isEmpty
  | [] => rfl
  | _ :: _ => rfl
def lastF (L : List (List Int)) : List Int := L.getLast?.getD []
theorem atI_lastF {L : List (List Int)} (h : L.isEmpty = false) : atI (L.map dis) (-1) = some (dis (lastF L)) := by
  rcases List.eq_nil_or_concat L with rfl | ⟨l, x, rfl⟩
  · cases h
  · unfold lastF
    rw [List.map_concat, List.concat_eq_append, atI_last, List.concat_eq_append, List.getLast?_append]; rfl
theorem lastF_mem {L : List (List Int)} (h : L.isEmpty = false) : lastF L ∈ L := by
  rcases List.eq_nil_or_concat L with rfl | ⟨l, x, rfl⟩
  · cases h
  · unfold lastF
    rw [List.concat_eq_append, List.getLast?_append]; simp
def ordL (cells : List Int) (n : Nat) : Nat → List (List Int)
  | 0 => []
  | k + 1 => ordL cells n k ++ [if decide (cells.getD k 0 % 4 = 0) && !(ordL cells n k).isEmpty then lastF (ordL cells n k) else orderS (cells.getD k 0) n]
theorem ordL_ok (cells : List Int) (n : Nat) : ∀ k, (ordL cells n k).length = k ∧ ∀ o ∈ ordL cells n k, o.Nodup ∧ ∀ x ∈ o, 0 ≤ x ∧ x < n
  | 0 => ⟨rfl, fun _ h => nomatch h⟩
  | k + 1 => by
    obtain ⟨h1, h2⟩ := ordL_ok cells n k
    refine ⟨by show (ordL cells n k ++ [_]).length = _; rw [List.length_append, h1]; rfl, fun o ho => ?_⟩
    have ho' : o ∈ ordL cells n k ++ [if decide (cells.getD k 0 % 4 = 0) && !(ordL cells n k).isEmpty then lastF (ordL cells n k) else orderS (cells.getD k 0) n] := ho
    rcases List.mem_append.mp ho' with z | z
    · exact h2 o z
    · rw [List.mem_singleton] at z
      subst z
      split
      · rename_i q
        rw [Bool.and_eq_true] at q
        exact h2 _ (lastF_mem (by have := q.2; revert this; cases (ordL cells n k).isEmpty <;> decide))
      · exact orderS_ok _ _
abbrev s__law_orders : Stmt := top 24
theorem sc__law_orders : FnScope ["_law_cells", "_law_many", "_law_orders_here", "_law_cell"] ["_law_cells", "_law_many"] (defScope s__law_orders) := ⟨rfl, rfl, rfl, by decide +kernel, rfl, by decide +kernel, by decide +kernel⟩
def rOrders (dd : List Dv) (t : Tr) : Prop := ∃ (cells : List Int) (n : Nat), n ≤ 6 ∧ cells.length ≤ 100 ∧ dd = [dis cells, di n] ∧ t = tRows (ordL cells n cells.length)
theorem ok__law_orders {f f1 : Addr} {fd fd1 : FuncData} {k : Nat} (F : Fun K "_law_orders" "_law_orders" s__law_orders f fd) (T : Txt mg) (K__law_order : Kn P w K mg base CX0 (k + 2) "_law_order" f1 fd1 ["_law_cell", "_law_many"] (spT K rOrder)) : FnOk P w K mg base CX0 (k + 3) f fd ["_law_cells", "_law_many"] (spT K rOrders) := by
  refine fn_ok F.d sc__law_orders (fun dd t h => by obtain ⟨_, _, _, _, rfl, _⟩ := h; rfl) fun dd t h => ?_
  obtain ⟨cells, n, hn, hc, rfl, rfl⟩ := h
  refine ⟨_, .inl rfl, ?_⟩
  have big : 1000 < sizeLine := by decide
  refine rns_cons (rn_set 2 (Ev.s (ev_lst eva_nil (Nat.zero_le _))) (fun _ => sc__law_orders.nd)) ?_
  refine rns_cons (rn_for (EvI.s (evi_list (ev_nm 0 rfl) rfl)) (evg_nm 3 (fun _ => sc__law_orders.nd)) (fun k => [some (.fz (dis cells)), some (ti n), some (tRows (ordL cells n k)), none]) rfl (fun _ => rfl) (fun j d hd => ?_)) ?_
  · obtain ⟨c, hcj, rfl⟩ := map_get hd
    have ec : cells.getD j 0 = c := by rw [List.getD_eq_getElem?_getD, hcj]; rfl
    have hj : j < cells.length := by
      rcases Nat.lt_or_ge j cells.length with z | z
      · exact z
      · rw [List.getElem?_eq_none z] at hcj; cases hcj
    obtain ⟨l1, l2⟩ := ordL_ok cells n j
    have e : ordL cells n (j + 1) = ordL cells n j ++ [if decide (cells.getD j 0 % 4 = 0) && !(ordL cells n j).isEmpty then lastF (ordL cells n j) else orderS (cells.getD j 0) n] := rfl
    rw [e, ec]
    generalize ordL cells n j = L at l1 l2
    have fin : ∀ o : List Int, some (tRows (L ++ [o])) = some (.ow (L.map tInts ++ [tInts o])) := fun o => by
      show some (Tr.ow _) = _
      rw [List.map_append]; rfl
    rw [fin]
    have hz : (L.map tInts).length < sizeLine := by rw [List.length_map]; omega
    have dpL : dpD (er (tRows L)) ≤ 50 := by rw [er_tRows]; exact Nat.le_trans (dpD_rows L) (by decide)
    cases hq : decide (c % 4 = 0) && !L.isEmpty with
    | true =>
      rw [if_pos rfl]
      have hL : L.isEmpty = false := by
        rw [Bool.and_eq_true] at hq
        have := hq.2; revert this; cases L.isEmpty <;> decide
      refine ⟨_, _, rfl, rns_one (rn_ifT (Et.pk (Ew.et (ew_and (et_eq (ev_mod (ev_nm 3 rfl) ev_int (by decide)) ev_int) fun _ => (ew_and1 (et_neS (ev_nm 2 rfl) (ev_lst eva_nil (Nat.zero_le _)) ?_ dpL))))) ?_ (rns_one (rn_append 2 rfl (EvS.to (t' := tInts (lastF L)) (Ev.pk (ev_list T.b_list (ev_ix (ev_nm 2 rfl) (ev_neg ev_int) (er_tRows L) (atI_lastF hL)) (.inl rfl)) (by rw [ints_tr]; exact cl_ints _)) (by rw [ints_tr])) hz))), [3], rfl⟩
      · exact .inl ⟨_, _, rfl, rfl⟩
      · rw [← hq, show er (.fz (er (tRows L))) = .lst (L.map dis) from er_tRows L]
        show (_ && !eqD (.lst (L.map dis)) (.lst [])) = _
        rw [eq_nil]
    | false =>
      rw [if_neg (by decide)]
      refine ⟨_, _, rfl, rns_one (rn_ifF (Et.pk (Ew.et (ew_and (et_eq (ev_mod (ev_nm 3 rfl) ev_int (by decide)) ev_int) fun _ => (ew_and1 (et_neS (ev_nm 2 rfl) (ev_lst eva_nil (Nat.zero_le _)) ?_ dpL))))) ?_ (rns_one (rn_append 2 rfl (Ev.s (ev_call K__law_order (Nat.le_refl _) (eva_cons (ev_nm 3 rfl) (eva_cons (ev_nm 1 rfl) eva_nil)) ⟨c, n, hn, rfl, rfl⟩)) hz))), [3], rfl⟩
      · exact .inl ⟨_, _, rfl, rfl⟩
      · rw [← hq, show er (.fz (er (tRows L))) = .lst (L.map dis) from er_tRows L]
        show (_ && !eqD (.lst (L.map dis)) (.lst [])) = _
        rw [eq_nil]
  · rw [List.length_map]
    exact rns_one (rn_retO 2 rfl)
def cntG (x : Int) : Int := ([1, 1, 0, 2, 1, 3, 1, x / 8 % 10] : List Int).getD (x % 8).toNat 0
theorem cntG_at (x : Int) : atI ([1, 1, 0, 2, 1, 3, 1, x / 8 % 10].map di) (x % 8) = some (di (cntG x)) := by
  have a := Int.emod_nonneg x (show (8 : Int) ≠ 0 by decide)
  have b := Int.emod_lt_of_pos x (show (0 : Int) < 8 by decide)
  unfold cntG
  obtain ⟨m, hm⟩ : ∃ m : Nat, x % 8 = (m : Int) := ⟨(x % 8).toNat, by omega⟩
  rw [hm, Int.toNat_natCast]
  have : m < 8 := by omega
  refine atI_nat ?_
  rw [List.getElem?_map, List.getD_eq_getElem?_getD, List.getElem?_eq_getElem (show m < ([1, 1, 0, 2, 1, 3, 1, x / 8 % 10] : List Int).length from this)]; rfl
theorem cntG_ok (x : Int) : 0 ≤ cntG x ∧ cntG x ≤ 9 := by
  have a := Int.emod_nonneg x (show (8 : Int) ≠ 0 by decide)
  have b := Int.emod_lt_of_pos x (show (0 : Int) < 8 by decide)
  have c := Int.emod_nonneg (x / 8) (show (10 : Int) ≠ 0 by decide)
  have d := Int.emod_lt_of_pos (x / 8) (show (0 : Int) < 10 by decide)
  unfold cntG
  obtain ⟨m, hm⟩ : ∃ m : Nat, x % 8 = (m : Int) := ⟨(x % 8).toNat, by omega⟩
  rw [hm, Int.toNat_natCast]
  generalize x / 8 % 10 = y at c d
  have : m = 0 ∨ m = 1 ∨ m = 2 ∨ m = 3 ∨ m = 4 ∨ m = 5 ∨ m = 6 ∨ m = 7 := by omega
  rcases this with rfl | rfl | rfl | rfl | rfl | rfl | rfl | rfl <;> first | exact ⟨show (0 : Int) ≤ 1 by decide, show (1 : Int) ≤ 9 by decide⟩ | exact ⟨show (0 : Int) ≤ 0 by decide, show (0 : Int) ≤ 9 by decide⟩ | exact ⟨show (0 : Int) ≤ 2 by decide, show (2 : Int) ≤ 9 by decide⟩ | exact ⟨show (0 : Int) ≤ 3 by decide, show (3 : Int) ≤ 9 by decide⟩ | exact ⟨c, show y ≤ 9 by omega⟩
abbrev s__law_counts : Stmt := top 25
theorem sc__law_counts : FnScope ["_law_cell", "_law_many", "_law_found", "_law_one"] ["_law_cell", "_law_many"] (defScope s__law_counts) := ⟨rfl, rfl, rfl, by decide +kernel, rfl, by decide +kernel, by decide +kernel⟩
def countsS (cell : Int) (n : Nat) : List Int := (strF cell n).map cntG
def rCounts (dd : List Dv) (t : Tr) : Prop := ∃ (cell : Int) (n : Nat), n ≤ 100 ∧ dd = [di cell, di n] ∧ t = tInts (countsS cell n)
theorem ok__law_counts {f f1 : Addr} {fd fd1 : FuncData} {k : Nat} (F : Fun K "_law_counts" "_law_counts" s__law_counts f fd) (T : Txt mg) (K__law_stream : Kn P w K mg base CX0 (k + 1) "_law_stream" f1 fd1 ["_law_cell", "_law_many"] (spT K rStream)) : FnOk P w K mg base CX0 (k + 2) f fd ["_law_cell", "_law_many"] (spT K rCounts) := by
  refine fn_ok F.d sc__law_counts (fun dd t h => by obtain ⟨_, _, _, rfl, _⟩ := h; rfl) fun dd t h => ?_
  obtain ⟨cell, n, hn, rfl, rfl⟩ := h
  refine ⟨_, .inl rfl, ?_⟩
  have big : 1000 < sizeLine := by decide
  have sl : (strF cell n).length = n := (strK_ok cell n).2.2
  unfold countsS
  refine rns_cons (rn_set 2 (Ev.s (ev_lst eva_nil (Nat.zero_le _))) (fun _ => sc__law_counts.nd)) ?_
  refine rns_cons (rn_for (EvI.s (evi_list (ev_call K__law_stream (Nat.le_refl _) (eva_cons (ev_nm 0 rfl) (eva_cons (ev_nm 1 rfl) eva_nil)) ⟨cell, n, hn, rfl, rfl⟩) (er_tInts _))) (evg_nm 3 (fun _ => sc__law_counts.nd)) (fun k => [some (ti cell), some (ti n), some (tInts (((strF cell n).map cntG).take k)), none]) rfl (fun _ => rfl) (fun j d hd => ?_)) ?_
  · obtain ⟨x, hx, rfl⟩ := map_get hd
    have hx' : ((strF cell n).map cntG)[j]? = some (cntG x) := by rw [List.getElem?_map, hx]; rfl
    have hl : (((strF cell n).map cntG).take j).length ≤ 100 := by rw [List.length_take, List.length_map]; omega
    rw [take_get hx']
    generalize ((strF cell n).map cntG).take j = L at hl
    refine ⟨_, _, rfl, rns_one (rn_append 2 rfl (Ev.s (ev_ix (ev_lst (eva_cons ev_int (eva_cons ev_int (eva_cons ev_int (eva_cons ev_int (eva_cons ev_int (eva_cons ev_int (eva_cons ev_int (eva_cons (ev_mod (ev_div (ev_nm 3 rfl) ev_int ⟨by decide, small_lt (by decide) (by decide)⟩) ev_int (by decide)) eva_nil)))))))) (by show 8 ≤ sizeLine; decide)) (ev_mod (ev_nm 3 rfl) ev_int (by decide)) rfl (cntG_at x))) (by rw [List.length_map]; omega)), [3], ?_⟩
    show [_, _, some (Tr.ow (_ ++ [_])), _] = [_, _, some (Tr.ow _), _]
    rw [List.map_append]; rfl
  · rw [List.length_map, List.take_of_length_le (by rw [List.length_map]; exact Nat.le_refl _)]
    exact rns_one (rn_retO 2 rfl)
end
end K22
namespace K22
open PySem L2 Fra
section
variable {P : Program} {w : World} {K : PySem.W.Frag} {mg : Str → Option Value} {base : Heap}
abbrev s__law_divisor : Stmt := top 26
theorem sc__law_divisor : FnScope ["_law_one", "_law_other"] ["_law_one", "_law_other"] (defScope s__law_divisor) := ⟨rfl, rfl, rfl, by decide +kernel, rfl, by decide +kernel, by decide +kernel⟩
def rDivisor (dd : List Dv) (t : Tr) : Prop := ∃ a b : Int, 0 ≤ a ∧ 0 ≤ b ∧ dd = [di a, di b] ∧ t = ti (gc a b)
theorem ok__law_divisor {f : Addr} {fd : FuncData} {k : Nat} (F : Fun K "_law_divisor" "_law_divisor" s__law_divisor f fd) (T : Txt mg) : FnOk P w K mg base CX0 (k + 1) f fd ["_law_one", "_law_other"] (spT K rDivisor) := by
  refine fn_ok F.d sc__law_divisor (fun dd t h => by obtain ⟨_, _, _, _, rfl, _⟩ := h; rfl) fun dd t h => ?_
  obtain ⟨a, b, ha, hb, rfl, rfl⟩ := h
  refine ⟨_, .inl rfl, ?_⟩
  refine rns_while_by (fun p : Int × Int => [some (ti p.1), some (ti p.2)]) (fun p => 0 ≤ p.1 ∧ 0 ≤ p.2 ∧ gc p.1 p.2 = gc a b) (fun p => decide (0 < p.2)) (fun p => p.2.toNat) (a, b) rfl ⟨ha, hb, rfl⟩ (fun p hp => Et.s (et_gt (ev_nm 1 rfl) ev_int)) (fun p hp h => ?_) (fun p hp h => ?_)
  · obtain ⟨x, y⟩ := p
    obtain ⟨h1, h2, h3⟩ := hp
    have hy : 0 < y := by simpa using h
    have l1 := Int.emod_lt_of_pos x hy
    have l2 := Int.emod_nonneg x (show y ≠ 0 by omega)
    refine ⟨(y, x % y), ⟨h2, l2, ?_⟩, ?_, rns_one (rn_par 0 1 (Ev.s (ev_nm 1 rfl)) (Ev.s (ev_mod (ev_nm 0 rfl) (ev_nm 1 rfl) hy)) (fun _ => sc__law_divisor.nd))⟩
    · show gc y (x % y) = _
      rw [gc_step]; exact h3
    · show (x % y).toNat < y.toNat
      omega
  · obtain ⟨x, y⟩ := p
    obtain ⟨h1, h2, h3⟩ := hp
    have hy0 : y = 0 := by
      have q : ¬ (0 < y) := by simpa using h
      have : 0 ≤ y := h2
      omega
    have h3' : gc x y = gc a b := h3
    have h1' : 0 ≤ x := h1
    have e : gc a b = x := by rw [← h3', hy0, gc_zero]; omega
    rw [e]
    exact rns_one (rn_ret (Ev.s (ev_nm 0 rfl)))
abbrev s__law_lowest : Stmt := top 27
theorem sc__law_lowest : FnScope ["_law_top", "_law_bottom", "_law_by"] ["_law_top", "_law_bottom"] (defScope s__law_lowest) := ⟨rfl, rfl, rfl, by decide +kernel, rfl, by decide +kernel, by decide +kernel⟩
theorem ok__law_lowest {f f1 : Addr} {fd fd1 : FuncData} {k : Nat} (F : Fun K "_law_lowest" "_law_lowest" s__law_lowest f fd) (T : Txt mg) (K__law_divisor : Kn P w K mg base CX0 (k + 1) "_law_divisor" f1 fd1 ["_law_one", "_law_other"] (spT K rDivisor)) : FnOk P w K mg base CX0 (k + 2) f fd ["_law_top", "_law_bottom"] (spT K rFrac) := by
  refine fn_ok F.d sc__law_lowest (fun dd t h => by obtain ⟨_, _, _, _, rfl, _⟩ := h; rfl) fun dd t h => ?_
  obtain ⟨a, b, hb, hz, rfl, rfl⟩ := h
  refine ⟨_, .inl rfl, ?_⟩
  have ha : 0 ≤ (if a < 0 then -a else a) := by split <;> omega
  have eg : gc (if a < 0 then -a else a) b = gc a b := by
    rw [show (if a < 0 then -a else a) = (a.natAbs : Int) by split <;> omega]
    have := gc_abs a b
    rw [show (b.natAbs : Int) = b by omega] at this
    exact this
  have gp := gc_pos (a := a) (show b ≠ 0 by omega)
  have gl := gc_le_r (a := a) hb
  refine rns_cons (rn_set 2 (EvS.to (t' := ti (gc a b)) (Ev.s (ev_call K__law_divisor (Nat.le_refl _) (eva_cons (ev_abs T.b_abs (ev_nm 0 rfl)) (eva_cons (ev_nm 1 rfl) eva_nil)) ⟨_, b, ha, by omega, rfl, rfl⟩)) (by rw [eg])) (fun _ => sc__law_lowest.nd)) ?_
  have cd : ∀ i : Int, CDivB i (gc a b) := fun i => ⟨gp, Nat.lt_of_le_of_lt (by omega) hz⟩
  refine rns_one (rn_ret (Ev.s (ev_tupD (eva_cons (ev_div (ev_nm 0 rfl) (ev_nm 2 rfl) (cd _)) (eva_cons (ev_div (ev_nm 1 rfl) (ev_nm 2 rfl) (cd _)) eva_nil)) ?_ (by show 2 ≤ sizeLine; decide))))
  show [di (a / gc a b), di (b / gc a b)] = _
  rw [lT_pos hb, lB_pos hb]
theorem setI (l : List Int) (m : Nat) (v : Int) : (l.map fun n => Tr.fz (di n)).set m (ti v) = (l.set m v).map fun n => Tr.fz (di n) := by rw [List.map_set]
theorem getI {l : List Int} {x : Int} (x0 : 0 ≤ x) (x1 : x < l.length) : atI (l.map di) x = some (di (l.getD x.toNat 0)) := by
  obtain ⟨m, rfl⟩ : ∃ m : Nat, x = (m : Int) := ⟨x.toNat, by omega⟩
  refine atI_nat ?_
  rw [List.getElem?_map, List.getD_eq_getElem?_getD, Int.toNat_natCast, List.getElem?_eq_getElem (by omega)]; rfl
theorem ixI {n : Nat} {x : Int} (x0 : 0 ≤ x) (x1 : x < n) : ixN n x = some x.toNat := by unfold ixN; rw [if_pos x0, if_pos x1]
def anyT (sm : List Int) (n A k : Nat) (s : List Int × List Int) : List Int × List Int :=
  if decide (sm.getD k 0 % ((n : Int) + 1) < n) && decide (0 < s.1.getD (sm.getD k 0 % ((n : Int) + 1)).toNat 0) then (s.1.set (sm.getD k 0 % ((n : Int) + 1)).toNat (s.1.getD (sm.getD k 0 % ((n : Int) + 1)).toNat 0 - 1), s.2.set (((0 : Int) + (k : Int) + sm.getD A 0) % A).toNat (sm.getD k 0 % ((n : Int) + 1))) else s
def anyK (sm : List Int) (c : List Int) (A : Nat) : Nat → List Int × List Int
  | 0 => (c, (numsF A).map fun _ => (c.length : Int))
  | k + 1 => anyT sm c.length A k (anyK sm c A k)
theorem anyK_ok (sm c : List Int) (A : Nat) : ∀ k, (anyK sm c A k).1.length = c.length ∧ (anyK sm c A k).2.length = A ∧ ∀ x ∈ (anyK sm c A k).2, 0 ≤ x ∧ x ≤ c.length
  | 0 => ⟨rfl, by show ((numsF A).map _).length = A; rw [List.length_map, nums_len], fun x hx => by
    obtain ⟨_, _, rfl⟩ := List.mem_map.mp hx
    omega⟩
  | k + 1 => by
    obtain ⟨h1, h2, h3⟩ := anyK_ok sm c A k
    show (anyT sm c.length A k (anyK sm c A k)).1.length = _ ∧ (anyT sm c.length A k (anyK sm c A k)).2.length = _ ∧ ∀ x ∈ (anyT sm c.length A k (anyK sm c A k)).2, _
    generalize anyK sm c A k = s at h1 h2 h3
    have a := Int.emod_nonneg (sm.getD k 0) (show (c.length : Int) + 1 ≠ 0 by omega)
    have b := Int.emod_lt_of_pos (sm.getD k 0) (show 0 < (c.length : Int) + 1 by omega)
    unfold anyT
    split
    · refine ⟨by rw [List.length_set]; exact h1, by rw [List.length_set]; exact h2, fun x hx => ?_⟩
      rcases List.mem_or_eq_of_mem_set hx with z | z
      · exact h3 x z
      · rw [z]; omega
    · exact ⟨h1, h2, h3⟩
def anyD (cell : Int) (c : List Int) (A : Nat) : List Int := (anyK (strF (cell / 4) (A + 1)) c A A).2
abbrev s__law_any_deal : Stmt := top 29
theorem sc__law_any_deal : FnScope ["_law_cell", "_law_counts_here", "_law_askers", "_law_some", "_law_left", "_law_deal", "_law_k", "_law_want"] ["_law_cell", "_law_counts_here", "_law_askers"] (defScope s__law_any_deal) := ⟨rfl, rfl, rfl, by decide +kernel, rfl, by decide +kernel, by decide +kernel⟩
def rAnyD (dd : List Dv) (t : Tr) : Prop := ∃ (cell : Int) (c : List Int) (A : Nat), c.length ≤ 6 ∧ 1 ≤ A ∧ A ≤ 6 ∧ dd = [di cell, dis c, di A] ∧ t = tInts (anyD cell c A)
theorem ok__law_any_deal {f f1 : Addr} {fd fd1 : FuncData} {k : Nat} (F : Fun K "_law_any_deal" "_law_any_deal" s__law_any_deal f fd) (T : Txt mg) (K__law_stream : Kn P w K mg base CX0 (k + 1) "_law_stream" f1 fd1 ["_law_cell", "_law_many"] (spT K rStream)) : FnOk P w K mg base CX0 (k + 2) f fd ["_law_cell", "_law_counts_here", "_law_askers"] (spT K rAnyD) := by
  refine fn_ok F.d sc__law_any_deal (fun dd t h => by obtain ⟨_, _, _, _, _, _, rfl, _⟩ := h; rfl) fun dd t h => ?_
  obtain ⟨cell, c, A, c6, a1, a6, rfl, rfl⟩ := h
  refine ⟨_, .inl rfl, ?_⟩
  have big : 1000 < sizeLine := by decide
  unfold anyD
  have sl : (strF (cell / 4) (A + 1)).length = A + 1 := (strK_ok _ _).2.2
  refine rns_cons (rn_set 3 (Ev.s (Ev.as (d := dis (strF (cell / 4) (A + 1))) (ev_call K__law_stream (Nat.le_refl _) (eva_cons (ev_div (ev_nm 0 rfl) ev_int ⟨by decide, small_lt (by decide) (by decide)⟩) (eva_cons (ev_add (ev_nm 2 rfl) ev_int) eva_nil)) ⟨cell / 4, A + 1, by omega, rfl, rfl⟩) (er_tInts _))) (fun _ => sc__law_any_deal.nd)) ?_
  generalize strF (cell / 4) (A + 1) = sm at sl
  refine rns_cons (rn_set 4 (EvS.to (t' := tInts c) (Ev.s (ev_list T.b_list (ev_nm 1 rfl) (.inl rfl))) (by rw [ints_tr])) (fun _ => sc__law_any_deal.nd)) ?_
  refine rns_cons (rn_lcG 5 (ElcS (Elc.to (t' := tInts ((numsF A).map fun _ => (c.length : Int))) (elcm (own := ["_law_k"]) (fr := [1]) (numsF A) di (fun _ => ti c.length) (EvI.to (evi_range1 T.b_range (ev_nm 2 rfl) ⟨by omega, by omega⟩) ?_) (evg_nm 0 (fun _ => by show List.Nodup (["_law_k", "_law_counts_here"] : List Str); decide)) (by decide) (by rw [nums_len]; omega) (fun x hx => ⟨_, rfl, by exact Ev.to (ev_len T.b_len (ev_nm 1 rfl) (.inl rfl)) (by rw [List.length_map])⟩) (fun dd => by cases dd <;> rfl)) ?_)) (fun i => lcs ⟨rfl, rfl, by decide +kernel, by decide +kernel, by decide +kernel, by decide +kernel⟩) (fun _ => sc__law_any_deal.nd)) ?_
  · rw [Int.toNat_natCast]
    unfold numsF
    rw [List.map_map]; rfl
  · show Tr.ow _ = Tr.ow _
    rw [List.map_map]; rfl
  show Rns _ _ [some (ti cell), some (.fz (dis c)), some (ti A), some (.fz (dis sm)), some (tInts c), some (tInts ((numsF A).map fun _ => (c.length : Int))), none, none] _
  have elen : (((c.map di).length : Nat) : Int) = c.length := by rw [List.length_map]
  refine rns_cons (rn_for (EvI.s (evi_range1 T.b_range (ev_nm 2 rfl) ⟨by omega, by omega⟩)) (evg_nm 6 (fun _ => sc__law_any_deal.nd)) (fun k => [some (ti cell), some (.fz (dis c)), some (ti A), some (.fz (dis sm)), some (tInts (anyK sm c A k).1), some (tInts (anyK sm c A k).2), none, none]) rfl (fun _ => rfl) (fun j d hd => ?_)) ?_
  · obtain ⟨hj, rfl⟩ := rng_get hd
    rw [Int.toNat_natCast] at hj
    obtain ⟨h1, h2, h3⟩ := anyK_ok sm c A j
    have e : anyK sm c A (j + 1) = anyT sm c.length A j (anyK sm c A j) := rfl
    rw [e]
    generalize anyK sm c A j = s at h1 h2 h3
    obtain ⟨left, deal⟩ := s
    simp only at h1 h2 h3 ⊢
    have sA : atI (sm.map di) (A : Int) = some (di (sm.getD A 0)) := by
      have := getI (l := sm) (x := (A : Int)) (by omega) (by omega)
      rwa [Int.toNat_natCast] at this
    have sj : atI (sm.map di) (0 + (j : Int)) = some (di (sm.getD j 0)) := by
      have := getI (l := sm) (x := (j : Int)) (by omega) (by omega)
      rw [Int.toNat_natCast] at this
      rwa [Int.zero_add]
    have ma := Int.emod_nonneg (0 + (j : Int) + sm.getD A 0) (show (A : Int) ≠ 0 by omega)
    have mb := Int.emod_lt_of_pos (0 + (j : Int) + sm.getD A 0) (show 0 < (A : Int) by omega)
    have r0 := Int.emod_nonneg (sm.getD j 0) (show (c.length : Int) + 1 ≠ 0 by omega)
    have r1 := Int.emod_lt_of_pos (sm.getD j 0) (show 0 < (c.length : Int) + 1 by omega)
    have hl : ∀ x : Int, 0 ≤ x → x < c.length → atI (left.map di) x = some (di (left.getD x.toNat 0)) := fun x x0 x1 => getI x0 (by omega)
    have eT : anyT sm c.length A j (left, deal) = if decide (sm.getD j 0 % ((c.length : Int) + 1) < c.length) && decide (0 < left.getD (sm.getD j 0 % ((c.length : Int) + 1)).toNat 0) then (left.set (sm.getD j 0 % ((c.length : Int) + 1)).toNat (left.getD (sm.getD j 0 % ((c.length : Int) + 1)).toNat 0 - 1), deal.set (((0 : Int) + (j : Int) + sm.getD A 0) % A).toNat (sm.getD j 0 % ((c.length : Int) + 1))) else (left, deal) := rfl
    refine ⟨_, [some (ti cell), some (.fz (dis c)), some (ti A), some (.fz (dis sm)), some (tInts (anyT sm c.length A j (left, deal)).1), some (tInts (anyT sm c.length A j (left, deal)).2), some (ti (0 + (j : Int))), some (ti (sm.getD j 0 % ((c.length : Int) + 1)))], rfl, ?_, [6, 7], rfl⟩
    refine rns_cons (rn_set 7 (EvS.to (t' := ti (sm.getD j 0 % ((c.length : Int) + 1))) (Ev.s (ev_mod (ev_ix (ev_nm 3 rfl) (ev_nm 6 rfl) rfl sj) (ev_add (ev_len T.b_len (ev_nm 1 rfl) (.inl rfl)) ev_int) (by omega))) (by rw [elen])) (fun _ => sc__law_any_deal.nd)) ?_
    generalize sm.getD j 0 % ((c.length : Int) + 1) = x at r0 r1 eT
    show Rns _ _ [some (ti cell), some (.fz (dis c)), some (ti A), some (.fz (dis sm)), some (tInts left), some (tInts deal), some (ti (0 + (j : Int))), some (ti x)] _
    have ltE : decide (x < (((c.map di).length : Nat) : Int)) = decide (x < (c.length : Int)) := by rw [elen]
    cases hq : decide (x < c.length) && decide (0 < left.getD x.toNat 0) with
    | true =>
      rw [hq, if_pos rfl] at eT
      rw [eT]
      have xl : x < c.length := by rw [Bool.and_eq_true] at hq; exact of_decide_eq_true hq.1
      refine rns_one (rn_ifT (Et.pk (Ew.et (ew_and (et_lt (ev_nm 7 rfl) (ev_len T.b_len (ev_nm 1 rfl) (.inl rfl))) fun hp => (ew_and1 (et_gt (ev_ix (d := di (left.getD x.toNat 0)) (ev_nm 4 rfl) (ev_nm 7 rfl) (er_tInts left) (hl x r0 (by have := of_decide_eq_true hp; omega))) ev_int))))) (by rw [ltE]; exact hq) (rns_cons (rn_ixset 4 (n := x) (m := x.toNat) rfl (Ev.s (ev_nm 7 rfl)) (ixI r0 (by rw [List.length_map]; omega)) (Ev.pk (ev_sub (ev_ix (ev_nm 4 rfl) (ev_nm 7 rfl) (er_tInts left) (hl x r0 xl)) ev_int) True.intro) (hps := fun i => pg_sub (pv 4) (uE_ok i) set_list)) ?_))
      rw [setI]
      refine rns_cons (rn_ixset 5 (n := (0 + (j : Int) + sm.getD A 0) % A) (m := ((0 + (j : Int) + sm.getD A 0) % A).toNat) rfl (Ev.s (ev_mod (ev_add (ev_nm 6 rfl) (ev_ix (ev_nm 3 rfl) (ev_nm 2 rfl) rfl sA)) (ev_nm 2 rfl) (by omega))) (ixI ma (by rw [List.length_map]; omega)) (Ev.s (ev_nm 7 rfl)) (hps := fun i => pg_sub (pv 5) (uE_ok i) set_list)) ?_
      rw [setI]
      exact rns_nil
    | false =>
      rw [hq, if_neg (by decide)] at eT
      rw [eT]
      exact rns_one (rn_skip (Et.pk (Ew.et (ew_and (et_lt (ev_nm 7 rfl) (ev_len T.b_len (ev_nm 1 rfl) (.inl rfl))) fun hp => (ew_and1 (et_gt (ev_ix (d := di (left.getD x.toNat 0)) (ev_nm 4 rfl) (ev_nm 7 rfl) (er_tInts left) (hl x r0 (by have := of_decide_eq_true hp; omega))) ev_int))))) (by rw [ltE]; exact hq))
  · rw [List.length_map, List.length_range, Int.toNat_natCast]
    exact rns_one (rn_retO 5 rfl)
def thingT (n : Nat) (a : Int) (s : List Int × List Int) (x : Int) : List Int × List Int :=
  if decide (s.2.getD a.toNat 0 = (n : Int)) && decide (0 < s.1.getD x.toNat 0) then (s.1.set x.toNat (s.1.getD x.toNat 0 - 1), s.2.set a.toNat x) else s
def ownF (os : List (List Int)) (cell a : Int) : List Int := if decide (cell % 4 = 3) then (atI os (a - 1)).getD [] else (atI os a).getD []
def turnK (sm : List Int) (cell : Int) (c : List Int) (os : List (List Int)) : Nat → List Int × List Int × List Int
  | 0 => (numsF os.length, c, os.map fun _ => (c.length : Int))
  | k + 1 => ((turnK sm cell c os k).1.eraseIdx (sm.getD k 0 % ((turnK sm cell c os k).1.length : Int)).toNat,
      (ownF os cell ((turnK sm cell c os k).1.getD (sm.getD k 0 % ((turnK sm cell c os k).1.length : Int)).toNat 0)).foldl (thingT c.length ((turnK sm cell c os k).1.getD (sm.getD k 0 % ((turnK sm cell c os k).1.length : Int)).toNat 0)) (turnK sm cell c os k).2)
structure DealOk (n A : Nat) (s : List Int × List Int) : Prop where
  l : s.1.length = n
  d : s.2.length = A
  r : ∀ x ∈ s.2, 0 ≤ x ∧ x ≤ (n : Int)
theorem thing_ok {n A : Nat} {a x : Int} {s : List Int × List Int} (h : DealOk n A s) (x0 : 0 ≤ x) (x1 : x < n) : DealOk n A (thingT n a s x) := by
  unfold thingT
  split
  · refine ⟨by rw [List.length_set]; exact h.l, by rw [List.length_set]; exact h.d, fun y hy => ?_⟩
    rcases List.mem_or_eq_of_mem_set hy with z | z
    · exact h.r y z
    · omega
  · exact h
theorem things_ok {n A : Nat} {a : Int} : ∀ {l : List Int} {s : List Int × List Int}, DealOk n A s → (∀ x ∈ l, 0 ≤ x ∧ x < (n : Int)) → DealOk n A (l.foldl (thingT n a) s)
  | [], _, h, _ => h
  | x :: l, s, h, hl => things_ok (l := l) (thing_ok h (hl x (.head _)).1 (hl x (.head _)).2) fun y hy => hl y (.tail _ hy)
theorem atI_mem {α : Type} {l : List α} {k : Int} {x : α} (h : atI l k = some x) : x ∈ l := by
  unfold atI at h
  cases q : ixN l.length k with
  | none => rw [q] at h; cases h
  | some j => rw [q] at h; exact List.mem_of_getElem? h
theorem own_ok {os : List (List Int)} {n : Nat} (h : ∀ o ∈ os, ∀ x ∈ o, 0 ≤ x ∧ x < (n : Int)) (cell a : Int) : ∀ x ∈ ownF os cell a, 0 ≤ x ∧ x < (n : Int) := by
  unfold ownF
  have gen : ∀ k : Int, ∀ x ∈ (atI os k).getD [], 0 ≤ x ∧ x < (n : Int) := fun k x hx => by
    cases q : atI os k with
    | none => rw [q] at hx; cases hx
    | some o => rw [q] at hx; exact h o (atI_mem q) x hx
  split
  · exact gen _
  · exact gen _
theorem turnK_ok (sm : List Int) (cell : Int) {c : List Int} {os : List (List Int)} (h : ∀ o ∈ os, ∀ x ∈ o, 0 ≤ x ∧ x < (c.length : Int)) : ∀ k, k ≤ os.length → (turnK sm cell c os k).1.length = os.length - k ∧ (turnK sm cell c os k).1.Sublist (numsF os.length) ∧ DealOk c.length os.length (turnK sm cell c os k).2
  | 0, _ => ⟨nums_len _, .refl _, rfl, by show (os.map _).length = _; rw [List.length_map], fun x hx => by
    obtain ⟨_, _, rfl⟩ := List.mem_map.mp hx
    omega⟩
  | k + 1, hk => by
    obtain ⟨h1, h2, h3⟩ := turnK_ok sm cell h k (by omega)
    have e : turnK sm cell c os (k + 1) = ((turnK sm cell c os k).1.eraseIdx (sm.getD k 0 % ((turnK sm cell c os k).1.length : Int)).toNat,
      (ownF os cell ((turnK sm cell c os k).1.getD (sm.getD k 0 % ((turnK sm cell c os k).1.length : Int)).toNat 0)).foldl (thingT c.length ((turnK sm cell c os k).1.getD (sm.getD k 0 % ((turnK sm cell c os k).1.length : Int)).toNat 0)) (turnK sm cell c os k).2) := rfl
    rw [e]
    generalize turnK sm cell c os k = s at h1 h2 h3
    obtain ⟨l, s2⟩ := s
    simp only at h1 h2 h3 ⊢
    have a := Int.emod_nonneg (sm.getD k 0) (show (l.length : Int) ≠ 0 by omega)
    have b := Int.emod_lt_of_pos (sm.getD k 0) (show 0 < (l.length : Int) by omega)
    refine ⟨?_, (List.eraseIdx_sublist _ _).trans h2, things_ok h3 (own_ok h _ _)⟩
    rw [List.length_eraseIdx_of_lt (by omega)]
    omega
def turnD (cell : Int) (c : List Int) (os : List (List Int)) : List Int := (turnK (strF (cell / 4) (os.length + 1)) cell c os os.length).2.2
abbrev s__law_turn_deal : Stmt := top 28
theorem sc__law_turn_deal : FnScope ["_law_cell", "_law_counts_here", "_law_orders_here", "_law_some", "_law_askers", "_law_left", "_law_deal", "_law_k", "_law_asker", "_law_own", "_law_thing"] ["_law_cell", "_law_counts_here", "_law_orders_here"] (defScope s__law_turn_deal) := ⟨rfl, rfl, rfl, by decide +kernel, rfl, by decide +kernel, by decide +kernel⟩
def rTurnD (dd : List Dv) (t : Tr) : Prop := ∃ (cell : Int) (c : List Int) (os : List (List Int)), TabOk c os ∧ dd = [di cell, dis c, .lst (os.map dis)] ∧ t = tInts (turnD cell c os)
theorem ok__law_turn_deal {f f1 : Addr} {fd fd1 : FuncData} {k : Nat} (F : Fun K "_law_turn_deal" "_law_turn_deal" s__law_turn_deal f fd) (T : Txt mg) (K__law_stream : Kn P w K mg base CX0 (k + 1) "_law_stream" f1 fd1 ["_law_cell", "_law_many"] (spT K rStream)) : FnOk P w K mg base CX0 (k + 2) f fd ["_law_cell", "_law_counts_here", "_law_orders_here"] (spT K rTurnD) := by
  refine fn_ok F.d sc__law_turn_deal (fun dd t h => by obtain ⟨_, _, _, _, rfl, _⟩ := h; rfl) fun dd t h => ?_
  obtain ⟨cell, c, os, ok, rfl, rfl⟩ := h
  refine ⟨_, .inl rfl, ?_⟩
  have big : 1000 < sizeLine := by decide
  have c6 := ok.c6
  have o6 := ok.o6
  have o1 := ok.o1
  unfold turnD
  have sl : (strF (cell / 4) (os.length + 1)).length = os.length + 1 := (strK_ok _ _).2.2
  have olen : (((os.map dis).length : Nat) : Int) = os.length := by rw [List.length_map]
  have elen : (((c.map di).length : Nat) : Int) = c.length := by rw [List.length_map]
  refine rns_cons (rn_set 3 (Ev.s (Ev.as (d := dis (strF (cell / 4) (os.length + 1))) (ev_call K__law_stream (Nat.le_refl _) (eva_cons (ev_div (ev_nm 0 rfl) ev_int ⟨by decide, small_lt (by decide) (by decide)⟩) (eva_cons (ev_add (ev_len T.b_len (ev_nm 2 rfl) (.inl rfl)) ev_int) eva_nil)) ⟨cell / 4, os.length + 1, by omega, by rw [olen]; rfl, rfl⟩) (er_tInts _))) (fun _ => sc__law_turn_deal.nd)) ?_
  generalize strF (cell / 4) (os.length + 1) = sm at sl
  refine rns_cons (rn_set 4 (EvS.to (t' := tInts (numsF os.length)) (Ev.s (ev_listrange T.b_list T.b_range (ev_len T.b_len (ev_nm 2 rfl) (.inl rfl)) (by rw [olen]; omega) (by rw [olen]; omega))) (by rw [olen, Int.toNat_natCast]; rfl)) (fun _ => sc__law_turn_deal.nd)) ?_
  refine rns_cons (rn_set 5 (EvS.to (t' := tInts c) (Ev.s (ev_list T.b_list (ev_nm 1 rfl) (.inl rfl))) (by rw [ints_tr])) (fun _ => sc__law_turn_deal.nd)) ?_
  refine rns_cons (rn_lcG 6 (ElcS (Elc.to (t' := tInts (os.map fun _ => (c.length : Int))) (elcm (own := ["_law_order_here"]) (fr := [1]) os dis (fun _ => ti c.length) (evi_list (ev_nm 2 rfl) rfl) (evg_nm 0 (fun _ => by show List.Nodup (["_law_order_here", "_law_counts_here"] : List Str); decide)) (by decide) (by omega) (fun x hx => ⟨_, rfl, by exact Ev.to (ev_len T.b_len (ev_nm 1 rfl) (.inl rfl)) (by rw [List.length_map])⟩) (fun dd => by cases dd <;> rfl)) ?_)) (fun i => lcs ⟨rfl, rfl, by decide +kernel, by decide +kernel, by decide +kernel, by decide +kernel⟩) (fun _ => sc__law_turn_deal.nd)) ?_
  · show Tr.ow _ = Tr.ow _
    rw [List.map_map]; rfl
  show Rns _ _ [some (ti cell), some (.fz (dis c)), some (.fz (.lst (os.map dis))), some (.fz (dis sm)), some (tInts (numsF os.length)), some (tInts c), some (tInts (os.map fun _ => (c.length : Int))), none, none, none, none] _
  refine rns_cons (rn_for (its := rngD 0 os.length) (EvI.s (EvI.to (evi_range1 T.b_range (ev_len T.b_len (ev_nm 2 rfl) (.inl rfl)) (by rw [olen]; omega)) (by rw [olen, Int.toNat_natCast]))) (evg_nm 7 (fun _ => sc__law_turn_deal.nd)) (fun k => [some (ti cell), some (.fz (dis c)), some (.fz (.lst (os.map dis))), some (.fz (dis sm)), some (tInts (turnK sm cell c os k).1), some (tInts (turnK sm cell c os k).2.1), some (tInts (turnK sm cell c os k).2.2), none, none, none, none]) rfl (fun _ => rfl) (fun j d hd => ?_)) ?_
  · obtain ⟨hj, rfl⟩ := rng_get hd
    obtain ⟨h1, h2, h3⟩ := turnK_ok sm cell ok.rng j (by omega)
    have e : turnK sm cell c os (j + 1) = ((turnK sm cell c os j).1.eraseIdx (sm.getD j 0 % ((turnK sm cell c os j).1.length : Int)).toNat,
      (ownF os cell ((turnK sm cell c os j).1.getD (sm.getD j 0 % ((turnK sm cell c os j).1.length : Int)).toNat 0)).foldl (thingT c.length ((turnK sm cell c os j).1.getD (sm.getD j 0 % ((turnK sm cell c os j).1.length : Int)).toNat 0)) (turnK sm cell c os j).2) := rfl
    rw [e]
    generalize turnK sm cell c os j = s at h1 h2 h3
    obtain ⟨l, s2⟩ := s
    simp only at h1 h2 h3 ⊢
    have sj : atI (sm.map di) (0 + (j : Int)) = some (di (sm.getD j 0)) := by
      have := getI (l := sm) (x := (j : Int)) (by omega) (by omega)
      rw [Int.toNat_natCast] at this
      rwa [Int.zero_add]
    generalize sm.getD j 0 = y at sj
    have m0 := Int.emod_nonneg y (show (l.length : Int) ≠ 0 by omega)
    have m1 := Int.emod_lt_of_pos y (show 0 < (l.length : Int) by omega)
    have hml : (y % (l.length : Int)).toNat < l.length := by omega
    have ain : 0 ≤ l.getD (y % (l.length : Int)).toNat 0 ∧ l.getD (y % (l.length : Int)).toNat 0 < os.length := by
      rw [List.getD_eq_getElem?_getD, List.getElem?_eq_getElem hml]
      exact mem_nums.mp (h2.subset (List.getElem_mem hml))
    have hget : (l.map fun n => Tr.fz (di n))[(y % (l.length : Int)).toNat]? = some (.fz (di (l.getD (y % (l.length : Int)).toNat 0))) := by
      rw [List.getElem?_map, List.getD_eq_getElem?_getD, List.getElem?_eq_getElem hml]; rfl
    have el : (ers (l.map fun n => Tr.fz (di n))).length = l.length := by rw [ers_map, List.length_map, List.length_map]
    generalize hm : (y % (l.length : Int)).toNat = m at ain hget hml
    generalize l.getD m 0 = a at ain hget
    refine ⟨_, [some (ti cell), some (.fz (dis c)), some (.fz (.lst (os.map dis))), some (.fz (dis sm)), some (tInts (l.eraseIdx m)), some (tInts ((ownF os cell a).foldl (thingT c.length a) s2).1), some (tInts ((ownF os cell a).foldl (thingT c.length a) s2).2), some (ti (0 + (j : Int))), some (ti a), some (.fz (dis (ownF os cell a))), none], rfl, ?_, [7, 8, 9], rfl⟩
    refine rns_cons (rn_set_pop 8 4 (n := y % (l.length : Int)) (m := m) (d := di a) (by decide) rfl (EvS.to (t' := ti (y % (l.length : Int))) (Ev.pk (ev_mod (ev_ix (ev_nm 3 rfl) (ev_nm 7 rfl) rfl sj) (ev_len T.b_len (ev_nm 4 rfl) (.inl rfl)) (by rw [el]; omega)) True.intro) (by rw [el])) (by rw [List.length_map, ← hm]; exact ixI m0 m1) ⟨by omega, by omega⟩ hget (fun _ => sc__law_turn_deal.nd)) ?_
    rw [erase_map]
    show Rns _ _ [some (ti cell), some (.fz (dis c)), some (.fz (.lst (os.map dis))), some (.fz (dis sm)), some (tInts (l.eraseIdx m)), some (tInts s2.1), some (tInts s2.2), some (ti (0 + (j : Int))), some (ti a), none, none] _
    have atA : ∀ k : Int, -(os.length : Int) ≤ k → k < os.length → atI os k = some ((atI os k).getD []) := fun k k0 k1 => by
      unfold atI ixN
      by_cases z : 0 ≤ k
      · rw [if_pos z, if_pos k1]
        show os[_]? = some ((os[_]?).getD [])
        rw [List.getElem?_eq_getElem (show k.toNat < os.length by omega)]; rfl
      · rw [if_neg z, if_pos k0]
        show os[_]? = some ((os[_]?).getD [])
        rw [List.getElem?_eq_getElem (show (k + os.length).toNat < os.length by omega)]; rfl
    refine rns_cons (rn_set 9 (Ev.s (ev_ix (d := dis ((atI os a).getD [])) (ev_nm 2 rfl) (ev_nm 8 rfl) rfl (atI_map dis (atA a (by omega) (by omega))))) (fun _ => sc__law_turn_deal.nd)) ?_
    refine rns_cons (ρ1 := [some (ti cell), some (.fz (dis c)), some (.fz (.lst (os.map dis))), some (.fz (dis sm)), some (tInts (l.eraseIdx m)), some (tInts s2.1), some (tInts s2.2), some (ti (0 + (j : Int))), some (ti a), some (.fz (dis (ownF os cell a))), none]) ?_ ?_
    · have eO : ownF os cell a = if decide (cell % 4 = 3) then (atI os (a - 1)).getD [] else (atI os a).getD [] := rfl
      cases hq : decide (cell % 4 = 3) with
      | true =>
        rw [hq, if_pos rfl] at eO
        rw [eO]
        exact rn_ifT (Et.s (et_eq (ev_mod (ev_nm 0 rfl) ev_int (by decide)) ev_int)) hq (rns_one (rn_set 9 (Ev.s (ev_ix (d := dis ((atI os (a - 1)).getD [])) (ev_nm 2 rfl) (ev_sub (ev_nm 8 rfl) ev_int) rfl (atI_map dis (atA (a - 1) (by omega) (by omega))))) (fun _ => sc__law_turn_deal.nd)))
      | false =>
        rw [hq, if_neg (by decide)] at eO
        rw [eO]
        exact rn_skip (Et.s (et_eq (ev_mod (ev_nm 0 rfl) ev_int (by decide)) ev_int)) hq
    have ow := own_ok ok.rng cell a
    generalize ownF os cell a = own at ow
    refine rns_one (Rn.to (rn_for (EvI.s (evi_list (ev_nm 9 rfl) rfl)) (evg_nm 10 (fun _ => sc__law_turn_deal.nd)) (fun i => [some (ti cell), some (.fz (dis c)), some (.fz (.lst (os.map dis))), some (.fz (dis sm)), some (tInts (l.eraseIdx m)), some (tInts ((own.take i).foldl (thingT c.length a) s2).1), some (tInts ((own.take i).foldl (thingT c.length a) s2).2), some (ti (0 + (j : Int))), some (ti a), some (.fz (dis own)), none]) rfl (fun _ => rfl) (fun i d hd => ?_)) ?_)
    · obtain ⟨x, hx, rfl⟩ := map_get hd
      obtain ⟨x0, x1⟩ := ow x (List.mem_of_getElem? hx)
      have dk : DealOk c.length os.length ((own.take i).foldl (thingT c.length a) s2) := things_ok h3 fun z hz => ow z (List.mem_of_mem_take hz)
      rw [take_get hx, List.foldl_append]
      generalize (own.take i).foldl (thingT c.length a) s2 = s at dk
      obtain ⟨left, deal⟩ := s
      have d1 : left.length = c.length := dk.l
      have d2 : deal.length = os.length := dk.d
      show ∃ dd ρb, _ ∧ Rns _ _ _ _ ∧ Fg _ [_, _, _, _, _, some (tInts (thingT c.length a (left, deal) x).1), some (tInts (thingT c.length a (left, deal) x).2), _, _, _, _]
      have eT : thingT c.length a (left, deal) x = if decide (deal.getD a.toNat 0 = (c.length : Int)) && decide (0 < left.getD x.toNat 0) then (left.set x.toNat (left.getD x.toNat 0 - 1), deal.set a.toNat x) else (left, deal) := rfl
      have aat : atI (deal.map di) a = some (di (deal.getD a.toNat 0)) := getI ain.1 (by omega)
      have xat : atI (left.map di) x = some (di (left.getD x.toNat 0)) := getI x0 (by omega)
      have eqE : decide (deal.getD a.toNat 0 = (((c.map di).length : Nat) : Int)) = decide (deal.getD a.toNat 0 = (c.length : Int)) := by rw [elen]
      cases hq : decide (deal.getD a.toNat 0 = (c.length : Int)) && decide (0 < left.getD x.toNat 0) with
      | true =>
        rw [hq, if_pos rfl] at eT
        rw [eT]
        refine ⟨_, [some (ti cell), some (.fz (dis c)), some (.fz (.lst (os.map dis))), some (.fz (dis sm)), some (tInts (l.eraseIdx m)), some (tInts (left.set x.toNat (left.getD x.toNat 0 - 1))), some (tInts (deal.set a.toNat x)), some (ti (0 + (j : Int))), some (ti a), some (.fz (dis own)), some (ti x)], rfl, ?_, [10], rfl⟩
        refine rns_one (rn_ifT (Et.pk (Ew.et (ew_and (et_eq (ev_ix (ev_nm 6 rfl) (ev_nm 8 rfl) (er_tInts deal) aat) (ev_len T.b_len (ev_nm 1 rfl) (.inl rfl))) fun hp => (ew_and1 (et_gt (ev_ix (ev_nm 5 rfl) (ev_nm 10 rfl) (er_tInts left) xat) ev_int))))) (by rw [eqE]; exact hq) (rns_cons (rn_ixset 5 (n := x) (m := x.toNat) rfl (Ev.s (ev_nm 10 rfl)) (ixI x0 (by rw [List.length_map]; show x < (left.length : Int); omega)) (Ev.pk (ev_sub (ev_ix (ev_nm 5 rfl) (ev_nm 10 rfl) (er_tInts left) xat) ev_int) True.intro) (hps := fun i => pg_sub (pv 5) (uE_ok i) set_list)) ?_))
        rw [setI]
        refine rns_cons (rn_ixset 6 (n := a) (m := a.toNat) rfl (Ev.s (ev_nm 8 rfl)) (ixI ain.1 (by rw [List.length_map]; show a < (deal.length : Int); omega)) (Ev.s (ev_nm 10 rfl)) (hps := fun i => pg_sub (pv 6) (uE_ok i) set_list)) ?_
        rw [setI]
        exact rns_nil
      | false =>
        rw [hq, if_neg (by decide)] at eT
        rw [eT]
        exact ⟨_, _, rfl, rns_one (rn_skip (Et.pk (Ew.et (ew_and (et_eq (ev_ix (ev_nm 6 rfl) (ev_nm 8 rfl) (er_tInts deal) aat) (ev_len T.b_len (ev_nm 1 rfl) (.inl rfl))) fun hp => (ew_and1 (et_gt (ev_ix (ev_nm 5 rfl) (ev_nm 10 rfl) (er_tInts left) xat) ev_int))))) (by rw [eqE]; exact hq)), [10], rfl⟩
    · rw [List.length_map, List.take_of_length_le (Nat.le_refl _)]
  · have el : (rngD 0 os.length).length = os.length := by simp
    rw [el]
    exact rns_one (rn_retO 6 rfl)
end
end K22
namespace K22
open PySem L2 Fra
section
variable {P : Program} {w : World} {K : PySem.W.Frag} {mg : Str → Option Value} {base : Heap}
theorem anyD_ok (y : Int) (c : List Int) (A : Nat) : (anyD y c A).length = A ∧ ∀ x ∈ anyD y c A, 0 ≤ x ∧ x ≤ (c.length : Int) := ⟨(anyK_ok _ c A A).2.1, (anyK_ok _ c A A).2.2⟩
theorem turnD_ok (y : Int) {c : List Int} {os : List (List Int)} (h : ∀ o ∈ os, ∀ x ∈ o, 0 ≤ x ∧ x < (c.length : Int)) : (turnD y c os).length = os.length ∧ ∀ x ∈ turnD y c os, 0 ≤ x ∧ x ≤ (c.length : Int) := ⟨(turnK_ok _ y h os.length (Nat.le_refl _)).2.2.d, (turnK_ok _ y h os.length (Nat.le_refl _)).2.2.r⟩
def dl20 (c : List Int) (os : List (List Int)) (y : Int) : List Int := if decide (y % 4 = 0) then anyD y c os.length else turnD y c os
theorem dl20_ok {c : List Int} {os : List (List Int)} (h : ∀ o ∈ os, ∀ x ∈ o, 0 ≤ x ∧ x < (c.length : Int)) (y : Int) : (dl20 c os y).length = os.length ∧ ∀ x ∈ dl20 c os y, 0 ≤ x ∧ x ≤ (c.length : Int) := by
  unfold dl20
  split
  · exact anyD_ok y c os.length
  · exact turnD_ok y h
def wF (c : Int) : Int := 1 + if decide (c / 7 % 4 = 1) then c / 4 % 10 ^ 9 else c / 4 % 3
theorem wF_ok (c : Int) : 1 ≤ wF c ∧ wF c ≤ 10 ^ 9 := by
  unfold wF
  have a := Int.emod_nonneg (c / 4) (show (10 ^ 9 : Int) ≠ 0 by decide)
  have b := Int.emod_lt_of_pos (c / 4) (show (0 : Int) < 10 ^ 9 by decide)
  have c' := Int.emod_nonneg (c / 4) (show (3 : Int) ≠ 0 by decide)
  have d := Int.emod_lt_of_pos (c / 4) (show (0 : Int) < 3 by decide)
  split <;> omega
def sumW (cells : List Int) : Int := (cells.map wF).sum
def topF (cells : List Int) (c : List Int) (os : List (List Int)) (a x : Int) : Int := ((cells.filter fun y => decide ((dl20 c os y).getD a.toNat 0 = x)).map wF).sum
def rowF (cells c : List Int) (os : List (List Int)) (a : Int) : List Int := (numsF (c.length + 1)).map (topF cells c os a)
theorem sumW_ok : ∀ cells : List Int, 0 ≤ sumW cells ∧ sumW cells ≤ cells.length * 10 ^ 9
  | [] => by show (0 : Int) ≤ 0 ∧ (0 : Int) ≤ ((0 : Nat) : Int) * 10 ^ 9; omega
  | c :: cs => by
    have ih := sumW_ok cs
    have := wF_ok c
    have e : sumW (c :: cs) = wF c + sumW cs := by unfold sumW; rw [List.map_cons, List.sum_cons]
    rw [e, List.length_cons]; omega
theorem sumW_pos {cells : List Int} (h : 1 ≤ cells.length) : 0 < sumW cells := by
  cases cells with
  | nil => exact absurd h (by decide)
  | cons c cs =>
    have a := sumW_ok cs
    have := wF_ok c
    have e : sumW (c :: cs) = wF c + sumW cs := by unfold sumW; rw [List.map_cons, List.sum_cons]
    rw [e]; omega
theorem filt_le (q : Int → Bool) : ∀ cells : List Int, 0 ≤ ((cells.filter q).map wF).sum ∧ ((cells.filter q).map wF).sum ≤ sumW cells
  | [] => by show (0 : Int) ≤ 0 ∧ (0 : Int) ≤ 0; omega
  | c :: cs => by
    have ih := filt_le q cs
    have := wF_ok c
    have e : sumW (c :: cs) = wF c + sumW cs := by unfold sumW; rw [List.map_cons, List.sum_cons]
    rw [e, List.filter_cons]
    split
    · rw [List.map_cons, List.sum_cons]; omega
    · omega
theorem row_ok {cells c : List Int} {os : List (List Int)} {a : Int} (h1 : 1 ≤ cells.length) (h2 : cells.length ≤ 100) : RowOk (sumW cells) c.length (rowF cells c os a) := by
  have s := sumW_ok cells
  refine ⟨sumW_pos h1, by omega, by unfold rowF; rw [List.length_map, nums_len], fun t ht => ?_⟩
  obtain ⟨x, _, rfl⟩ := List.mem_map.mp ht
  exact filt_le _ cells
theorem zip_maps {α : Type} (f g : α → Dv) : ∀ l : List α, zipD (l.map f) (l.map g) = l.map fun a => .tup [f a, g a]
  | [] => rfl
  | a :: l => by
    show Dv.tup [f a, g a] :: zipD (l.map f) (l.map g) = _
    rw [zip_maps f g l]; rfl
abbrev s__law_drawn : Stmt := top 30
theorem sc__law_drawn : FnScope ["_law_cells", "_law_counts_here", "_law_orders_here", "_law_weights", "_law_deals", "_law_cell", "_law_shares", "_law_asker", "_law_row", "_law_one", "_law_top"] ["_law_cells", "_law_counts_here", "_law_orders_here"] (defScope s__law_drawn) := ⟨rfl, rfl, rfl, by decide +kernel, rfl, by decide +kernel, by decide +kernel⟩
def tRowW (W : Int) (tops : List Int) : Tr := .ow (tops.map fun t => tF (fW W t))
def rDrawn (dd : List Dv) (t : Tr) : Prop := ∃ (cells c : List Int) (os : List (List Int)), 1 ≤ cells.length ∧ cells.length ≤ 100 ∧ TabOk c os ∧ dd = [dis cells, dis c, .lst (os.map dis)] ∧ t = .ow ((numsF os.length).map fun a => tRowW (sumW cells) (rowF cells c os a))
theorem ok__law_drawn {f f1 f2 f3 : Addr} {fd fd1 fd2 fd3 : FuncData} {k : Nat} (F : Fun K "_law_drawn" "_law_drawn" s__law_drawn f fd) (T : Txt mg) (K__law_any_deal : Kn P w K mg base CX0 (k + 2) "_law_any_deal" f1 fd1 ["_law_cell", "_law_counts_here", "_law_askers"] (spT K rAnyD)) (K__law_turn_deal : Kn P w K mg base CX0 (k + 2) "_law_turn_deal" f3 fd3 ["_law_cell", "_law_counts_here", "_law_orders_here"] (spT K rTurnD)) (K__law_lowest : Kn P w K mg base CX0 (k + 2) "_law_lowest" f2 fd2 ["_law_top", "_law_bottom"] (spT K rFrac)) : FnOk P w K mg base CX0 (k + 3) f fd ["_law_cells", "_law_counts_here", "_law_orders_here"] (spT K rDrawn) := by
  refine fn_ok F.d sc__law_drawn (fun dd t h => by obtain ⟨_, _, _, _, _, _, rfl, _⟩ := h; rfl) fun dd t h => ?_
  obtain ⟨cells, c, os, l1, l2, ok, rfl, rfl⟩ := h
  refine ⟨_, .inl rfl, ?_⟩
  have big : 1000 < sizeLine := by decide
  have W0 := sumW_pos l1
  have W1 := sumW_ok cells
  have c6 := ok.c6
  have o6 := ok.o6
  have o1 := ok.o1
  have olen : (((os.map dis).length : Nat) : Int) = os.length := by rw [List.length_map]
  have elen : (((c.map di).length : Nat) : Int) = c.length := by rw [List.length_map]
  have hAt : ∀ x : Int, atI [di (x / 4 % 3), di (x / 4 % 10 ^ 9)] (if decide (x / 7 % 4 = 1) then 1 else 0) = some (di (if decide (x / 7 % 4 = 1) then x / 4 % 10 ^ 9 else x / 4 % 3)) := fun x => by cases decide (x / 7 % 4 = 1) <;> rfl
  refine rns_cons (rn_set 3 (Ev.s (ev_lst eva_nil (Nat.zero_le _))) (fun _ => sc__law_drawn.nd)) ?_
  refine rns_cons (rn_set 4 (Ev.s (ev_lst eva_nil (Nat.zero_le _))) (fun _ => sc__law_drawn.nd)) ?_
  refine rns_cons (rn_for (EvI.s (evi_list (ev_nm 0 rfl) rfl)) (evg_nm 5 (fun _ => sc__law_drawn.nd)) (fun k => [some (.fz (dis cells)), some (.fz (dis c)), some (.fz (.lst (os.map dis))), some (tInts ((cells.take k).map wF)), some (tRows ((cells.take k).map (dl20 c os))), none, none, none, none, none, none]) rfl (fun _ => rfl) (fun j d hd => ?_)) ?_
  · obtain ⟨x, hx, rfl⟩ := map_get hd
    rw [take_get hx, List.map_append, List.map_append]
    have tl : (cells.take j).length ≤ 100 := by rw [List.length_take]; omega
    have z1 : (((cells.take j).map wF).map fun n => Tr.fz (di n)).length < sizeLine := by rw [List.length_map, List.length_map]; omega
    have z2 : (((cells.take j).map (dl20 c os)).map tInts).length < sizeLine := by rw [List.length_map, List.length_map]; omega
    generalize (cells.take j).map wF = L at z1
    generalize (cells.take j).map (dl20 c os) = M at z2
    have fin1 : some (tInts (L ++ [x].map wF)) = some (.ow ((L.map fun n => Tr.fz (di n)) ++ [ti (wF x)])) := by
      show some (Tr.ow _) = _
      rw [List.map_append]; rfl
    have fin2 : some (tRows (M ++ [x].map (dl20 c os))) = some (.ow (M.map tInts ++ [tInts (dl20 c os x)])) := by
      show some (Tr.ow _) = _
      rw [List.map_append]; rfl
    rw [fin1, fin2]
    have eD : dl20 c os x = if decide (x % 4 = 0) then anyD x c os.length else turnD x c os := rfl
    have sw : Rn (famD P w K mg base ["_law_cells", "_law_counts_here", "_law_orders_here", "_law_weights", "_law_deals", "_law_cell", "_law_shares", "_law_asker", "_law_row", "_law_one", "_law_top"] "_law_drawn" (defScope s__law_drawn) f (k + 2)) ((match (defBody s__law_drawn).getD 2 (.Pass ⟨0, 0, 0, 0⟩) with | .For _ _ b _ _ => b | _ => []).getD 0 (.Pass ⟨0, 0, 0, 0⟩)) [some (.fz (dis cells)), some (.fz (dis c)), some (.fz (.lst (os.map dis))), some (tInts L), some (tRows M), some (ti x), none, none, none, none, none] (.nx [some (.fz (dis cells)), some (.fz (dis c)), some (.fz (.lst (os.map dis))), some (.ow ((L.map fun n => Tr.fz (di n)) ++ [ti (wF x)])), some (tRows M), some (ti x), none, none, none, none, none]) :=
      rn_append 3 rfl (EvS.to (t' := ti (wF x)) (Ev.s (ev_add ev_int (ev_ix (d := di (if decide (x / 7 % 4 = 1) then x / 4 % 10 ^ 9 else x / 4 % 3)) (ev_lst (eva_cons (ev_mod (ev_div (ev_nm 5 rfl) ev_int ⟨by decide, small_lt (by decide) (by decide)⟩) ev_int (by decide)) (eva_cons (ev_mod (ev_div (ev_nm 5 rfl) ev_int ⟨by decide, small_lt (by decide) (by decide)⟩) (ev_pow ev_int ev_int ⟨by decide, by decide, by decide⟩) (by decide)) eva_nil)) (by show 2 ≤ sizeLine; decide)) (ev_intb T.b_int (ev_eq (ev_mod (ev_div (ev_nm 5 rfl) ev_int ⟨by decide, small_lt (by decide) (by decide)⟩) ev_int (by decide)) ev_int)) rfl (hAt x)))) rfl) z1
    cases hq : decide (x % 4 = 0) with
    | true =>
      rw [hq, if_pos rfl] at eD
      rw [eD]
      exact ⟨_, _, rfl, rns_cons sw (rns_one (rn_ifT (Et.s (et_eq (ev_mod (ev_nm 5 rfl) ev_int (by decide)) ev_int)) hq (rns_one (rn_append 4 rfl (Ev.s (ev_call K__law_any_deal (Nat.le_refl _) (eva_cons (ev_nm 5 rfl) (eva_cons (ev_nm 1 rfl) (eva_cons (ev_len T.b_len (ev_nm 2 rfl) (.inl rfl)) eva_nil))) ⟨x, c, os.length, c6, o1, o6, by rw [← olen]; rfl, rfl⟩)) z2)))), [5], rfl⟩
    | false =>
      rw [hq, if_neg (by decide)] at eD
      rw [eD]
      exact ⟨_, _, rfl, rns_cons sw (rns_one (rn_ifF (Et.s (et_eq (ev_mod (ev_nm 5 rfl) ev_int (by decide)) ev_int)) hq (rns_one (rn_append 4 rfl (Ev.s (ev_call K__law_turn_deal (Nat.le_refl _) (eva_cons (ev_nm 5 rfl) (eva_cons (ev_nm 1 rfl) (eva_cons (ev_nm 2 rfl) eva_nil))) ⟨x, c, os, ok, rfl, rfl⟩)) z2)))), [5], rfl⟩
  rw [List.length_map, List.take_of_length_le (Nat.le_refl _)]
  refine rns_freezeTo (d := dis (cells.map wF)) 3 rfl (er_tInts _) ?_
  have eDl : er (tRows (cells.map (dl20 c os))) = .lst (cells.map fun x => dis (dl20 c os x)) := by
    rw [er_tRows, List.map_map]; rfl
  refine rns_freezeTo (d := .lst (cells.map fun x => dis (dl20 c os x))) 4 rfl eDl ?_
  show Rns _ _ [some (.fz (dis cells)), some (.fz (dis c)), some (.fz (.lst (os.map dis))), some (.fz (dis (cells.map wF))), some (.fz (.lst (cells.map fun x => dis (dl20 c os x)))), none, none, none, none, none, none] _
  refine rns_cons (rn_set 6 (Ev.s (ev_lst eva_nil (Nat.zero_le _))) (fun _ => sc__law_drawn.nd)) ?_
  refine rns_cons (rn_for (its := rngD 0 os.length) (EvI.s (EvI.to (evi_range1 T.b_range (ev_len T.b_len (ev_nm 2 rfl) (.inl rfl)) (by rw [olen]; omega)) (by rw [olen, Int.toNat_natCast]))) (evg_nm 7 (fun _ => sc__law_drawn.nd)) (fun k => [some (.fz (dis cells)), some (.fz (dis c)), some (.fz (.lst (os.map dis))), some (.fz (dis (cells.map wF))), some (.fz (.lst (cells.map fun x => dis (dl20 c os x)))), none, some (.ow ((numsF k).map fun a => tRowW (sumW cells) (rowF cells c os a))), none, none, none, none]) rfl (fun _ => rfl) (fun j d hd => ?_)) ?_
  · obtain ⟨hj, rfl⟩ := rng_get hd
    have eN : (numsF (j + 1)).map (fun a => tRowW (sumW cells) (rowF cells c os a)) = (numsF j).map (fun a => tRowW (sumW cells) (rowF cells c os a)) ++ [tRowW (sumW cells) (rowF cells c os (0 + (j : Int)))] := by
      unfold numsF
      rw [List.range_succ, List.map_append, List.map_append]; rfl
    rw [eN]
    have hL : ((numsF j).map fun a => tRowW (sumW cells) (rowF cells c os a)).length < sizeLine := by rw [List.length_map, nums_len]; omega
    generalize ((numsF j).map fun a => tRowW (sumW cells) (rowF cells c os a)) = L at hL
    refine ⟨_, _, rfl, rns_cons (rn_set 8 (Ev.s (ev_lst eva_nil (Nat.zero_le _))) (fun _ => sc__law_drawn.nd)) (rns_cons (rn_for (its := rngD 0 (c.length + 1)) (EvI.s (EvI.to (evi_range1 T.b_range (ev_add (ev_len T.b_len (ev_nm 1 rfl) (.inl rfl)) ev_int) (by rw [elen]; omega)) (by rw [elen]; congr 1))) (evg_nm 9 (fun _ => sc__law_drawn.nd)) (fun i => [some (.fz (dis cells)), some (.fz (dis c)), some (.fz (.lst (os.map dis))), some (.fz (dis (cells.map wF))), some (.fz (.lst (cells.map fun x => dis (dl20 c os x)))), none, some (.ow L), some (ti (0 + (j : Int))), some (tRowW (sumW cells) ((rowF cells c os (0 + (j : Int))).take i)), none, none]) rfl (fun _ => rfl) (fun i d hd => ?_)) (rns_one (rn_append_mv 6 8 (by decide) rfl rfl hL))), [7], ?_⟩
    · obtain ⟨hi, rfl⟩ := rng_get hd
      have ht : (rowF cells c os (0 + (j : Int)))[i]? = some (topF cells c os (0 + (j : Int)) (0 + (i : Int))) := by
        unfold rowF numsF
        rw [List.getElem?_map, List.getElem?_map, List.getElem?_range hi]; rfl
      have eR : tRowW (sumW cells) ((rowF cells c os (0 + (j : Int))).take (i + 1)) = .ow (((rowF cells c os (0 + (j : Int))).take i).map (fun t => tF (fW (sumW cells) t)) ++ [tF (fW (sumW cells) (topF cells c os (0 + (j : Int)) (0 + (i : Int))))]) := by
        rw [take_get ht]
        show Tr.ow _ = _
        rw [List.map_append]; rfl
      rw [eR]
      have hz : (((rowF cells c os (0 + (j : Int))).take i).map (fun t => tF (fW (sumW cells) t))).length < sizeLine := by rw [List.length_map, List.length_take]; omega
      rw [show tRowW (sumW cells) ((rowF cells c os (0 + (j : Int))).take i) = .ow (((rowF cells c os (0 + (j : Int))).take i).map (fun t => tF (fW (sumW cells) t))) from rfl]
      generalize ((rowF cells c os (0 + (j : Int))).take i).map (fun t => tF (fW (sumW cells) t)) = M at hz
      have dget : ∀ y : Int, atI ((dl20 c os y).map di) (0 + (j : Int)) = some (di ((dl20 c os y).getD (0 + (j : Int)).toNat 0)) := fun y => getI (by omega) (by
        have := (dl20_ok ok.rng y).1
        omega)
      refine ⟨_, [some (.fz (dis cells)), some (.fz (dis c)), some (.fz (.lst (os.map dis))), some (.fz (dis (cells.map wF))), some (.fz (.lst (cells.map fun x => dis (dl20 c os x)))), none, some (.ow L), some (ti (0 + (j : Int))), some (.ow (M ++ [tF (fW (sumW cells) (topF cells c os (0 + (j : Int)) (0 + (i : Int))))])), some (ti (0 + (i : Int))), some (ti (topF cells c os (0 + (j : Int)) (0 + (i : Int))))], rfl, ?_, [9, 10], rfl⟩
      refine rns_cons (rn_set 10 (EvS.to (t' := ti (topF cells c os (0 + (j : Int)) (0 + (i : Int)))) (Ev.s (ev_sum T.b_sum (ev_lcf (own := ["_law_weight", "_law_deal"]) (fr := [9, 7]) cells (fun y => .tup [di (wF y), dis (dl20 c os y)]) (fun y => decide ((dl20 c os y).getD (0 + (j : Int)).toNat 0 = 0 + (i : Int))) (fun y => ti (wF y)) (fun i => lcs ⟨rfl, rfl, by decide +kernel, by decide +kernel, by decide +kernel, by decide +kernel⟩) (EvI.to (evi_zip T.b_zip (ev_nm 3 rfl) (ev_nm 4 rfl) rfl rfl) ?_) (evg_t2 0 1 (fun _ => by show List.Nodup (["_law_weight", "_law_deal", "_law_one", "_law_asker"] : List Str); decide)) (by decide) (by omega) (fun y hy => ⟨_, rfl, by exact el_one (et_eq (ev_ix (ev_nm 1 rfl) (ev_nm 3 rfl) rfl (dget y)) (ev_nm 2 rfl)), fun _ => by exact ev_nm 0 rfl⟩) (fun dd => by rcases dd with _ | ⟨_, _ | ⟨_, _⟩⟩ <;> rfl)) (er_map _ _))) rfl) (fun _ => sc__law_drawn.nd)) ?_
      · rw [List.map_map]
        exact zip_maps _ _ cells
      exact rns_one (rn_append 8 rfl (Ev.s (ev_call K__law_lowest (Nat.le_refl _) (eva_cons (ev_nm 10 rfl) (eva_cons (ev_sum T.b_sum (ev_nm 3 rfl) rfl) eva_nil)) ⟨_, sumW cells, W0, small_lt (by omega) (by omega), rfl, rfl⟩)) hz)
    · have el : (rngD 0 (c.length + 1)).length = c.length + 1 := by simp
      rw [el, List.take_of_length_le (by unfold rowF; rw [List.length_map, nums_len]; exact Nat.le_refl _)]
      rfl
  · have el : (rngD 0 os.length).length = os.length := by simp
    rw [el]
    exact rns_one (rn_retO 6 rfl)
end
end K22
namespace K22
open PySem L2 Fra
section
variable {P : Program} {w : World} {K : PySem.W.Frag} {mg : Str → Option Value} {base : Heap}
def tabN (ns : List Int) : Nat := (cellF ns 0 % 7).toNat
def tabM (ns : List Int) : Nat := (1 + cellF ns 0 / 7 % 6).toNat
def tabC (ns : List Int) : List Int := countsS (cellF ns 1) (tabN ns)
def tabO (ns : List Int) : List (List Int) := ordL ((numsF (tabM ns)).map fun x => cellF ns (2 + x)) (tabN ns) (tabM ns)
theorem tabN_ok (ns : List Int) : cellF ns 0 % 7 = (tabN ns : Int) ∧ tabN ns ≤ 6 := by
  unfold tabN
  have n0 := Int.emod_nonneg (cellF ns 0) (show (7 : Int) ≠ 0 by decide)
  have n1 := Int.emod_lt_of_pos (cellF ns 0) (show (0 : Int) < 7 by decide)
  omega
theorem tabM_ok (ns : List Int) : 1 + cellF ns 0 / 7 % 6 = (tabM ns : Int) ∧ 1 ≤ tabM ns ∧ tabM ns ≤ 6 := by
  unfold tabM
  have m0 := Int.emod_nonneg (cellF ns 0 / 7) (show (6 : Int) ≠ 0 by decide)
  have m1 := Int.emod_lt_of_pos (cellF ns 0 / 7) (show (0 : Int) < 6 by decide)
  omega
theorem tabC_len (ns : List Int) : (tabC ns).length = tabN ns := by unfold tabC countsS; rw [List.length_map]; exact (strK_ok _ _).2.2
theorem tabled_ok (ns : List Int) : TabOk (tabC ns) (tabO ns) := by
  obtain ⟨_, n6⟩ := tabN_ok ns
  obtain ⟨_, m1, m6⟩ := tabM_ok ns
  obtain ⟨ol, oo⟩ := ordL_ok ((numsF (tabM ns)).map fun x => cellF ns (2 + x)) (tabN ns) (tabM ns)
  have cl := tabC_len ns
  exact ⟨by omega, fun x hx => by
    obtain ⟨y, _, rfl⟩ := List.mem_map.mp hx
    exact cntG_ok y, by show 1 ≤ (ordL _ _ _).length; omega, by show (ordL _ _ _).length ≤ 6; omega, fun o ho => (oo o ho).1, fun o ho => by rw [cl]; exact (oo o ho).2⟩
abbrev s__law_tabled : Stmt := top 31
theorem sc__law_tabled : FnScope ["_law_script", "_law_many", "_law_askers", "_law_orders_here"] ["_law_script"] (defScope s__law_tabled) := ⟨rfl, rfl, rfl, by decide +kernel, rfl, by decide +kernel, by decide +kernel⟩
def rTabled (dd : List Dv) (t : Tr) : Prop := ∃ ns : List Int, dd = [dis ns] ∧ t = .fz (tabD (tabC ns) (tabO ns))
theorem ok__law_tabled {f f1 f2 f3 : Addr} {fd fd1 fd2 fd3 : FuncData} {k : Nat} (F : Fun K "_law_tabled" "_law_tabled" s__law_tabled f fd) (T : Txt mg) (K__law_cell_at : Kn P w K mg base CX0 (k + 1) "_law_cell_at" f1 fd1 ["_law_script", "_law_k"] (spT K rCell)) (K__law_counts : Kn P w K mg base CX0 (k + 2) "_law_counts" f2 fd2 ["_law_cell", "_law_many"] (spT K rCounts)) (K__law_orders : Kn P w K mg base CX0 (k + 3) "_law_orders" f3 fd3 ["_law_cells", "_law_many"] (spT K rOrders)) : FnOk P w K mg base CX0 (k + 4) f fd ["_law_script"] (spT K rTabled) := by
  refine fn_ok F.d sc__law_tabled (fun dd t h => by obtain ⟨_, rfl, _⟩ := h; rfl) fun dd t h => ?_
  obtain ⟨ns, rfl, rfl⟩ := h
  refine ⟨_, .inl rfl, ?_⟩
  have big : 1000 < sizeLine := by decide
  have r1 : k + 1 ≤ k + 3 := by omega
  have r2 : k + 2 ≤ k + 3 := by omega
  obtain ⟨en, hn⟩ := tabN_ok ns
  obtain ⟨em, m1, m6⟩ := tabM_ok ns
  have cd7 : CDivB (cellF ns 0) 7 := ⟨by decide, small_lt (by decide) (by decide)⟩
  refine rns_cons (rn_set 1 (EvS.to (t' := ti (tabN ns)) (Ev.s (ev_mod (ev_call K__law_cell_at r1 (eva_cons (ev_nm 0 rfl) (eva_cons ev_int eva_nil)) ⟨ns, 0, by decide, rfl, rfl⟩) ev_int (by decide))) (by rw [en])) (fun _ => sc__law_tabled.nd)) ?_
  refine rns_cons (rn_set 2 (EvS.to (t' := ti (tabM ns)) (Ev.s (ev_add ev_int (ev_mod (ev_div (ev_call K__law_cell_at r1 (eva_cons (ev_nm 0 rfl) (eva_cons ev_int eva_nil)) ⟨ns, 0, by decide, rfl, rfl⟩) ev_int cd7) ev_int (by decide)))) (by rw [em])) (fun _ => sc__law_tabled.nd)) ?_
  have ml : ((numsF (tabM ns)).map fun x => cellF ns (2 + x)).length = tabM ns := by rw [List.length_map, nums_len]
  have eO : er (tRows (ordL ((numsF (tabM ns)).map fun x => cellF ns (2 + x)) (tabN ns) ((numsF (tabM ns)).map fun x => cellF ns (2 + x)).length)) = .lst ((tabO ns).map dis) := by
    rw [er_tRows, ml]; rfl
  refine rns_cons (rn_set 3 (Ev.s (Ev.as (d := .lst ((tabO ns).map dis)) (ev_call K__law_orders (Nat.le_refl _) (eva_cons (ev_lcm (own := ["_law_k"]) (fr := [0]) (numsF (tabM ns)) di (fun x => ti (cellF ns (2 + x))) (fun i => lcs ⟨rfl, rfl, by decide +kernel, by decide +kernel, by decide +kernel, by decide +kernel⟩) (EvI.to (evi_range1 T.b_range (ev_nm 2 rfl) ⟨by omega, by omega⟩) ?_) (evg_nm 0 (fun _ => by show List.Nodup (["_law_k", "_law_script"] : List Str); decide)) (by decide) (by rw [nums_len]; omega) (fun x hx => ⟨_, rfl, by
      have := mem_nums.mp hx
      exact ev_call K__law_cell_at r1 (eva_cons (ev_nm 1 rfl) (eva_cons (ev_add ev_int (ev_nm 0 rfl)) eva_nil)) ⟨ns, 2 + x, by omega, rfl, rfl⟩⟩) (fun dd => by cases dd <;> rfl)) (eva_cons (ev_nm 1 rfl) eva_nil)) ⟨(numsF (tabM ns)).map fun x => cellF ns (2 + x), tabN ns, hn, by omega, ?_, rfl⟩) eO)) (fun _ => sc__law_tabled.nd)) ?_
  · rw [Int.toNat_natCast]
    unfold numsF
    rw [List.map_map]; rfl
  rotate_left
  · show [er (.ow _), _] = _
    rw [er_map]; rfl
  refine rns_one (rn_ret (Ev.s (ev_tupD (eva_cons (ev_call K__law_counts r2 (eva_cons (ev_call K__law_cell_at r1 (eva_cons (ev_nm 0 rfl) (eva_cons ev_int eva_nil)) ⟨ns, 1, by decide, rfl, rfl⟩) (eva_cons (ev_nm 1 rfl) eva_nil)) ⟨cellF ns 1, tabN ns, by omega, rfl, rfl⟩) (eva_cons (ev_nm 3 rfl) eva_nil)) ?_ (by show 2 ≤ sizeLine; decide))))
  show [er (tInts _), _] = _
  rw [er_tInts]; rfl
end
end K22
namespace K22
open PySem L2 Fra
section
variable {P : Program} {w : World} {K : PySem.W.Frag} {mg : Str → Option Value} {base : Heap}
abbrev l3 (t : Int × Int × Int) : List Int := [t.1, t.2.1, t.2.2]
def wJ (n : Nat) (o tops : List Int) (a : Nat) (m : Nat) : List (Int × Int × Int) := (List.range m).flatMap fun j => if topAt tops ((fullF n o).getD j 0) = 0 then [] else ((fullF n o).take j).map fun x => ((a : Int), x, (fullF n o).getD j 0)
def wAll (n : Nat) (os : List (List Int)) (S : Nat → List Int) (m : Nat) : List (Int × Int × Int) := (List.range m).flatMap fun a => wJ n (os.getD a []) (S a) a (fullF n (os.getD a [])).length
theorem wJ_succ (n : Nat) (o tops : List Int) (a m : Nat) : wJ n o tops a (m + 1) = wJ n o tops a m ++ (if topAt tops ((fullF n o).getD m 0) = 0 then [] else ((fullF n o).take m).map fun x => ((a : Int), x, (fullF n o).getD m 0)) := by
  unfold wJ
  rw [List.range_succ, List.flatMap_append]
  simp
theorem wAll_succ (n : Nat) (os : List (List Int)) (S : Nat → List Int) (m : Nat) : wAll n os S (m + 1) = wAll n os S m ++ wJ n (os.getD m []) (S m) m (fullF n (os.getD m [])).length := by
  unfold wAll
  rw [List.range_succ, List.flatMap_append]
  simp
def tri : Nat → Nat
  | 0 => 0
  | m + 1 => tri m + m
theorem wJ_len (n : Nat) (o tops : List Int) (a : Nat) : ∀ m, (wJ n o tops a m).length ≤ tri m
  | 0 => Nat.zero_le _
  | m + 1 => by
    rw [wJ_succ, List.length_append]
    have := wJ_len n o tops a m
    show _ ≤ tri m + m
    split
    · show _ + 0 ≤ _; omega
    · rw [List.length_map, List.length_take]; omega
theorem tri7 {m : Nat} (h : m ≤ 7) : tri m ≤ 21 := by
  have : ∀ m : Fin 8, tri m.val ≤ 21 := by decide
  exact this ⟨m, by omega⟩
theorem full_mem {n : Nat} {o : List Int} (hr : ∀ x ∈ o, 0 ≤ x ∧ x < n) {x : Int} : x ∈ fullF n o ↔ 0 ≤ x ∧ x ≤ n := by
  unfold fullF restF
  simp only [List.mem_append, List.mem_singleton, List.mem_map, List.mem_filter, List.mem_range]
  constructor
  · rintro ((h | h) | ⟨k, ⟨h1, _⟩, rfl⟩)
    · have := hr x h; omega
    · omega
    · omega
  · intro h
    by_cases hx : x ∈ o
    · exact .inl (.inl hx)
    by_cases hn : x = n
    · exact .inl (.inr hn)
    · refine .inr ⟨x.toNat, ⟨by omega, ?_⟩, by omega⟩
      rw [show 0 + ((x.toNat : Nat) : Int) = x by omega]
      simpa using hx
theorem full7 {n : Nat} {o : List Int} (hn : n ≤ 6) (nd : o.Nodup) (hr : ∀ x ∈ o, 0 ≤ x ∧ x < n) : (fullF n o).length ≤ 7 ∧ (fullF n o).Nodup := by
  have nf : (fullF n o).Nodup := by
    unfold fullF
    rw [List.nodup_append, List.nodup_append]
    refine ⟨⟨nd, List.nodup_cons.mpr ⟨(fun z => nomatch z), .nil⟩, fun a ha b hb => ?_⟩, ?_, fun a ha b hb => ?_⟩
    · rw [List.mem_singleton.mp hb]
      have := hr a ha
      omega
    · unfold restF
      refine List.Pairwise.map _ (fun a b (h : a < b) => ?_) ((List.pairwise_lt_range (n := n)).filter _)
      omega
    · obtain ⟨k, hk, rfl⟩ := List.mem_map.mp hb
      obtain ⟨h1, h2⟩ := List.mem_filter.mp hk
      have h1 := List.mem_range.mp h1
      rcases List.mem_append.mp ha with ha | ha
      · intro z
        rw [z] at ha
        rw [List.contains_iff_mem.mpr ha] at h2
        cases h2
      · rw [List.mem_singleton.mp ha]; omega
  refine ⟨?_, nf⟩
  have := Ts.nd_len (fullF n o) (numsF (n + 1)) nf fun x hx => by
    have := (full_mem hr).mp hx
    exact mem_nums.mpr ⟨by omega, by omega⟩
  rw [show (numsF (n + 1)).length = n + 1 by unfold numsF; rw [List.length_map, List.length_range]] at this
  omega
theorem wAll_len {n : Nat} {os : List (List Int)} (S : Nat → List Int) (h : ∀ o ∈ os, (fullF n o).length ≤ 7) : ∀ m, m ≤ os.length → (wAll n os S m).length ≤ 21 * m
  | 0, _ => Nat.zero_le _
  | m + 1, hm => by
    rw [wAll_succ, List.length_append]
    have := wAll_len S h m (by omega)
    have h1 := wJ_len n (os.getD m []) (S m) m (fullF n (os.getD m [])).length
    have h2 : os.getD m [] ∈ os := by
      rw [List.getD_eq_getElem?_getD, List.getElem?_eq_getElem (show m < os.length by omega)]
      exact List.getElem_mem _
    have := tri7 (h _ h2)
    omega
theorem mem_wAll {n : Nat} {os : List (List Int)} {S : Nat → List Int} {m : Nat} {t : Int × Int × Int} : t ∈ wAll n os S m ↔ ∃ a j, a < m ∧ j < (fullF n (os.getD a [])).length ∧ topAt (S a) ((fullF n (os.getD a [])).getD j 0) ≠ 0 ∧ ∃ x ∈ (fullF n (os.getD a [])).take j, t = ((a : Int), x, (fullF n (os.getD a [])).getD j 0) := by
  unfold wAll wJ
  simp only [List.mem_flatMap, List.mem_range]
  constructor
  · rintro ⟨a, ha, j, hj, h⟩
    split at h
    · cases h
    · rename_i hz
      obtain ⟨x, hx, rfl⟩ := List.mem_map.mp h
      exact ⟨a, j, ha, hj, hz, x, hx, rfl⟩
  · rintro ⟨a, j, ha, hj, hz, x, hx, rfl⟩
    exact ⟨a, ha, j, hj, by rw [if_neg hz]; exact List.mem_map.mpr ⟨x, hx, rfl⟩⟩
def prF (n : Nat) (os : List (List Int)) (S : Nat → List Int) : List (Nat × Nat) := (wAll n os S os.length).map fun t => (t.2.1.toNat, t.2.2.toNat)
theorem outP_congr {ps qs : List (Nat × Nat)} (h : ∀ p, p ∈ ps ↔ p ∈ qs) : outP ps = outP qs := by
  unfold outP
  refine List.filter_congr fun p _ => ?_
  rw [Bool.eq_iff_iff]
  simpa using h p
theorem srt_l3 (ts : List (Int × Int × Int)) : ∃ ts' : List (Int × Int × Int), srtT (ts.map l3) = ts'.map l3 ∧ ts'.Perm ts := by
  obtain ⟨g, hg⟩ : ∃ g : List Int → Int × Int × Int, g = fun d => (d.getD 0 0, d.getD 1 0, d.getD 2 0) := ⟨_, rfl⟩
  have gl : ∀ t, g (l3 t) = t := fun t => by rw [hg]; rfl
  refine ⟨(srtT (ts.map l3)).map g, ?_, ?_⟩
  · rw [List.map_map]
    refine ((List.map_congr_left (g := id) fun d hd => ?_).trans (List.map_id _)).symm
    obtain ⟨t, _, rfl⟩ := List.mem_map.mp ((srtT_perm _).mem_iff.mp hd)
    show l3 (g (l3 t)) = _
    rw [gl]; rfl
  · have := (srtT_perm (ts.map l3)).map g
    rw [List.map_map] at this
    refine this.trans (List.Perm.of_eq ?_)
    exact (List.map_congr_left (g := id) fun t _ => gl t).trans (List.map_id _)
theorem full_get {n : Nat} {o : List Int} {j : Nat} (h : j < (fullF n o).length) : (fullF n o)[j]? = some ((fullF n o).getD j 0) := by
  rw [List.getD_eq_getElem?_getD, List.getElem?_eq_getElem h]; rfl
theorem cut_take {α : Type} (l : List α) (m : Nat) : cutD l none (some (m : Int)) = l.take m := by
  unfold cutD
  rw [HT.sIx_nat]
  show (l.drop 0).take (min m l.length - 0) = _
  rw [List.drop_zero, Nat.sub_zero]
  rcases Nat.le_total m l.length with z | z
  · rw [Nat.min_eq_left z]
  · rw [Nat.min_eq_right z, List.take_length, List.take_of_length_le z]
abbrev nWI : List Str := ["table", "shares", "told", "asker", "row", "order", "place", "b"]
abbrev s_wishes : Stmt := top 18
theorem sc_wishes : FnScope nWI ["table", "shares"] (defScope s_wishes) := ⟨rfl, rfl, rfl, by decide +kernel, rfl, by decide +kernel, by decide +kernel⟩
abbrev tW (ts : List (Int × Int × Int)) : Tr := .ow (ts.map fun t => .fz (dT (l3 t)))
theorem er_tW (ts : List (Int × Int × Int)) : er (tW ts) = .lst ((ts.map l3).map dT) := by rw [er_ow_map, List.map_map]; rfl
abbrev dSh (W : Int) (A : Nat) (S : Nat → List Int) : Dv := .lst ((List.range A).map fun a => dRow W (S a))
theorem eqD_dF (p q : Int × Int) : eqD (dF p) (dF q) = decide (p = q) := by
  show (p.1 == q.1 && (p.2 == q.2 && true)) = _
  rw [Bool.and_true, Bool.eq_iff_iff, Bool.and_eq_true, beq_iff_eq, beq_iff_eq, decide_eq_true_iff]
  exact ⟨fun h => Prod.ext h.1 h.2, fun h => by rw [h]; exact ⟨rfl, rfl⟩⟩
theorem eqD_zero {W s : Int} (h : 0 < W) : eqD (dF (fW W s)) (dF (lT 0 1, lB 0 1)) = decide (s = 0) := by
  rw [eqD_dF, frac1, ← fW_zero h, decide_eq_decide]
  exact ⟨fun e => fW_inj h e, fun e => by rw [e]⟩
def rWish (dd : List Dv) (t : Tr) : Prop := ∃ (c : List Int) (os : List (List Int)) (W : Int) (S : Nat → List Int), TabOk c os ∧ (∀ a, a < os.length → RowOk W c.length (S a)) ∧ dd = [tabD c os, dSh W os.length S] ∧ t = .ow ((srtT ((wAll c.length os S os.length).map l3)).map fun d => .fz (dT d))
theorem ok_wishes {f f1 f2 : Addr} {fd fd1 fd2 : FuncData} {k : Nat} {tk : Tok} (F : Fun K "wishes" "wishes" s_wishes f fd) (T : Txt mg) (K_full_order : Kn P w K mg base CX0 (k + 2) "full_order" f1 fd1 ["table", "asker"] (spT K rFull)) (K_fraction : Kn P w K mg base CX0 (k + 2) "fraction" f2 fd2 ["top", "bottom"] (spT K rFrac)) (B1 : Binds K fd2 ["top", "bottom"] [.int 1 tk]) : FnOk P w K mg base CX0 (k + 3) f fd ["table", "shares"] (spT K rWish) := by
  refine fn_ok F.d sc_wishes (fun dd t h => by obtain ⟨_, _, _, _, _, _, rfl, _⟩ := h; rfl) fun dd t h => ?_
  obtain ⟨c, os, W, S, ok, rok, rfl, rfl⟩ := h
  refine ⟨_, .inl rfl, ?_⟩
  have big : 1000 < sizeLine := by decide
  have o6 := ok.o6
  have c6 := ok.c6
  have fl : ∀ o ∈ os, (fullF c.length o).length ≤ 7 := fun o ho => (full7 c6 (ok.nd o ho) (ok.rng o ho)).1
  have wl := wAll_len S fl os.length (Nat.le_refl _)
  refine rns_cons (rn_set 2 (Ev.s (ev_lst eva_nil (Nat.zero_le _))) (fun _ => sc_wishes.nd)) ?_
  refine rns_cons (rn_for (EvI.s (evi_enum T.b_enumerate (ev_nm 1 rfl) rfl)) (evg_t2 3 4 (fun _ => sc_wishes.nd)) (fun k => [some (.fz (tabD c os)), some (.fz (dSh W os.length S)), some (tW (wAll c.length os S k)), none, none, none, none, none]) rfl (fun _ => rfl) (fun j d hd => ?_)) ?_
  · obtain ⟨x, hx, rfl⟩ := enu_get hd
    obtain ⟨a, ha, rfl⟩ := map_get hx
    have ja : a = j := by
      obtain ⟨q1, q2⟩ := List.getElem?_eq_some_iff.mp ha
      rw [List.getElem_range] at q2; exact q2.symm
    subst ja
    have hj : a < os.length := by have := (List.getElem?_eq_some_iff.mp ha).1; rw [List.length_range] at this; exact this
    obtain ⟨o, hoa⟩ : ∃ o, os[a]? = some o := ⟨_, List.getElem?_eq_getElem hj⟩
    have og : os.getD a [] = o := by rw [List.getD_eq_getElem?_getD, hoa]; rfl
    have om := List.mem_of_getElem? hoa
    have f7 := fl o om
    have R := rok a hj
    have hol := ok.olen om
    have wa := wAll_len S fl a (by omega)
    refine ⟨_, _, rfl, rns_cons (rn_set 5 (Ev.s (Ev.as (d := dis (fullF c.length o)) (ev_call K_full_order (Nat.le_refl _) (eva_cons (ev_nm 0 rfl) (eva_cons (ev_nm 3 rfl) eva_nil)) ⟨c, os, a, o, by omega, by omega, atI_nat hoa, rfl, rfl⟩) (er_tInts _))) (fun _ => sc_wishes.nd)) (rns_one (rn_for (EvI.s (evi_enum T.b_enumerate (ev_nm 5 rfl) rfl)) (evg_t2 6 7 (fun _ => sc_wishes.nd)) (fun i => [some (.fz (tabD c os)), some (.fz (dSh W os.length S)), some (tW (wAll c.length os S a ++ wJ c.length o (S a) a i)), some (ti a), some (.fz (dRow W (S a))), some (.fz (dis (fullF c.length o))), none, none]) ?_ (fun _ => rfl) (fun i d hd => ?_))), [3, 4, 5], ?_⟩
    · show [_, _, some (tW (wAll c.length os S a ++ [])), _, _, _, _, _] = _
      rw [List.append_nil]; rfl
    · obtain ⟨y, hy, rfl⟩ := enu_get hd
      obtain ⟨b, hb, rfl⟩ := map_get hy
      have il := (List.getElem?_eq_some_iff.mp hb).1
      have bg : (fullF c.length o).getD i 0 = b := by rw [List.getD_eq_getElem?_getD, hb]; rfl
      have bm := (full_mem (ok.rng o om)).mp (List.mem_of_getElem? hb)
      have ecut : er (.ow ((cutD ((fullF c.length o).map di) none (some ((i : Nat) : Int))).map .fz)) = .lst (((fullF c.length o).take i).map di) := by
        rw [er_fzs, cutD_map, cut_take]
      have wj := wJ_len c.length o (S a) a i
      have ti7 := tri7 (m := i) (by omega)
      have tw : ∀ l r : List (Int × Int × Int), tW (l ++ r) = .ow ((l.map fun t => .fz (dT (l3 t))) ++ r.map fun t => .fz (dT (l3 t))) := fun l r => by show Tr.ow _ = Tr.ow _; rw [List.map_append]
      refine ⟨_, _, rfl, rns_one (rn_if (o := .nx [some (.fz (tabD c os)), some (.fz (dSh W os.length S)), some (tW (wAll c.length os S a ++ wJ c.length o (S a) a (i + 1))), some (ti a), some (.fz (dRow W (S a))), some (.fz (dis (fullF c.length o))), some (ti i), some (ti b)]) (p := !decide (topAt (S a) b = 0)) (EtS.to (Et.s (et_neS (ev_ix (ev_nm 4 rfl) (ev_nm 7 rfl) rfl (rowAt R bm.1 bm.2)) (ev_callD K_fraction B1 (Nat.le_refl _) (eva_cons ev_int eva_nil) ⟨0, 1, by decide, by decide, rfl, rfl⟩) (.inr ⟨_, _, rfl, rfl⟩) (Nat.le_trans (dpD_dF _) (by decide)))) ?_) (fun h => Rns.to (rns_one (rn_extend 2 rfl (Ev.s (ev_lcm (own := ["a"]) (fr := [3, 7]) ((fullF c.length o).take i) di (fun x => .fz (dT [(a : Int), x, b])) (fun i => lcs ⟨rfl, rfl, by decide +kernel, by decide +kernel, by decide +kernel, by decide +kernel⟩) (evi_list (ev_slice (ev_nm 5 rfl) rfl eo_none (eo_some (ev_nm 6 rfl))) ecut) (evg_nm 0 (fun _ => by show List.Nodup (["a", "asker", "b"] : List Str); decide)) (by decide) (by rw [List.length_take]; omega) (fun x hx => ⟨_, rfl, by exact ev_tupD (dd := [di a, di x, di b]) (eva_cons (ev_nm 1 rfl) (eva_cons (ev_nm 0 rfl) (eva_cons (ev_nm 2 rfl) eva_nil))) rfl (by show 3 ≤ sizeLine; decide)⟩) (fun dd => by cases dd <;> rfl))) ?_)) ?_) (fun h => Rns.to rns_nil ?_)), [6, 7], rfl⟩
      · show (!eqD (dF _) (dF _)) = _
        rw [eqD_zero R.w0]
      · rw [List.length_map, List.length_map, List.length_append, List.length_take]; omega
      · have hb : ¬ topAt (S a) b = 0 := fun z => by rw [decide_eq_true z] at h; cases h
        show Out.nx [_, _, some (.ow _), _, _, _, _, _] = _
        rw [wJ_succ, bg, if_neg hb, ← List.append_assoc, tw, List.map_map]
        rfl
      · have hb : topAt (S a) b = 0 := Classical.byContradiction fun z => by rw [decide_eq_false z] at h; cases h
        rw [wJ_succ, bg, if_pos hb, List.append_nil]
        rfl
    · show [_, _, some (tW _), _, _, _, _, _] = _
      rw [wAll_succ, og, enu_len, List.length_map]
  · rw [enu_len, List.length_map, List.length_range]
    refine rns_freezeTo (d := .lst (((wAll c.length os S os.length).map l3).map dT)) 2 rfl (er_tW _) ?_
    exact rns_one (rn_ret (Ev.s (ev_sortedT T.b_sorted (ev_nm 2 rfl) rfl (fun d hd => by obtain ⟨t, _, rfl⟩ := List.mem_map.mp hd; exact List.cons_ne_nil _ _) (by rw [List.length_map]; omega))))
abbrev s_over_pairs : Stmt := top 19
theorem sc_over_pairs : FnScope ["table", "shares"] ["table", "shares"] (defScope s_over_pairs) := ⟨rfl, rfl, rfl, by decide +kernel, rfl, by decide +kernel, by decide +kernel⟩
abbrev tPs (ps : List (Nat × Nat)) : Tr := .ow ((ps.map lP).map fun d => .fz (dT d))
def rOver (dd : List Dv) (t : Tr) : Prop := ∃ (c : List Int) (os : List (List Int)) (W : Int) (S : Nat → List Int), TabOk c os ∧ (∀ a, a < os.length → RowOk W c.length (S a)) ∧ dd = [tabD c os, dSh W os.length S] ∧ t = tPs (outP (prF c.length os S))
theorem ok_over_pairs {f f1 : Addr} {fd fd1 : FuncData} {k : Nat} (F : Fun K "over_pairs" "over_pairs" s_over_pairs f fd) (T : Txt mg) (K_wishes : Kn P w K mg base CX0 (k + 3) "wishes" f1 fd1 ["table", "shares"] (spT K rWish)) : FnOk P w K mg base CX0 (k + 4) f fd ["table", "shares"] (spT K rOver) := by
  refine fn_ok F.d sc_over_pairs (fun dd t h => by obtain ⟨_, _, _, _, _, _, rfl, _⟩ := h; rfl) fun dd t h => ?_
  obtain ⟨c, os, W, S, ok, rok, rfl, rfl⟩ := h
  refine ⟨_, .inl rfl, ?_⟩
  have big : 1000 < sizeLine := by decide
  have o6 := ok.o6
  have c6 := ok.c6
  have fl : ∀ o ∈ os, (fullF c.length o).length ≤ 7 := fun o ho => (full7 c6 (ok.nd o ho) (ok.rng o ho)).1
  have wl := wAll_len S fl os.length (Nat.le_refl _)
  obtain ⟨ts, ets, pts⟩ := srt_l3 (wAll c.length os S os.length)
  have tin : ∀ t ∈ ts, 0 ≤ t.2.1 ∧ t.2.1 ≤ 6 ∧ 0 ≤ t.2.2 ∧ t.2.2 ≤ 6 := fun t ht => by
    obtain ⟨a, j, ha, hj, _, x, hx, rfl⟩ := mem_wAll.mp (pts.mem_iff.mp ht)
    have om : os.getD a [] ∈ os := by
      rw [List.getD_eq_getElem?_getD, List.getElem?_eq_getElem ha]
      exact List.getElem_mem _
    have h1 := (full_mem (ok.rng _ om)).mp (List.mem_of_mem_take hx)
    have h2 := (full_mem (ok.rng _ om)).mp (List.mem_of_getElem? (full_get hj))
    exact ⟨h1.1, by show x ≤ 6; omega, h2.1, by show (fullF c.length (os.getD a [])).getD j 0 ≤ 6; omega⟩
  have ew : er (.ow ((srtT ((wAll c.length os S os.length).map l3)).map fun d => .fz (dT d))) = .lst (ts.map fun t => dT (l3 t)) := by
    rw [er_ow_map, ets, List.map_map]; rfl
  have ec : er (.ow (ts.map fun t => Tr.fz (dT (lP (t.2.1.toNat, t.2.2.toNat))))) = .lst (((ts.map fun t => (t.2.1.toNat, t.2.2.toNat)).map lP).map dT) := by
    rw [er_ow_map, List.map_map, List.map_map]; rfl
  refine rns_one (rn_ret (EvS.to (Ev.s (ev_sortset2 T.b_sorted T.b_set (ev_lcm (own := ["asker", "a", "b"]) (fr := []) ts (fun t => dT (l3 t)) (fun t => Tr.fz (dT (lP (t.2.1.toNat, t.2.2.toNat)))) (fun i => lcs ⟨rfl, rfl, by decide +kernel, by decide +kernel, by decide +kernel, by decide +kernel⟩) (evi_list (ev_call K_wishes (Nat.le_refl _) (eva_cons (ev_nm 0 rfl) (eva_cons (ev_nm 1 rfl) eva_nil)) ⟨c, os, W, S, ok, rok, rfl, rfl⟩) ew) (evg_t3 0 1 2 (fun _ => by show List.Nodup (["asker", "a", "b"] : List Str); decide)) (by decide) (by rw [pts.length_eq]; omega) (fun t ht => ⟨_, rfl, ?_⟩) (fun dd => by match dd with | [] => rfl | [_] => rfl | [_, _] => rfl | _ :: _ :: _ :: _ => rfl)) ec ?_)) ?_))
  · have := tin t ht
    exact Ev.to (ev_tupD (dd := [di t.2.1, di t.2.2]) (eva_cons (ev_nm 1 rfl) (eva_cons (ev_nm 2 rfl) eva_nil)) rfl (by show 2 ≤ sizeLine; decide)) (by
      show Tr.fz (.tup [di t.2.1, di t.2.2]) = Tr.fz (.tup [di ((t.2.1.toNat : Nat) : Int), di ((t.2.2.toNat : Nat) : Int)])
      rw [show ((t.2.1.toNat : Nat) : Int) = t.2.1 by omega, show ((t.2.2.toNat : Nat) : Int) = t.2.2 by omega])
  · intro p hp
    obtain ⟨t, ht, rfl⟩ := List.mem_map.mp hp
    have := tin t ht
    exact ⟨by show t.2.1.toNat ≤ 6; omega, by show t.2.2.toNat ≤ 6; omega⟩
  · show Tr.ow _ = Tr.ow _
    rw [outP_congr (ps := ts.map fun t => (t.2.1.toNat, t.2.2.toNat)) (qs := prF c.length os S) fun p => (pts.map _).mem_iff]
end
end K22
namespace K22
open PySem L2 Fra
section
variable {P : Program} {w : World} {K : PySem.W.Frag} {mg : Str → Option Value} {base : Heap}
def plF (n : Nat) (o : List Int) (x : Int) : Int := if o.contains x = true then (o.idxOf x : Nat) else if x = n then (o.length : Nat) else (o.length : Nat) + 1 + x
abbrev s__law_place : Stmt := top 32
theorem sc__law_place : FnScope ["_law_order_here", "_law_many", "_law_one"] ["_law_order_here", "_law_many", "_law_one"] (defScope s__law_place) := ⟨rfl, rfl, rfl, by decide +kernel, rfl, by decide +kernel, by decide +kernel⟩
def rPlace (dd : List Dv) (t : Tr) : Prop := ∃ (o : List Int) (n : Nat) (x : Int), dd = [dis o, di n, di x] ∧ t = ti (plF n o x)
theorem ok__law_place {f : Addr} {fd : FuncData} {k : Nat} (F : Fun K "_law_place" "_law_place" s__law_place f fd) (T : Txt mg) : FnOk P w K mg base CX0 (k + 1) f fd ["_law_order_here", "_law_many", "_law_one"] (spT K rPlace) := by
  refine fn_ok F.d sc__law_place (fun dd t h => by obtain ⟨_, _, _, rfl, _⟩ := h; rfl) fun dd t h => ?_
  obtain ⟨o, n, x, rfl, rfl⟩ := h
  refine ⟨_, .inl rfl, ?_⟩
  unfold plF
  refine rns_ifr (p := o.contains x) (Et.s (et_in (ev_nm 2 rfl) (ev_nm 0 rfl) rfl (by with_unfolding_all rfl))) (fun h => ?_) fun h => ?_
  · rw [if_pos h]
    exact rns_one (rn_ret (Ev.s (ev_index (ev_nm 0 rfl) rfl (ev_nm 2 rfl) (List.contains_iff_mem.mp h))))
  rw [if_neg (by rw [h]; exact Bool.false_ne_true)]
  refine rns_ifr (Et.s (et_eq (ev_nm 2 rfl) (ev_nm 1 rfl))) (fun h => ?_) fun h => ?_
  · rw [if_pos (of_decide_eq_true h)]
    exact rns_one (rn_ret (EvS.to (Ev.s (ev_len T.b_len (ev_nm 0 rfl) (.inl rfl))) (by rw [List.length_map])))
  rw [if_neg (of_decide_eq_false h)]
  exact rns_one (rn_ret (EvS.to (Ev.s (ev_add (ev_add (ev_len T.b_len (ev_nm 0 rfl) (.inl rfl)) ev_int) (ev_nm 2 rfl))) (by rw [List.length_map])))
def waF (A : Nat) (S : Nat → List Int) (b : Nat) : List Int := (numsF A).filter fun x => decide (0 < topAt (S x.toNat) b)
def ahF (n A : Nat) (os : List (List Int)) (S : Nat → List Int) (a b : Nat) : List Int := (waF A S b).filter fun x => decide (plF n (os.getD x.toNat []) a < plF n (os.getD x.toNat []) b)
def cnB (n A : Nat) (os : List (List Int)) (S : Nat → List Int) (a b : Nat) : Bool := !(ahF n A os S a b).isEmpty
def rwK (n A : Nat) (os : List (List Int)) (S : Nat → List Int) (a m : Nat) : List (Nat × Nat) := ((List.range m).filter fun b => cnB n A os S a b).map fun b => (a, b)
def duK (n A : Nat) (os : List (List Int)) (S : Nat → List Int) (k : Nat) : List (Nat × Nat) := (List.range k).flatMap fun a => rwK n A os S a (n + 1)
theorem rwK_succ (n A : Nat) (os : List (List Int)) (S : Nat → List Int) (a m : Nat) : rwK n A os S a (m + 1) = rwK n A os S a m ++ if cnB n A os S a m = true then [(a, m)] else [] := by
  unfold rwK
  rw [List.range_succ, List.filter_append, List.map_append, List.filter_cons, List.filter_nil]
  split <;> simp
theorem duK_succ (n A : Nat) (os : List (List Int)) (S : Nat → List Int) (k : Nat) : duK n A os S (k + 1) = duK n A os S k ++ rwK n A os S k (n + 1) := by
  unfold duK
  rw [List.range_succ, List.flatMap_append]
  simp
theorem rwK_len (n A : Nat) (os : List (List Int)) (S : Nat → List Int) (a m : Nat) : (rwK n A os S a m).length ≤ m := by
  unfold rwK
  rw [List.length_map]
  have := List.length_filter_le (fun b => cnB n A os S a b) (List.range m)
  rw [List.length_range] at this
  exact this
theorem duK_len (n A : Nat) (os : List (List Int)) (S : Nat → List Int) : ∀ k, (duK n A os S k).length ≤ k * (n + 1)
  | 0 => Nat.zero_le _
  | k + 1 => by
    rw [duK_succ, List.length_append, Nat.succ_mul]
    have := duK_len n A os S k
    have := rwK_len n A os S k (n + 1)
    omega
theorem fW_gt {W s : Int} (h : 0 < W) (s0 : 0 ≤ s) : decide (0 < (fW W s).1) = decide (0 < s) := by
  have c := fW_cross (s := s) h
  have p := fW_pos (s := s) h
  have n := fW_nonneg (s := s) h s0
  rw [decide_eq_decide]
  constructor
  · intro z
    rcases Int.lt_or_le 0 s with q | q
    · exact q
    · have : s = 0 := by omega
      rw [this, fW_zero h] at z
      exact absurd z (by decide)
  · intro z
    rcases Int.lt_or_le 0 (fW W s).1 with q | q
    · exact q
    · have e : (fW W s).1 = 0 := by omega
      rw [e, Int.zero_mul] at c
      have := Int.mul_pos z p
      omega
abbrev nDU : List Str := ["_law_many", "_law_orders_here", "_law_shares", "_law_found", "_law_better", "_law_one", "_law_wants", "_law_ahead"]
abbrev s__law_due : Stmt := top 33
theorem sc__law_due : FnScope nDU ["_law_many", "_law_orders_here", "_law_shares"] (defScope s__law_due) := ⟨rfl, rfl, rfl, by decide +kernel, rfl, by decide +kernel, by decide +kernel⟩
theorem eq_nilD (l : List Int) : eqD (dis l) (.lst []) = l.isEmpty := by cases l <;> rfl
theorem tPs_app (l r : List (Nat × Nat)) : tPs (l ++ r) = .ow (((l.map lP).map fun d => .fz (dT d)) ++ ((r.map lP).map fun d => .fz (dT d))) := by show Tr.ow _ = Tr.ow _; rw [List.map_append, List.map_append]
def rDue (dd : List Dv) (t : Tr) : Prop := ∃ (c : List Int) (os : List (List Int)) (W : Int) (S : Nat → List Int), TabOk c os ∧ (∀ a, a < os.length → RowOk W c.length (S a)) ∧ dd = [di c.length, .lst (os.map dis), dSh W os.length S] ∧ t = tPs (duK c.length os.length os S (c.length + 1))
theorem ok__law_due {f f1 : Addr} {fd fd1 : FuncData} {k : Nat} (F : Fun K "_law_due" "_law_due" s__law_due f fd) (T : Txt mg) (K__law_place : Kn P w K mg base CX0 (k + 1) "_law_place" f1 fd1 ["_law_order_here", "_law_many", "_law_one"] (spT K rPlace)) : FnOk P w K mg base CX0 (k + 2) f fd ["_law_many", "_law_orders_here", "_law_shares"] (spT K rDue) := by
  refine fn_ok F.d sc__law_due (fun dd t h => by obtain ⟨_, _, _, _, _, _, rfl, _⟩ := h; rfl) fun dd t h => ?_
  obtain ⟨c, os, W, S, ok, rok, rfl, rfl⟩ := h
  refine ⟨_, .inl rfl, ?_⟩
  have big : 1000 < sizeLine := by decide
  have o6 := ok.o6
  have c6 := ok.c6
  obtain ⟨n, en⟩ : ∃ n, n = c.length := ⟨_, rfl⟩
  rw [← en] at rok c6 ⊢
  obtain ⟨A, eA⟩ : ∃ A, A = os.length := ⟨_, rfl⟩
  rw [← eA] at rok o6 ⊢
  refine rns_cons (rn_set 3 (Ev.s (ev_lst eva_nil (Nat.zero_le _))) (fun _ => sc__law_due.nd)) ?_
  have rl : ((rngD 0 (((n : Nat) : Int) + 1).toNat)).length = n + 1 := by rw [List.length_map, List.length_range]; omega
  refine rns_cons (rn_for (EvI.s (evi_range1 T.b_range (ev_add (ev_nm 0 rfl) ev_int) ⟨by omega, by omega⟩)) (evg_nm 4 (fun _ => sc__law_due.nd)) (fun k => [some (ti n), some (.fz (.lst (os.map dis))), some (.fz (dSh W A S)), some (tPs (duK n A os S k)), none, none, none, none]) rfl (fun _ => rfl) (fun a d hd => ?_)) ?_
  · obtain ⟨ha, rfl⟩ := rng_get hd
    have ha : a ≤ n := by omega
    rw [Int.zero_add]
    have dl := duK_len n A os S a
    have dl2 : a * (n + 1) ≤ 42 := Nat.le_trans (Nat.mul_le_mul ha (show n + 1 ≤ 7 by omega)) (by omega)
    refine ⟨_, _, rfl, rns_one (rn_for (EvI.s (evi_range1 T.b_range (ev_add (ev_nm 0 rfl) ev_int) ⟨by omega, by omega⟩)) (evg_nm 5 (fun _ => sc__law_due.nd)) (fun m => [some (ti n), some (.fz (.lst (os.map dis))), some (.fz (dSh W A S)), some (tPs (duK n A os S a ++ rwK n A os S a m)), some (ti a), none, none, none]) ?_ (fun _ => rfl) (fun b d hd => ?_)), [4], ?_⟩
    · show [_, _, _, some (tPs (duK n A os S a ++ [])), _, _, _, _] = _
      rw [List.append_nil]; rfl
    · obtain ⟨hb, rfl⟩ := rng_get hd
      have hb : b ≤ n := by omega
      rw [Int.zero_add]
      have rl2 := rwK_len n A os S a b
      have wsub : ∀ x ∈ waF A S b, 0 ≤ x ∧ x < A := fun x hx => mem_nums.mp (List.mem_filter.mp hx).1
      have wlen : (waF A S b).length ≤ 6 := by
        have := List.length_filter_le (fun x : Int => decide (0 < topAt (S x.toNat) b)) (numsF A)
        rw [show (numsF A).length = A by unfold numsF; rw [List.length_map, List.length_range]] at this
        exact Nat.le_trans this o6
      have oat : ∀ x : Int, 0 ≤ x → x < A → atI (os.map dis) x = some (dis (os.getD x.toNat [])) := fun x h0 h1 => by
        obtain ⟨j, rfl⟩ : ∃ j : Nat, x = (j : Int) := ⟨x.toNat, by omega⟩
        refine atI_nat ?_
        rw [List.getElem?_map, List.getElem?_eq_getElem (by omega), Int.toNat_natCast, List.getD_eq_getElem?_getD, List.getElem?_eq_getElem (by omega)]; rfl
      have sat : ∀ x : Int, 0 ≤ x → x < A → atI ((List.range A).map fun a => dRow W (S a)) x = some (dRow W (S x.toNat)) := fun x h0 h1 => by
        obtain ⟨j, rfl⟩ : ∃ j : Nat, x = (j : Int) := ⟨x.toNat, by omega⟩
        refine atI_nat ?_
        rw [List.getElem?_map, List.getElem?_range (by omega), Int.toNat_natCast]; rfl
      refine ⟨_, _, rfl, rns_cons (rn_lcG 6 (ElcS (Elc.as (d := dis (waF A S b)) (elcf (own := ["_law_k"]) (fr := [5, 2]) (numsF A) di (fun x => decide (0 < topAt (S x.toNat) b)) ti (EvI.to (evi_range1 T.b_range (ev_len T.b_len (ev_nm 1 rfl) (.inl rfl)) ⟨by omega, by rw [List.length_map]; omega⟩) ?_) (evg_nm 0 (fun _ => by show List.Nodup (["_law_k", "_law_one", "_law_shares"] : List Str); decide)) (by decide) (by rw [show (numsF A).length = A by unfold numsF; rw [List.length_map, List.length_range]]; omega) (fun x hx => ?_) (fun dd => by cases dd <;> rfl)) ?_)) (fun i => lcs ⟨rfl, rfl, by decide +kernel, by decide +kernel, by decide +kernel, by decide +kernel⟩) (fun _ => sc__law_due.nd)) (rns_cons (rn_lcG 7 (ElcS (Elc.as (d := dis (ahF n A os S a b)) (elcf (own := ["_law_k"]) (fr := [0, 4, 5, 1]) (waF A S b) di (fun x => decide (plF n (os.getD x.toNat []) a < plF n (os.getD x.toNat []) b)) ti (evi_list (ev_nm 6 rfl) rfl) (evg_nm 0 (fun _ => by show List.Nodup (["_law_k", "_law_many", "_law_better", "_law_one", "_law_orders_here"] : List Str); decide)) (by decide) (by omega) (fun x hx => ?_) (fun dd => by cases dd <;> rfl)) ?_)) (fun i => lcs ⟨rfl, rfl, by decide +kernel, by decide +kernel, by decide +kernel, by decide +kernel⟩) (fun _ => sc__law_due.nd)) (rns_one (rn_if (o := .nx [some (ti n), some (.fz (.lst (os.map dis))), some (.fz (dSh W A S)), some (tPs (duK n A os S a ++ rwK n A os S a (b + 1))), some (ti a), some (ti b), some (.fz (dis (waF A S b))), some (.fz (dis (ahF n A os S a b)))]) (p := cnB n A os S a b) (EtS.to (Et.s (et_neS (ev_nm 7 rfl) (ev_lst eva_nil (Nat.zero_le _)) (.inl ⟨_, _, rfl, rfl⟩) (Nat.le_trans (dpD_dis _) (by decide)))) ?_) (fun h => Rns.to (rns_one (rn_append 3 rfl (Ev.s (ev_tupD (dd := [di a, di b]) (eva_cons (ev_nm 4 rfl) (eva_cons (ev_nm 5 rfl) eva_nil)) rfl (by show 2 ≤ sizeLine; decide))) ?_)) ?_) (fun h => Rns.to rns_nil ?_)))), [5, 6, 7], rfl⟩
      · rw [List.length_map, ← eA, Int.toNat_natCast]
        unfold numsF
        rw [List.map_map]; rfl
      · have hx' := mem_nums.mp hx
        have R := rok x.toNat (by omega)
        refine ⟨_, rfl, ?_, fun _ => by exact ev_nm 0 rfl⟩
        have tk := topAt_ok R b
        exact el_one (Et.to (et_gt (ev_ixT (d := di (fW W (topAt (S x.toNat) b)).1) (ev_ix (ev_ix (ev_nm 2 rfl) (ev_nm 0 rfl) rfl (sat x hx'.1 hx'.2)) (ev_nm 1 rfl) rfl (rowAt R (by omega) (by omega))) ev_int rfl rfl) ev_int) (fW_gt R.w0 tk.1))
      · rw [er_map, List.map_id']; rfl
      · have hx' := wsub x hx
        refine ⟨_, rfl, ?_, fun _ => by exact ev_nm 0 rfl⟩
        exact el_one (et_lt (ev_call K__law_place (Nat.le_refl _) (eva_cons (ev_ix (ev_nm 4 rfl) (ev_nm 0 rfl) rfl (oat x hx'.1 hx'.2)) (eva_cons (ev_nm 1 rfl) (eva_cons (ev_nm 2 rfl) eva_nil))) ⟨_, n, a, rfl, rfl⟩) (ev_call K__law_place (Nat.le_refl _) (eva_cons (ev_ix (ev_nm 4 rfl) (ev_nm 0 rfl) rfl (oat x hx'.1 hx'.2)) (eva_cons (ev_nm 1 rfl) (eva_cons (ev_nm 3 rfl) eva_nil))) ⟨_, n, b, rfl, rfl⟩))
      · rw [er_map, List.map_id']; rfl
      · show (!eqD (dis _) (.lst [])) = _
        rw [eq_nilD]; rfl
      · rw [List.length_map, List.length_map, List.length_append]; omega
      · show Out.nx [_, _, _, some (.ow _), _, _, _, _] = _
        rw [rwK_succ, if_pos h, ← List.append_assoc, tPs_app]
        rfl
      · rw [rwK_succ, if_neg (by rw [h]; exact Bool.false_ne_true), List.append_nil]
        rfl
    · show [_, _, _, some (tPs _), _, _, _, _] = _
      rw [duK_succ, rl]
  · rw [rl]
    exact rns_one (rn_retO 3 rfl)
abbrev s__law_told : Stmt := top 34
theorem sc__law_told : FnScope ["_law_found", "_law_due_here", "_law_row", "_law_other"] ["_law_found", "_law_due_here"] (defScope s__law_told) := ⟨rfl, rfl, rfl, by decide +kernel, rfl, by decide +kernel, by decide +kernel⟩
abbrev dPr (p : Nat × Nat) : Dv := dT (lP p)
theorem okD_dPr (p : Nat × Nat) : okD (dPr p) = true := rfl
theorem dpD_dPr (p : Nat × Nat) : dpD (dPr p) ≤ 1 := by
  show dpDs _ + 1 ≤ 1
  exact Nat.succ_le_succ (dpDs_le fun d hd => by
    rcases List.mem_cons.mp hd with rfl | hd
    · exact Nat.le_refl _
    · rw [List.mem_singleton.mp hd]; exact Nat.le_refl _)
def rTold (dd : List Dv) (t : Tr) : Prop := ∃ ps : List (Nat × Nat), dd = [.lst (ps.map dPr), .lst (ps.map dPr)] ∧ t = tb true
theorem ok__law_told {f : Addr} {fd : FuncData} {k : Nat} (F : Fun K "_law_told" "_law_told" s__law_told f fd) (T : Txt mg) : FnOk P w K mg base CX0 (k + 1) f fd ["_law_found", "_law_due_here"] (spT K rTold) := by
  refine fn_ok F.d sc__law_told (fun dd t h => by obtain ⟨_, rfl, _⟩ := h; rfl) fun dd t h => ?_
  obtain ⟨ps, rfl, rfl⟩ := h
  refine ⟨_, .inl rfl, ?_⟩
  refine rns_cons (rn_skip (Et.s (Ew.et (ew_or (et_not (et_val (ev_isi (bo := true) T.b_isinstance T.b_list bt_list (ev_nm 0 rfl) (by with_unfolding_all rfl)))) fun _ => (ew_or1 (et_ne (ev_len T.b_len (ev_nm 0 rfl) (.inl rfl)) (ev_len T.b_len (ev_nm 1 rfl) (.inl rfl))))))) (by simp)) ?_
  refine rns_look (t := tb false) (EvI.s (EvI.to (evi_zip T.b_zip (ev_nm 0 rfl) (ev_nm 1 rfl) rfl rfl) (zip_maps dPr dPr ps))) (evg_t2 2 3 (fun _ => sc__law_told.nd)) rfl (fun _ => true) (fun d hd => ?_) (fun _ => rns_one (rn_ret (Ev.s ev_bl))) (fun h => ?_)
  · obtain ⟨p, hm, rfl⟩ := List.mem_map.mp hd
    have a0 : atI [di (p.1 : Int), di (p.2 : Int)] 0 = some (di (p.1 : Int)) := rfl
    have a1 : atI [di (p.1 : Int), di (p.2 : Int)] 1 = some (di (p.2 : Int)) := rfl
    refine ⟨_, rfl, fun _ => ⟨_, rns_cons (rn_skip (Et.s (Ew.et (ew_or (et_not (et_val (ev_isi (bo := true) T.b_isinstance T.b_tuple bt_tuple (ev_nm 2 rfl) (by with_unfolding_all rfl)))) fun _ => (ew_or (et_ne (ev_len T.b_len (ev_nm 2 rfl) (.inr rfl)) ev_int) fun _ => (ew_or1 (et_neS (ev_nm 2 rfl) (ev_nm 3 rfl) (.inr ⟨_, _, rfl, rfl⟩) (Nat.le_trans (dpD_dPr p) (by decide)))))))) ?_) (rns_one (rn_skip (Et.s (Ew.et (ew_or (et_val (ev_isi (bo := false) T.b_isinstance T.b_bool bt_bool (ev_ixT (ev_nm 2 rfl) ev_int rfl a0) (by with_unfolding_all rfl))) fun _ => (ew_or1 (et_val (ev_isi (bo := false) T.b_isinstance T.b_bool bt_bool (ev_ixT (ev_nm 2 rfl) ev_int rfl a1) (by with_unfolding_all rfl))))))) rfl)), [2, 3], rfl⟩, fun h => by cases h⟩
    show (!true || (!decide ((2 : Int) = 2) || !eqD (dPr p) (dPr p))) = false
    rw [eqD_refl (okD_dPr p)]; rfl
  · rw [List.all_eq_true.mpr fun _ _ => rfl] at h
    cases h
def Bef (l : List Int) (x b : Int) : Prop := ∃ (j : Nat), l[j]? = some b ∧ x ∈ l.take j
theorem bef_app {l r : List Int} {x b : Int} : Bef (l ++ r) x b ↔ Bef l x b ∨ (x ∈ l ∧ b ∈ r) ∨ Bef r x b := by
  constructor
  · rintro ⟨j, h1, h2⟩
    rcases Nat.lt_or_ge j l.length with h | h
    · rw [List.getElem?_append_left h] at h1
      rw [List.take_append_of_le_length (Nat.le_of_lt h)] at h2
      exact .inl ⟨j, h1, h2⟩
    · rw [List.getElem?_append_right h] at h1
      rw [List.take_append, List.take_of_length_le h] at h2
      rcases List.mem_append.mp h2 with h2 | h2
      · exact .inr (.inl ⟨h2, List.mem_of_getElem? h1⟩)
      · exact .inr (.inr ⟨j - l.length, h1, h2⟩)
  · rintro (⟨j, h1, h2⟩ | ⟨h1, h2⟩ | ⟨j, h1, h2⟩)
    · have h := (List.getElem?_eq_some_iff.mp h1).1
      exact ⟨j, by rw [List.getElem?_append_left h]; exact h1, by rw [List.take_append_of_le_length (Nat.le_of_lt h)]; exact h2⟩
    · obtain ⟨j, hj, ej⟩ := List.getElem_of_mem h2
      refine ⟨l.length + j, ?_, ?_⟩
      · rw [List.getElem?_append_right (by omega), show l.length + j - l.length = j by omega, List.getElem?_eq_getElem hj, ej]
      · rw [List.take_append, List.take_of_length_le (by omega)]
        exact List.mem_append_left _ h1
    · refine ⟨l.length + j, ?_, ?_⟩
      · rw [List.getElem?_append_right (by omega), show l.length + j - l.length = j by omega]; exact h1
      · rw [List.take_append, show l.length + j - l.length = j by omega]
        exact List.mem_append_right _ h2
theorem bef_idx {l : List Int} (nd : l.Nodup) {x b : Int} : Bef l x b ↔ x ∈ l ∧ b ∈ l ∧ l.idxOf x < l.idxOf b := by
  constructor
  · rintro ⟨j, h1, h2⟩
    obtain ⟨hj, rfl⟩ := List.getElem?_eq_some_iff.mp h1
    obtain ⟨i, hi, rfl⟩ := List.mem_take_iff_getElem.mp h2
    rw [nd.idxOf_getElem j hj, nd.idxOf_getElem i (by omega)]
    exact ⟨List.getElem_mem _, List.getElem_mem _, by omega⟩
  · rintro ⟨h1, h2, h3⟩
    have k1 := List.idxOf_lt_length_iff.mpr h1
    have k2 := List.idxOf_lt_length_iff.mpr h2
    refine ⟨l.idxOf b, by rw [List.getElem?_eq_getElem k2, List.getElem_idxOf k2], List.mem_take_iff_getElem.mpr ⟨l.idxOf x, by omega, List.getElem_idxOf k1⟩⟩
theorem bef_up {l : List Int} (up : l.Pairwise (· < ·)) {x b : Int} : Bef l x b ↔ x ∈ l ∧ b ∈ l ∧ x < b := by
  constructor
  · rintro ⟨j, h1, h2⟩
    obtain ⟨hj, rfl⟩ := List.getElem?_eq_some_iff.mp h1
    obtain ⟨i, hi, rfl⟩ := List.mem_take_iff_getElem.mp h2
    exact ⟨List.getElem_mem _, List.getElem_mem _, List.pairwise_iff_getElem.mp up i j (by omega) hj (by omega)⟩
  · rintro ⟨h1, h2, h3⟩
    obtain ⟨i, hi, rfl⟩ := List.getElem_of_mem h1
    obtain ⟨j, hj, rfl⟩ := List.getElem_of_mem h2
    have : i < j := by
      rcases Nat.lt_trichotomy i j with z | z | z
      · exact z
      · subst z; omega
      · have := List.pairwise_iff_getElem.mp up j i hj hi z; omega
    exact ⟨j, List.getElem?_eq_getElem hj, List.mem_take_iff_getElem.mpr ⟨i, by omega, rfl⟩⟩
theorem bef_one {n x b : Int} : ¬ Bef [n] x b := by
  rintro ⟨j, h1, h2⟩
  have := (List.getElem?_eq_some_iff.mp h1).1
  rw [List.length_singleton] at this
  have : j = 0 := by omega
  subst this
  cases h2
theorem bef_full {n : Nat} {o : List Int} (nd : o.Nodup) (hr : ∀ x ∈ o, 0 ≤ x ∧ x < n) {x b : Int} (hx : 0 ≤ x ∧ x ≤ n) (hb : 0 ≤ b ∧ b ≤ n) : Bef (fullF n o) x b ↔ plF n o x < plF n o b := by
  have mr : ∀ y : Int, 0 ≤ y → y ≤ n → (y ∈ restF n o ↔ y ∉ o ∧ y ≠ n) := fun y h0 h1 => by
    unfold restF
    simp only [List.mem_map, List.mem_filter, List.mem_range]
    constructor
    · rintro ⟨k, ⟨h2, h3⟩, rfl⟩
      exact ⟨by simpa using h3, by omega⟩
    · rintro ⟨h2, h3⟩
      refine ⟨y.toNat, ⟨by omega, ?_⟩, by omega⟩
      rw [show 0 + ((y.toNat : Nat) : Int) = y by omega]
      simpa using h2
  have up : (restF n o).Pairwise (· < ·) := by
    unfold restF
    exact List.Pairwise.map _ (fun a b (h : a < b) => by omega) ((List.pairwise_lt_range (n := n)).filter _)
  unfold fullF
  rw [bef_app, bef_app, bef_idx nd, bef_up up, mr x hx.1 hx.2, mr b hb.1 hb.2]
  simp only [List.mem_append, List.mem_singleton]
  have no : (n : Int) ∉ o := fun z => by have := hr _ z; omega
  unfold plF
  have cx : (o.contains x = true) = (x ∈ o) := propext List.contains_iff_mem
  have cb : (o.contains b = true) = (b ∈ o) := propext List.contains_iff_mem
  have lx : x ∈ o → o.idxOf x < o.length := fun z => List.idxOf_lt_length_iff.mpr z
  have lb : b ∈ o → o.idxOf b < o.length := fun z => List.idxOf_lt_length_iff.mpr z
  have f1 := bef_one (n := (n : Int)) (x := x) (b := b)
  simp only [cx, cb]
  by_cases h1 : x ∈ o
  · have := lx h1
    by_cases h2 : b ∈ o
    · have : b ≠ n := fun z => no (z ▸ h2)
      rw [if_pos h1, if_pos h2]
      constructor
      · rintro ((z | z | z) | z | z)
        · have := z.2.2; omega
        · exact absurd z.2 this
        · exact absurd z f1
        · exact absurd h2 z.2.1
        · exact absurd h1 z.1.1
      · intro z
        exact .inl (.inl ⟨h1, h2, by omega⟩)
    · by_cases h3 : b = n
      · rw [if_pos h1, if_neg h2, if_pos h3]
        exact ⟨fun _ => by omega, fun _ => .inl (.inr (.inl ⟨h1, h3⟩))⟩
      · rw [if_pos h1, if_neg h2, if_neg h3]
        exact ⟨fun _ => by omega, fun _ => .inr (.inl ⟨.inl h1, h2, h3⟩)⟩
  · by_cases h3 : x = n
    · rw [if_neg h1, if_pos h3]
      by_cases h2 : b ∈ o
      · have := lb h2
        rw [if_pos h2]
        constructor
        · rintro ((z | z | z) | z | z)
          · exact absurd z.1 h1
          · exact absurd z.1 h1
          · exact absurd z f1
          · exact absurd h2 z.2.1
          · exact absurd h3 z.1.2
        · intro z; omega
      · by_cases h4 : b = n
        · rw [if_neg h2, if_pos h4]
          constructor
          · rintro ((z | z | z) | z | z)
            · exact absurd z.1 h1
            · exact absurd z.1 h1
            · exact absurd z f1
            · exact absurd h4 z.2.2
            · exact absurd h3 z.1.2
          · intro z; omega
        · rw [if_neg h2, if_neg h4]
          exact ⟨fun _ => by omega, fun _ => .inr (.inl ⟨.inr h3, h2, h4⟩)⟩
    · rw [if_neg h1, if_neg h3]
      by_cases h2 : b ∈ o
      · have := lb h2
        rw [if_pos h2]
        constructor
        · rintro ((z | z | z) | z | z)
          · exact absurd z.1 h1
          · exact absurd z.1 h1
          · exact absurd z f1
          · exact absurd h2 z.2.1
          · exact absurd h2 z.2.1.1
        · intro z; omega
      · by_cases h4 : b = n
        · rw [if_neg h2, if_pos h4]
          constructor
          · rintro ((z | z | z) | z | z)
            · exact absurd z.1 h1
            · exact absurd z.1 h1
            · exact absurd z f1
            · exact absurd h4 z.2.2
            · exact absurd h4 z.2.1.2
          · intro z; omega
        · rw [if_neg h2, if_neg h4]
          constructor
          · rintro ((z | z | z) | z | z)
            · exact absurd z.1 h1
            · exact absurd z.1 h1
            · exact absurd z f1
            · rcases z.1 with q | q
              · exact absurd q h1
              · exact absurd q h3
            · have := z.2.2; omega
          · intro z
            exact .inr (.inr ⟨⟨h1, h3⟩, ⟨h2, h4⟩, by omega⟩)
theorem range_cut (k d : Nat) (q : Nat → Bool) : (List.range (k + d)).filter (fun b => decide (b < k) && q b) = (List.range k).filter q := by
  rw [List.range_add, List.filter_append]
  have h2 : ((List.range d).map fun x => k + x).filter (fun b => decide (b < k) && q b) = [] := by
    rw [List.filter_eq_nil_iff]
    intro x hx
    obtain ⟨y, _, rfl⟩ := List.mem_map.mp hx
    rw [decide_eq_false (by omega)]
    exact Bool.false_ne_true
  rw [h2, List.append_nil]
  refine List.filter_congr fun x hx => ?_
  rw [decide_eq_true (List.mem_range.mp hx), Bool.true_and]
theorem flat_cut {α : Type} (k d : Nat) (f : Nat → List α) (h : ∀ a, k ≤ a → f a = []) : (List.range (k + d)).flatMap f = (List.range k).flatMap f := by
  rw [List.range_add, List.flatMap_append]
  have h2 : ((List.range d).map fun x => k + x).flatMap f = [] := by
    rw [List.flatMap_eq_nil_iff]
    intro x hx
    obtain ⟨y, _, rfl⟩ := List.mem_map.mp hx
    exact h _ (by omega)
  rw [h2, List.append_nil]
theorem due_filter {n A : Nat} (hn : n ≤ 6) (os : List (List Int)) (S : Nat → List Int) : duK n A os S (n + 1) = Ts.allP.filter fun p => decide (p.1 < n + 1) && (decide (p.2 < n + 1) && cnB n A os S p.1 p.2) := by
  unfold Ts.allP duK
  rw [List.filter_flatMap]
  obtain ⟨d, hd⟩ : ∃ d, 7 = (n + 1) + d := ⟨6 - n, by omega⟩
  have inner : ∀ a, ((List.range 7).map fun b => (a, b)).filter (fun p : Nat × Nat => decide (p.1 < n + 1) && (decide (p.2 < n + 1) && cnB n A os S p.1 p.2)) = if a < n + 1 then rwK n A os S a (n + 1) else [] := fun a => by
    rw [List.filter_map]
    by_cases ha : a < n + 1
    · rw [if_pos ha]
      unfold rwK
      congr 1
      rw [hd, ← range_cut (n + 1) d]
      refine List.filter_congr fun b _ => ?_
      show (decide (a < n + 1) && (decide (b < n + 1) && cnB n A os S a b)) = _
      rw [decide_eq_true ha, Bool.true_and]
    · rw [if_neg ha, List.map_eq_nil_iff, List.filter_eq_nil_iff]
      intro b _
      show ¬ (decide (a < n + 1) && (decide (b < n + 1) && cnB n A os S a b)) = true
      rw [decide_eq_false ha]
      exact Bool.false_ne_true
  simp only [inner]
  conv => rhs; rw [hd]
  rw [flat_cut (n + 1) d _ fun a ha => by rw [if_neg (by omega)]]
  have : ∀ l : List Nat, (∀ a ∈ l, a < n + 1) → (l.flatMap fun a => rwK n A os S a (n + 1)) = l.flatMap fun a => if a < n + 1 then rwK n A os S a (n + 1) else [] := by
    intro l
    induction l with
    | nil => intro _; rfl
    | cons a l ih =>
      intro h
      rw [List.flatMap_cons, List.flatMap_cons, if_pos (h a (List.mem_cons_self ..)), ih fun x hx => h x (List.mem_cons_of_mem _ hx)]
  exact this _ fun a ha => List.mem_range.mp ha
theorem cn_iff {n A : Nat} {os : List (List Int)} {S : Nat → List Int} {a b : Nat} : cnB n A os S a b = true ↔ ∃ k, k < A ∧ 0 < topAt (S k) b ∧ plF n (os.getD k []) a < plF n (os.getD k []) b := by
  unfold cnB ahF waF
  constructor
  · intro h
    cases e : ((numsF A).filter fun x => decide (0 < topAt (S x.toNat) b)).filter fun x => decide (plF n (os.getD x.toNat []) a < plF n (os.getD x.toNat []) b) with
    | nil => rw [e] at h; cases h
    | cons x l =>
      have hx : x ∈ ((numsF A).filter fun x => decide (0 < topAt (S x.toNat) b)).filter fun x => decide (plF n (os.getD x.toNat []) a < plF n (os.getD x.toNat []) b) := by rw [e]; exact List.mem_cons_self ..
      obtain ⟨h1, h2⟩ := List.mem_filter.mp hx
      obtain ⟨h3, h4⟩ := List.mem_filter.mp h1
      have := mem_nums.mp h3
      exact ⟨x.toNat, by omega, of_decide_eq_true h4, of_decide_eq_true h2⟩
  · rintro ⟨k, h1, h2, h3⟩
    have hx : (k : Int) ∈ ((numsF A).filter fun x => decide (0 < topAt (S x.toNat) b)).filter fun x => decide (plF n (os.getD x.toNat []) a < plF n (os.getD x.toNat []) b) :=
      List.mem_filter.mpr ⟨List.mem_filter.mpr ⟨mem_nums.mpr ⟨by omega, by omega⟩, by rw [Int.toNat_natCast]; exact decide_eq_true h2⟩, by rw [Int.toNat_natCast]; exact decide_eq_true h3⟩
    cases e : ((numsF A).filter fun x => decide (0 < topAt (S x.toNat) b)).filter fun x => decide (plF n (os.getD x.toNat []) a < plF n (os.getD x.toNat []) b) with
    | nil => rw [e] at hx; cases hx
    | cons x l => rfl
theorem due_eq {c : List Int} {os : List (List Int)} {W : Int} {S : Nat → List Int} (ok : TabOk c os) (rok : ∀ a, a < os.length → RowOk W c.length (S a)) : outP (prF c.length os S) = duK c.length os.length os S (c.length + 1) := by
  have c6 := ok.c6
  rw [due_filter c6]
  unfold outP
  refine List.filter_congr fun p hp => ?_
  rw [Bool.eq_iff_iff, Bool.and_eq_true, Bool.and_eq_true, decide_eq_true_eq, decide_eq_true_eq, List.contains_iff_mem, cn_iff]
  have om : ∀ a, a < os.length → os.getD a [] ∈ os := fun a ha => by
    rw [List.getD_eq_getElem?_getD, List.getElem?_eq_getElem ha]
    exact List.getElem_mem _
  unfold prF
  rw [List.mem_map]
  constructor
  · rintro ⟨t, ht, rfl⟩
    obtain ⟨a, j, ha, hj, hz, x, hx, rfl⟩ := mem_wAll.mp ht
    have hr := ok.rng _ (om a ha)
    have fb := full_get hj
    have hb := (full_mem hr).mp (List.mem_of_getElem? fb)
    have hx' := (full_mem hr).mp (List.mem_of_mem_take hx)
    generalize (fullF c.length (os.getD a [])).getD j 0 = b at fb hb hz
    dsimp only
    refine ⟨by omega, by omega, a, ha, ?_, ?_⟩
    · rw [show ((b.toNat : Nat) : Int) = b by omega]
      have := topAt_ok (rok a ha) b
      omega
    · rw [show ((b.toNat : Nat) : Int) = b by omega, show ((x.toNat : Nat) : Int) = x by omega]
      exact (bef_full (ok.nd _ (om a ha)) hr hx' hb).mp ⟨j, fb, hx⟩
  · rintro ⟨h1, h2, a, ha, h3, h4⟩
    have hr := ok.rng _ (om a ha)
    obtain ⟨j, fb, hx⟩ := (bef_full (ok.nd _ (om a ha)) hr (x := (p.1 : Int)) (b := (p.2 : Int)) ⟨by omega, by omega⟩ ⟨by omega, by omega⟩).mpr h4
    have hj := (List.getElem?_eq_some_iff.mp fb).1
    have eb : (fullF c.length (os.getD a [])).getD j 0 = (p.2 : Int) := by rw [List.getD_eq_getElem?_getD, fb]; rfl
    refine ⟨((a : Int), (p.1 : Int), (p.2 : Int)), mem_wAll.mpr ⟨a, j, ha, hj, by rw [eb]; omega, (p.1 : Int), hx, by rw [eb]⟩, ?_⟩
    show (((p.1 : Nat) : Int).toNat, ((p.2 : Nat) : Int).toNat) = p
    rw [Int.toNat_natCast, Int.toNat_natCast]
end
end K22
namespace K22
open PySem L2 Fra
section
variable {P : Program} {w : World} {K : PySem.W.Frag} {mg : Str → Option Value} {base : Heap}
theorem er_tRowW (W : Int) (tops : List Int) : er (tRowW W tops) = dRow W tops := by
  unfold tRowW dRow
  rw [er_ow_map, List.map_map]; rfl
theorem okD_row (W : Int) (r : List Int) : okD (dRow W r) = true := okD_lst okD_dF _
theorem dpD_row (W : Int) (r : List Int) : dpD (dRow W r) ≤ 2 := dpD_lst fun d hd => by
  obtain ⟨p, _, rfl⟩ := List.mem_map.mp hd
  exact dpD_dF p
theorem er_T3 (ps : List (Nat × Nat)) : er (tPs ps) = .lst (ps.map dPr) := by rw [er_ow_map, List.map_map]; rfl
abbrev s_law : Stmt := top 35
theorem sc_law : FnScope ["_law_script", "_law_counts_here", "_law_orders_here", "_law_cells", "_law_shares", "_law_table", "_law_due_here", "_law_handed", "_law_found"] ["_law_script"] (defScope s_law) := ⟨rfl, rfl, rfl, by decide +kernel, rfl, by decide +kernel, by decide +kernel⟩
theorem ok_law {f f1 f2 f3 f4 f5 f6 f7 : Addr} {fd fd1 fd2 fd3 fd4 fd5 fd6 fd7 : FuncData} {k : Nat} (F : Fun K "law" "law" s_law f fd) (T : Txt mg) (K__law_cell_at : Kn P w K mg base CX0 (k + 1) "_law_cell_at" f1 fd1 ["_law_script", "_law_k"] (spT K rCell)) (K__law_tabled : Kn P w K mg base CX0 (k + 4) "_law_tabled" f2 fd2 ["_law_script"] (spT K rTabled))
    (K__law_drawn : Kn P w K mg base CX0 (k + 3) "_law_drawn" f3 fd3 ["_law_cells", "_law_counts_here", "_law_orders_here"] (spT K rDrawn)) (K_table_of : Kn P w K mg base CX0 (k + 2) "table_of" f4 fd4 ["counts", "orders"] (spT K rTab)) (K__law_due : Kn P w K mg base CX0 (k + 2) "_law_due" f5 fd5 ["_law_many", "_law_orders_here", "_law_shares"] (spT K rDue))
    (K_over_pairs : Kn P w K mg base CX0 (k + 4) "over_pairs" f6 fd6 ["table", "shares"] (spT K rOver)) (K__law_told : Kn P w K mg base CX0 (k + 1) "_law_told" f7 fd7 ["_law_found", "_law_due_here"] (spT K rTold)) : FnOk P w K mg base CX0 (k + 5) f fd ["_law_script"] (spT K rLaw) := by
  refine fn_ok F.d sc_law (fun dd t h => by obtain ⟨_, _, rfl, _⟩ := h; rfl) fun dd t h => ?_
  obtain ⟨ns, hns, rfl, rfl⟩ := h
  refine ⟨_, .inl rfl, ?_⟩
  have big : 1000 < sizeLine := by decide
  have r1 : k + 1 ≤ k + 4 := by omega
  have r2 : k + 2 ≤ k + 4 := by omega
  have r3 : k + 3 ≤ k + 4 := by omega
  have r4 : k + 4 ≤ k + 4 := by omega
  have ok := tabled_ok ns
  refine rns_cons (rn_set2 (Ev.s (ev_call K__law_tabled r4 (eva_cons (ev_nm 0 rfl) eva_nil) ⟨ns, rfl, rfl⟩)) (evg_t2 1 2 (fun _ => sc_law.nd)) rfl) ?_
  generalize tabC ns = cs at ok
  generalize tabO ns = os at ok
  have o6 := ok.o6
  have o1 := ok.o1
  have c6 := ok.c6
  show Rns _ _ [some (.fz (dis ns)), some (.fz (dis cs)), some (.fz (.lst (os.map dis))), none, none, none, none, none, none] _
  have e28 : er (.ow ((cutD (ns.map di) (some 9) (some 14)).map .fz)) = dis (cutD ns (some 9) (some 14)) := by rw [er_fzs, cutD_map]
  have c28 : (cutD ns (some 9) (some 14)).length ≤ 5 := by
    have := cutD_nat ns 9 14
    rw [show ((9 : Nat) : Int) = 9 from rfl, show ((14 : Nat) : Int) = 14 from rfl] at this
    rw [this, List.length_take, List.length_drop]; omega
  refine rns_cons (rn_set 3 (Ev.s (Ev.as (d := dis (cutD ns (some 9) (some 14))) (ev_slice (ev_nm 0 rfl) rfl (eo_some ev_int) (eo_some ev_int)) e28)) (fun _ => sc_law.nd)) ?_
  generalize cutD ns (some 9) (some 14) = l28 at c28
  show Rns _ _ [some (.fz (dis ns)), some (.fz (dis cs)), some (.fz (.lst (os.map dis))), some (.fz (dis l28)), none, none, none, none, none] _
  have dp28 : dpD (er (.fz (dis l28))) ≤ 50 := Nat.le_trans (dpD_dis l28) (by decide)
  obtain ⟨cells, c1, c6', hcells⟩ : ∃ cells : List Int, 1 ≤ cells.length ∧ cells.length ≤ 6 ∧ Rn (famD P w K mg base ["_law_script", "_law_counts_here", "_law_orders_here", "_law_cells", "_law_shares", "_law_table", "_law_due_here", "_law_handed", "_law_found"] "law" (defScope s_law) f (k + 4)) ((defBody s_law).getD 2 (.Pass ⟨0, 0, 0, 0⟩)) [some (.fz (dis ns)), some (.fz (dis cs)), some (.fz (.lst (os.map dis))), some (.fz (dis l28)), none, none, none, none, none] (.nx [some (.fz (dis ns)), some (.fz (dis cs)), some (.fz (.lst (os.map dis))), some (.fz (dis cells)), none, none, none, none, none]) := by
    cases hq : l28.isEmpty with
    | true =>
      refine ⟨[cellF ns 8], Nat.le_refl _, by show 1 ≤ 6; decide, rn_ifT (Et.s (et_eqS (ev_nm 3 rfl) (ev_lst eva_nil (Nat.zero_le _)) (.inl ⟨_, _, rfl, rfl⟩) dp28)) ?_ (rns_one (rn_set 3 (Ev.s (Ev.as (d := dis [cellF ns 8]) (ev_lst (eva_cons (ev_call K__law_cell_at r1 (eva_cons (ev_nm 0 rfl) (eva_cons ev_int eva_nil)) ⟨ns, 8, by decide, rfl, rfl⟩) eva_nil) (by show 1 ≤ sizeLine; decide)) rfl)) (fun _ => sc_law.nd)))⟩
      show eqD (.lst (l28.map di)) (.lst []) = true
      rw [eq_nil, hq]
    | false =>
      refine ⟨l28, ?_, by omega, rn_skip (Et.s (et_eqS (ev_nm 3 rfl) (ev_lst eva_nil (Nat.zero_le _)) (.inl ⟨_, _, rfl, rfl⟩) dp28)) ?_⟩
      · cases l28 with
        | nil => cases hq
        | cons _ _ => rw [List.length_cons]; omega
      · show eqD (.lst (l28.map di)) (.lst []) = false
        rw [eq_nil, hq]
  refine rns_cons hcells ?_
  obtain ⟨W, eW⟩ : ∃ W, sumW cells = W := ⟨_, rfl⟩
  obtain ⟨S, hS⟩ : ∃ S : Nat → List Int, S = fun a : Nat => rowF cells cs os (0 + (a : Int)) := ⟨_, rfl⟩
  have rok : ∀ a, a < os.length → RowOk W cs.length (S a) := fun a _ => by
    rw [hS, ← eW]
    exact row_ok c1 (by omega)
  have eshr : er (.ow ((numsF os.length).map fun a => tRowW (sumW cells) (rowF cells cs os a))) = .lst ((List.range os.length).map fun a => dRow W (S a)) := by
    rw [er_ow_map, eW, hS]
    unfold numsF
    rw [List.map_map]
    congr 1
    exact List.map_congr_left fun a _ => er_tRowW _ _
  refine rns_cons (rn_set 4 (Ev.s (Ev.as (d := .lst ((List.range os.length).map fun a => dRow W (S a))) (ev_call K__law_drawn r3 (eva_cons (ev_nm 3 rfl) (eva_cons (ev_nm 1 rfl) (eva_cons (ev_nm 2 rfl) eva_nil))) ⟨cells, cs, os, c1, by omega, ok, rfl, rfl⟩) eshr)) (fun _ => sc_law.nd)) ?_
  have etab : er (.tp [tInts cs, tRows os]) = tabD cs os := by
    show Dv.tup [er _, er _] = _
    rw [er_tInts, er_tRows]; rfl
  refine rns_cons (rn_set 5 (Ev.s (Ev.as (d := tabD cs os) (ev_call K_table_of r2 (eva_cons (ev_list T.b_list (ev_nm 1 rfl) (.inl rfl)) (eva_cons (ev_lcm (own := ["_law_order_here"]) (fr := []) os dis tInts (fun i => lcs ⟨rfl, rfl, by decide +kernel, by decide +kernel, by decide +kernel, by decide +kernel⟩) (evi_list (ev_nm 2 rfl) rfl) (evg_nm 0 (fun _ => by show List.Nodup (["_law_order_here"] : List Str); decide)) (by decide) (by omega) (fun o ho => ⟨_, rfl, by exact Ev.to (ev_list T.b_list (ev_nm 0 rfl) (.inl rfl)) (by rw [ints_tr])⟩) (fun dd => by cases dd <;> rfl)) eva_nil)) ⟨cs, os, ok, ?_, rfl⟩) etab)) (fun _ => sc_law.nd)) ?_
  rotate_left
  · show [er (.ow _), er (.ow _)] = _
    rw [er_fzs, show er (Tr.ow (os.map tInts)) = .lst (os.map dis) from er_tRows os]
  refine rns_cons (rn_set 6 (Ev.s (Ev.as (d := .lst ((outP (prF cs.length os S)).map dPr)) (ev_call K__law_due r2 (eva_cons (ev_len T.b_len (ev_nm 1 rfl) (.inl rfl)) (eva_cons (ev_nm 2 rfl) (eva_cons (ev_nm 4 rfl) eva_nil))) ⟨cs, os, W, S, ok, rok, by show [di _, _, _] = _; rw [List.length_map]; rfl, rfl⟩) (by rw [er_T3, due_eq ok rok]))) (fun _ => sc_law.nd)) ?_
  have ehand : er (.ow ((List.range os.length).map fun a => Tr.ow ((((S a).map (fW W)).map dF).map .fz))) = .lst ((List.range os.length).map fun a => dRow W (S a)) := by
    rw [er_ow_map]
    congr 1
    exact List.map_congr_left fun a _ => er_fzs _
  refine rns_cons (rn_lcG 7 (ElcS (Elc.as (d := .lst ((List.range os.length).map fun a => dRow W (S a))) (elcm (own := ["_law_row"]) (fr := []) (List.range os.length) (fun a => dRow W (S a)) (fun a => Tr.ow ((((S a).map (fW W)).map dF).map .fz)) (evi_list (ev_nm 4 rfl) rfl) (evg_nm 0 (fun _ => by show List.Nodup (["_law_row"] : List Str); decide)) (by decide) (by rw [List.length_range]; omega) (fun a ha => ⟨_, rfl, by exact ev_list T.b_list (ev_nm 0 rfl) (.inl rfl)⟩) (fun dd => by cases dd <;> rfl)) ehand)) (fun i => lcs ⟨rfl, rfl, by decide +kernel, by decide +kernel, by decide +kernel, by decide +kernel⟩) (fun _ => sc_law.nd)) ?_
  have al : (outP (prF cs.length os S)).length ≤ 49 := Nat.le_trans (List.length_filter_le _ _) (by decide)
  refine rns_cons (rn_set 8 (Ev.s (ev_call K_over_pairs (Nat.le_refl _) (eva_cons (ev_nm 5 rfl) (eva_cons (ev_nm 7 rfl) eva_nil)) ⟨cs, os, W, S, ok, rok, rfl, rfl⟩)) (fun _ => sc_law.nd)) ?_
  generalize hE : outP (prF cs.length os S) = ps at al
  have eP := er_T3 ps
  have okS : okD (.lst ((List.range os.length).map fun a => dRow W (S a))) = true := okD_lst (fun a => okD_row W (S a)) _
  have dpS : dpD (.lst ((List.range os.length).map fun a => dRow W (S a))) ≤ 50 := Nat.le_trans (dpD_lst (n := 2) fun d hd => by
    obtain ⟨a, _, rfl⟩ := List.mem_map.mp hd
    exact dpD_row W (S a)) (by decide)
  refine rns_cons (rn_skip (Et.pk (Ew.et (ew_or (et_not (et_val (ev_call K__law_told r1 (eva_cons (ev_nm 8 rfl) (eva_cons (ev_nm 6 rfl) eva_nil)) ⟨ps, ?_, rfl⟩))) fun _ => (ew_or (et_neS (ev_nm 7 rfl) (ev_nm 4 rfl) (.inl ⟨_, _, rfl, rfl⟩) dpS) fun _ => (ew_or1 (et_neS (ev_nm 5 rfl) (ev_tup (eva_cons (ev_nm 1 rfl) (eva_cons (ev_nm 2 rfl) eva_nil)) (by show 2 ≤ sizeLine; decide)) (.inr ⟨_, _, rfl, rfl⟩) (Nat.le_trans (dpD_tab _ _) (by decide)))))))) ?_) ?_
  · show (!true || (!eqD (.lst ((List.range os.length).map fun a => dRow W (S a))) (.lst ((List.range os.length).map fun a => dRow W (S a))) || !eqD (tabD cs os) (tabD cs os))) = false
    rw [eqD_refl okS, eqD_refl (okD_tab _ _)]; rfl
  rotate_left
  · show [er (.ow _), _] = _
    rw [eP]; rfl
  refine rns_cons (rn_append 8 rfl (Ev.s (ev_tup (eva_cons ev_int (eva_cons ev_int eva_nil)) (by show 2 ≤ sizeLine; decide))) (by rw [List.length_map, List.length_map]; omega)) ?_
  refine rns_one (rn_ret (Ev.s (ev_call K__law_told r1 (eva_cons (ev_call K_over_pairs (Nat.le_refl _) (eva_cons (ev_nm 5 rfl) (eva_cons (ev_nm 7 rfl) eva_nil)) ⟨cs, os, W, S, ok, rok, rfl, rfl⟩) (eva_cons (ev_nm 6 rfl) eva_nil)) ⟨ps, ?_, rfl⟩)))
  show [er (.ow _), _] = _
  rw [er_T3, hE]; rfl
end
end K22
namespace K22
open PySem L2
theorem us1 {α : Type} {us : List α} (h : us.length = 1) : ∃ a0, us = [a0] := by
  rcases us with _ | ⟨a0, us⟩; · cases h
  rcases us with _ | ⟨b, us⟩
  · exact ⟨a0, rfl⟩
  · simp at h
theorem us2 {α : Type} {us : List α} (h : us.length = 2) : ∃ a0 a1, us = [a0, a1] := by
  rcases us with _ | ⟨a0, us⟩; · cases h
  rcases us with _ | ⟨a1, us⟩; · cases h
  rcases us with _ | ⟨b, us⟩
  · exact ⟨a0, a1, rfl⟩
  · simp at h
theorem us3 {α : Type} {us : List α} (h : us.length = 3) : ∃ a0 a1 a2, us = [a0, a1, a2] := by
  rcases us with _ | ⟨a0, us⟩; · cases h
  rcases us with _ | ⟨a1, us⟩; · cases h
  rcases us with _ | ⟨a2, us⟩; · cases h
  rcases us with _ | ⟨b, us⟩
  · exact ⟨a0, a1, a2, rfl⟩
  · simp at h
theorem all_mk {l : PySem.W.OpenLaw} {w : World} {K : PySem.W.Frag} {h : Heap} {mg : Str → Option Value} {fa : Addr} (X : K.In h) (G : h.Ns mainGlobals mg) (hfa : mg "law" = some (.ref fa))
    {f1 : Addr} {od1 an1 : Option Addr} {sl1 : Array (Option Value)} {oc1 kV1 dc1 pm1 cd1 ct1 : Value}
    {f2 : Addr} {od2 an2 : Option Addr} {sl2 : Array (Option Value)} {oc2 kV2 dc2 pm2 cd2 ct2 : Value}
    {f3 : Addr} {od3 an3 : Option Addr} {sl3 : Array (Option Value)} {oc3 kV3 dc3 pm3 cd3 ct3 : Value}
    {dt3 : Addr} {do3 : Value} {dd3 : Option Addr} {dn3 : Nat} {ds3 : Array (Option Value)} {tk3 : Tok}
    {f4 : Addr} {od4 an4 : Option Addr} {sl4 : Array (Option Value)} {oc4 kV4 dc4 pm4 cd4 ct4 : Value}
    {f5 : Addr} {od5 an5 : Option Addr} {sl5 : Array (Option Value)} {oc5 kV5 dc5 pm5 cd5 ct5 : Value}
    {f6 : Addr} {od6 an6 : Option Addr} {sl6 : Array (Option Value)} {oc6 kV6 dc6 pm6 cd6 ct6 : Value}
    {f7 : Addr} {od7 an7 : Option Addr} {sl7 : Array (Option Value)} {oc7 kV7 dc7 pm7 cd7 ct7 : Value}
    {f8 : Addr} {od8 an8 : Option Addr} {sl8 : Array (Option Value)} {oc8 kV8 dc8 pm8 cd8 ct8 : Value}
    {f9 : Addr} {od9 an9 : Option Addr} {sl9 : Array (Option Value)} {oc9 kV9 dc9 pm9 cd9 ct9 : Value}
    {f10 : Addr} {od10 an10 : Option Addr} {sl10 : Array (Option Value)} {oc10 kV10 dc10 pm10 cd10 ct10 : Value}
    {f11 : Addr} {od11 an11 : Option Addr} {sl11 : Array (Option Value)} {oc11 kV11 dc11 pm11 cd11 ct11 : Value}
    {f12 : Addr} {od12 an12 : Option Addr} {sl12 : Array (Option Value)} {oc12 kV12 dc12 pm12 cd12 ct12 : Value}
    {f13 : Addr} {od13 an13 : Option Addr} {sl13 : Array (Option Value)} {oc13 kV13 dc13 pm13 cd13 ct13 : Value}
    {f14 : Addr} {od14 an14 : Option Addr} {sl14 : Array (Option Value)} {oc14 kV14 dc14 pm14 cd14 ct14 : Value}
    {f15 : Addr} {od15 an15 : Option Addr} {sl15 : Array (Option Value)} {oc15 kV15 dc15 pm15 cd15 ct15 : Value}
    {f16 : Addr} {od16 an16 : Option Addr} {sl16 : Array (Option Value)} {oc16 kV16 dc16 pm16 cd16 ct16 : Value}
    {f17 : Addr} {od17 an17 : Option Addr} {sl17 : Array (Option Value)} {oc17 kV17 dc17 pm17 cd17 ct17 : Value}
    {f18 : Addr} {od18 an18 : Option Addr} {sl18 : Array (Option Value)} {oc18 kV18 dc18 pm18 cd18 ct18 : Value}
    {f19 : Addr} {od19 an19 : Option Addr} {sl19 : Array (Option Value)} {oc19 kV19 dc19 pm19 cd19 ct19 : Value}
    {f20 : Addr} {od20 an20 : Option Addr} {sl20 : Array (Option Value)} {oc20 kV20 dc20 pm20 cd20 ct20 : Value}
    {f21 : Addr} {od21 an21 : Option Addr} {sl21 : Array (Option Value)} {oc21 kV21 dc21 pm21 cd21 ct21 : Value}
    {f22 : Addr} {od22 an22 : Option Addr} {sl22 : Array (Option Value)} {oc22 kV22 dc22 pm22 cd22 ct22 : Value}
    {f23 : Addr} {od23 an23 : Option Addr} {sl23 : Array (Option Value)} {oc23 kV23 dc23 pm23 cd23 ct23 : Value}
    {gt1 : Tok} {gt2 : Tok}
    (a1 : PySem.W.nsIn K mainGlobals "is_whole" = some (some (.ref f1)))
    (l1 : K.lookup f1 = some ⟨oc1, od1, .func (PySem.W.fnOf "is_whole" "is_whole" (defArgs s_is_whole) (defBody s_is_whole) (defScope s_is_whole) .none kV1 dc1 pm1 an1 cd1 ct1), sl1⟩)
    (c1 : PySem.W.codeIn K cd1 "is_whole" = true)
    (k1 : PySem.W.keepIn K (.ref f1) = true)
    (a2 : PySem.W.nsIn K mainGlobals "common_part" = some (some (.ref f2)))
    (l2 : K.lookup f2 = some ⟨oc2, od2, .func (PySem.W.fnOf "common_part" "common_part" (defArgs s_common_part) (defBody s_common_part) (defScope s_common_part) .none kV2 dc2 pm2 an2 cd2 ct2), sl2⟩)
    (c2 : PySem.W.codeIn K cd2 "common_part" = true)
    (k2 : PySem.W.keepIn K (.ref f2) = true)
    (a3 : PySem.W.nsIn K mainGlobals "fraction" = some (some (.ref f3)))
    (l3 : K.lookup f3 = some ⟨oc3, od3, .func (PySem.W.fnOf "fraction" "fraction" (defArgs s_fraction) (defBody s_fraction) (defScope s_fraction) (.ref dt3) kV3 dc3 pm3 an3 cd3 ct3), sl3⟩)
    (d3 : K.lookup dt3 = some ⟨do3, dd3, .seq #[.int 1 tk3] dn3, ds3⟩)
    (c3 : PySem.W.codeIn K cd3 "fraction" = true)
    (k3 : PySem.W.keepIn K (.ref f3) = true)
    (a4 : PySem.W.nsIn K mainGlobals "check_orders" = some (some (.ref f4)))
    (l4 : K.lookup f4 = some ⟨oc4, od4, .func (PySem.W.fnOf "check_orders" "check_orders" (defArgs s_check_orders) (defBody s_check_orders) (defScope s_check_orders) .none kV4 dc4 pm4 an4 cd4 ct4), sl4⟩)
    (c4 : PySem.W.codeIn K cd4 "check_orders" = true)
    (k4 : PySem.W.keepIn K (.ref f4) = true)
    (a5 : PySem.W.nsIn K mainGlobals "table_of" = some (some (.ref f5)))
    (l5 : K.lookup f5 = some ⟨oc5, od5, .func (PySem.W.fnOf "table_of" "table_of" (defArgs s_table_of) (defBody s_table_of) (defScope s_table_of) .none kV5 dc5 pm5 an5 cd5 ct5), sl5⟩)
    (c5 : PySem.W.codeIn K cd5 "table_of" = true)
    (k5 : PySem.W.keepIn K (.ref f5) = true)
    (a6 : PySem.W.nsIn K mainGlobals "full_order" = some (some (.ref f6)))
    (l6 : K.lookup f6 = some ⟨oc6, od6, .func (PySem.W.fnOf "full_order" "full_order" (defArgs s_full_order) (defBody s_full_order) (defScope s_full_order) .none kV6 dc6 pm6 an6 cd6 ct6), sl6⟩)
    (c6 : PySem.W.codeIn K cd6 "full_order" = true)
    (k6 : PySem.W.keepIn K (.ref f6) = true)
    (a7 : PySem.W.nsIn K mainGlobals "wishes" = some (some (.ref f7)))
    (l7 : K.lookup f7 = some ⟨oc7, od7, .func (PySem.W.fnOf "wishes" "wishes" (defArgs s_wishes) (defBody s_wishes) (defScope s_wishes) .none kV7 dc7 pm7 an7 cd7 ct7), sl7⟩)
    (c7 : PySem.W.codeIn K cd7 "wishes" = true)
    (k7 : PySem.W.keepIn K (.ref f7) = true)
    (a8 : PySem.W.nsIn K mainGlobals "over_pairs" = some (some (.ref f8)))
    (l8 : K.lookup f8 = some ⟨oc8, od8, .func (PySem.W.fnOf "over_pairs" "over_pairs" (defArgs s_over_pairs) (defBody s_over_pairs) (defScope s_over_pairs) .none kV8 dc8 pm8 an8 cd8 ct8), sl8⟩)
    (c8 : PySem.W.codeIn K cd8 "over_pairs" = true)
    (k8 : PySem.W.keepIn K (.ref f8) = true)
    (a9 : PySem.W.nsIn K mainGlobals "_law_cell_at" = some (some (.ref f9)))
    (l9 : K.lookup f9 = some ⟨oc9, od9, .func (PySem.W.fnOf "_law_cell_at" "_law_cell_at" (defArgs s__law_cell_at) (defBody s__law_cell_at) (defScope s__law_cell_at) .none kV9 dc9 pm9 an9 cd9 ct9), sl9⟩)
    (c9 : PySem.W.codeIn K cd9 "_law_cell_at" = true)
    (k9 : PySem.W.keepIn K (.ref f9) = true)
    (a10 : PySem.W.nsIn K mainGlobals "_law_stream" = some (some (.ref f10)))
    (l10 : K.lookup f10 = some ⟨oc10, od10, .func (PySem.W.fnOf "_law_stream" "_law_stream" (defArgs s__law_stream) (defBody s__law_stream) (defScope s__law_stream) .none kV10 dc10 pm10 an10 cd10 ct10), sl10⟩)
    (c10 : PySem.W.codeIn K cd10 "_law_stream" = true)
    (k10 : PySem.W.keepIn K (.ref f10) = true)
    (a11 : PySem.W.nsIn K mainGlobals "_law_order" = some (some (.ref f11)))
    (l11 : K.lookup f11 = some ⟨oc11, od11, .func (PySem.W.fnOf "_law_order" "_law_order" (defArgs s__law_order) (defBody s__law_order) (defScope s__law_order) .none kV11 dc11 pm11 an11 cd11 ct11), sl11⟩)
    (c11 : PySem.W.codeIn K cd11 "_law_order" = true)
    (k11 : PySem.W.keepIn K (.ref f11) = true)
    (a12 : PySem.W.nsIn K mainGlobals "_law_orders" = some (some (.ref f12)))
    (l12 : K.lookup f12 = some ⟨oc12, od12, .func (PySem.W.fnOf "_law_orders" "_law_orders" (defArgs s__law_orders) (defBody s__law_orders) (defScope s__law_orders) .none kV12 dc12 pm12 an12 cd12 ct12), sl12⟩)
    (c12 : PySem.W.codeIn K cd12 "_law_orders" = true)
    (k12 : PySem.W.keepIn K (.ref f12) = true)
    (a13 : PySem.W.nsIn K mainGlobals "_law_counts" = some (some (.ref f13)))
    (l13 : K.lookup f13 = some ⟨oc13, od13, .func (PySem.W.fnOf "_law_counts" "_law_counts" (defArgs s__law_counts) (defBody s__law_counts) (defScope s__law_counts) .none kV13 dc13 pm13 an13 cd13 ct13), sl13⟩)
    (c13 : PySem.W.codeIn K cd13 "_law_counts" = true)
    (k13 : PySem.W.keepIn K (.ref f13) = true)
    (a14 : PySem.W.nsIn K mainGlobals "_law_divisor" = some (some (.ref f14)))
    (l14 : K.lookup f14 = some ⟨oc14, od14, .func (PySem.W.fnOf "_law_divisor" "_law_divisor" (defArgs s__law_divisor) (defBody s__law_divisor) (defScope s__law_divisor) .none kV14 dc14 pm14 an14 cd14 ct14), sl14⟩)
    (c14 : PySem.W.codeIn K cd14 "_law_divisor" = true)
    (k14 : PySem.W.keepIn K (.ref f14) = true)
    (a15 : PySem.W.nsIn K mainGlobals "_law_lowest" = some (some (.ref f15)))
    (l15 : K.lookup f15 = some ⟨oc15, od15, .func (PySem.W.fnOf "_law_lowest" "_law_lowest" (defArgs s__law_lowest) (defBody s__law_lowest) (defScope s__law_lowest) .none kV15 dc15 pm15 an15 cd15 ct15), sl15⟩)
    (c15 : PySem.W.codeIn K cd15 "_law_lowest" = true)
    (k15 : PySem.W.keepIn K (.ref f15) = true)
    (a16 : PySem.W.nsIn K mainGlobals "_law_turn_deal" = some (some (.ref f16)))
    (l16 : K.lookup f16 = some ⟨oc16, od16, .func (PySem.W.fnOf "_law_turn_deal" "_law_turn_deal" (defArgs s__law_turn_deal) (defBody s__law_turn_deal) (defScope s__law_turn_deal) .none kV16 dc16 pm16 an16 cd16 ct16), sl16⟩)
    (c16 : PySem.W.codeIn K cd16 "_law_turn_deal" = true)
    (k16 : PySem.W.keepIn K (.ref f16) = true)
    (a17 : PySem.W.nsIn K mainGlobals "_law_any_deal" = some (some (.ref f17)))
    (l17 : K.lookup f17 = some ⟨oc17, od17, .func (PySem.W.fnOf "_law_any_deal" "_law_any_deal" (defArgs s__law_any_deal) (defBody s__law_any_deal) (defScope s__law_any_deal) .none kV17 dc17 pm17 an17 cd17 ct17), sl17⟩)
    (c17 : PySem.W.codeIn K cd17 "_law_any_deal" = true)
    (k17 : PySem.W.keepIn K (.ref f17) = true)
    (a18 : PySem.W.nsIn K mainGlobals "_law_drawn" = some (some (.ref f18)))
    (l18 : K.lookup f18 = some ⟨oc18, od18, .func (PySem.W.fnOf "_law_drawn" "_law_drawn" (defArgs s__law_drawn) (defBody s__law_drawn) (defScope s__law_drawn) .none kV18 dc18 pm18 an18 cd18 ct18), sl18⟩)
    (c18 : PySem.W.codeIn K cd18 "_law_drawn" = true)
    (k18 : PySem.W.keepIn K (.ref f18) = true)
    (a19 : PySem.W.nsIn K mainGlobals "_law_tabled" = some (some (.ref f19)))
    (l19 : K.lookup f19 = some ⟨oc19, od19, .func (PySem.W.fnOf "_law_tabled" "_law_tabled" (defArgs s__law_tabled) (defBody s__law_tabled) (defScope s__law_tabled) .none kV19 dc19 pm19 an19 cd19 ct19), sl19⟩)
    (c19 : PySem.W.codeIn K cd19 "_law_tabled" = true)
    (k19 : PySem.W.keepIn K (.ref f19) = true)
    (a20 : PySem.W.nsIn K mainGlobals "_law_place" = some (some (.ref f20)))
    (l20 : K.lookup f20 = some ⟨oc20, od20, .func (PySem.W.fnOf "_law_place" "_law_place" (defArgs s__law_place) (defBody s__law_place) (defScope s__law_place) .none kV20 dc20 pm20 an20 cd20 ct20), sl20⟩)
    (c20 : PySem.W.codeIn K cd20 "_law_place" = true)
    (k20 : PySem.W.keepIn K (.ref f20) = true)
    (a21 : PySem.W.nsIn K mainGlobals "_law_due" = some (some (.ref f21)))
    (l21 : K.lookup f21 = some ⟨oc21, od21, .func (PySem.W.fnOf "_law_due" "_law_due" (defArgs s__law_due) (defBody s__law_due) (defScope s__law_due) .none kV21 dc21 pm21 an21 cd21 ct21), sl21⟩)
    (c21 : PySem.W.codeIn K cd21 "_law_due" = true)
    (k21 : PySem.W.keepIn K (.ref f21) = true)
    (a22 : PySem.W.nsIn K mainGlobals "_law_told" = some (some (.ref f22)))
    (l22 : K.lookup f22 = some ⟨oc22, od22, .func (PySem.W.fnOf "_law_told" "_law_told" (defArgs s__law_told) (defBody s__law_told) (defScope s__law_told) .none kV22 dc22 pm22 an22 cd22 ct22), sl22⟩)
    (c22 : PySem.W.codeIn K cd22 "_law_told" = true)
    (k22 : PySem.W.keepIn K (.ref f22) = true)
    (a23 : PySem.W.nsIn K mainGlobals "law" = some (some (.ref f23)))
    (l23 : K.lookup f23 = some ⟨oc23, od23, .func (PySem.W.fnOf "law" "law" (defArgs s_law) (defBody s_law) (defScope s_law) .none kV23 dc23 pm23 an23 cd23 ct23), sl23⟩)
    (c23 : PySem.W.codeIn K cd23 "law" = true)
    (k23 : PySem.W.keepIn K (.ref f23) = true)
    (z_isinstance : PySem.W.nsIn K mainGlobals "isinstance" = some none)
    (z_int : PySem.W.nsIn K mainGlobals "int" = some none)
    (z_bool : PySem.W.nsIn K mainGlobals "bool" = some none)
    (z_list : PySem.W.nsIn K mainGlobals "list" = some none)
    (z_tuple : PySem.W.nsIn K mainGlobals "tuple" = some none)
    (z_len : PySem.W.nsIn K mainGlobals "len" = some none)
    (z_range : PySem.W.nsIn K mainGlobals "range" = some none)
    (z_zip : PySem.W.nsIn K mainGlobals "zip" = some none)
    (z_any : PySem.W.nsIn K mainGlobals "any" = some none)
    (z_enumerate : PySem.W.nsIn K mainGlobals "enumerate" = some none)
    (z_set : PySem.W.nsIn K mainGlobals "set" = some none)
    (z_abs : PySem.W.nsIn K mainGlobals "abs" = some none)
    (z_sum : PySem.W.nsIn K mainGlobals "sum" = some none)
    (z_sorted : PySem.W.nsIn K mainGlobals "sorted" = some none)
    (g_MOST : PySem.W.nsIn K mainGlobals "MOST" = some (some (.int 6 gt1)))
    (g_MOST_COUNT : PySem.W.nsIn K mainGlobals "MOST_COUNT" = some (some (.int 9 gt2)))
    : ∃ fd : FuncData, (∀ (s : Shared) (v : Value), BindsTo s fd ⟨[v], []⟩ [("_law_script", v)]) ∧ ∀ base : Heap, K.In base → base.Ns mainGlobals mg → FnOk l.prog w K mg base CX0 5 fa fd ["_law_script"] (spLaw K) := by
  have e := hfa.symm.trans (PySem.W.mg_of X G a23)
  cases e
  have T : Txt mg := ⟨PySem.W.mg_none_of X G z_isinstance, PySem.W.mg_none_of X G z_int, PySem.W.mg_none_of X G z_bool, PySem.W.mg_none_of X G z_list, PySem.W.mg_none_of X G z_tuple, PySem.W.mg_none_of X G z_len, PySem.W.mg_none_of X G z_range, PySem.W.mg_none_of X G z_zip, PySem.W.mg_none_of X G z_any, PySem.W.mg_none_of X G z_enumerate, PySem.W.mg_none_of X G z_set, PySem.W.mg_none_of X G z_abs, PySem.W.mg_none_of X G z_sum, PySem.W.mg_none_of X G z_sorted, ⟨_, PySem.W.mg_of X G g_MOST⟩, ⟨_, PySem.W.mg_of X G g_MOST_COUNT⟩⟩
  have F1 := fun_mk (st := s_is_whole) l1 c1 k1
  have b1 := F1.binds (ps := ["number"]) fun _ _ _ _ _ _ us hl => by
    obtain ⟨_, rfl⟩ := us1 hl
    rfl
  have F2 := fun_mk (st := s_common_part) l2 c2 k2
  have b2 := F2.binds (ps := ["one", "other"]) fun _ _ _ _ _ _ us hl => by
    obtain ⟨_, _, rfl⟩ := us2 hl
    rfl
  have F3 := funD_mk (st := s_fraction) l3 c3 k3
  have b3 : Binds K _ ["top", "bottom"] [] := fun s us hK hl => match us, hl with | [u, v], _ => PySem.W.binds_K (fd := PySem.W.fnOf "fraction" "fraction" (defArgs s_fraction) (defBody s_fraction) (defScope s_fraction) (.ref dt3) kV3 dc3 pm3 an3 cd3 ct3) hK rfl d3 rfl rfl rfl
  have b3' : Binds K _ ["top", "bottom"] [.int 1 tk3] := fun s us hK hl => by
    cases us with
    | nil => exact absurd hl (by simp)
    | cons u r => cases r with
      | nil => exact PySem.W.binds_K (fd := PySem.W.fnOf "fraction" "fraction" (defArgs s_fraction) (defBody s_fraction) (defScope s_fraction) (.ref dt3) kV3 dc3 pm3 an3 cd3 ct3) hK rfl d3 rfl rfl rfl
      | cons v r => exact absurd hl (by simp only [List.length_append, List.length_cons, List.length_nil]; omega)
  have F4 := fun_mk (st := s_check_orders) l4 c4 k4
  have b4 := F4.binds (ps := ["orders", "many"]) fun _ _ _ _ _ _ us hl => by
    obtain ⟨_, _, rfl⟩ := us2 hl
    rfl
  have F5 := fun_mk (st := s_table_of) l5 c5 k5
  have b5 := F5.binds (ps := ["counts", "orders"]) fun _ _ _ _ _ _ us hl => by
    obtain ⟨_, _, rfl⟩ := us2 hl
    rfl
  have F6 := fun_mk (st := s_full_order) l6 c6 k6
  have b6 := F6.binds (ps := ["table", "asker"]) fun _ _ _ _ _ _ us hl => by
    obtain ⟨_, _, rfl⟩ := us2 hl
    rfl
  have F7 := fun_mk (st := s_wishes) l7 c7 k7
  have b7 := F7.binds (ps := ["table", "shares"]) fun _ _ _ _ _ _ us hl => by
    obtain ⟨_, _, rfl⟩ := us2 hl
    rfl
  have F8 := fun_mk (st := s_over_pairs) l8 c8 k8
  have b8 := F8.binds (ps := ["table", "shares"]) fun _ _ _ _ _ _ us hl => by
    obtain ⟨_, _, rfl⟩ := us2 hl
    rfl
  have F9 := fun_mk (st := s__law_cell_at) l9 c9 k9
  have b9 := F9.binds (ps := ["_law_script", "_law_k"]) fun _ _ _ _ _ _ us hl => by
    obtain ⟨_, _, rfl⟩ := us2 hl
    rfl
  have F10 := fun_mk (st := s__law_stream) l10 c10 k10
  have b10 := F10.binds (ps := ["_law_cell", "_law_many"]) fun _ _ _ _ _ _ us hl => by
    obtain ⟨_, _, rfl⟩ := us2 hl
    rfl
  have F11 := fun_mk (st := s__law_order) l11 c11 k11
  have b11 := F11.binds (ps := ["_law_cell", "_law_many"]) fun _ _ _ _ _ _ us hl => by
    obtain ⟨_, _, rfl⟩ := us2 hl
    rfl
  have F12 := fun_mk (st := s__law_orders) l12 c12 k12
  have b12 := F12.binds (ps := ["_law_cells", "_law_many"]) fun _ _ _ _ _ _ us hl => by
    obtain ⟨_, _, rfl⟩ := us2 hl
    rfl
  have F13 := fun_mk (st := s__law_counts) l13 c13 k13
  have b13 := F13.binds (ps := ["_law_cell", "_law_many"]) fun _ _ _ _ _ _ us hl => by
    obtain ⟨_, _, rfl⟩ := us2 hl
    rfl
  have F14 := fun_mk (st := s__law_divisor) l14 c14 k14
  have b14 := F14.binds (ps := ["_law_one", "_law_other"]) fun _ _ _ _ _ _ us hl => by
    obtain ⟨_, _, rfl⟩ := us2 hl
    rfl
  have F15 := fun_mk (st := s__law_lowest) l15 c15 k15
  have b15 := F15.binds (ps := ["_law_top", "_law_bottom"]) fun _ _ _ _ _ _ us hl => by
    obtain ⟨_, _, rfl⟩ := us2 hl
    rfl
  have F16 := fun_mk (st := s__law_turn_deal) l16 c16 k16
  have b16 := F16.binds (ps := ["_law_cell", "_law_counts_here", "_law_orders_here"]) fun _ _ _ _ _ _ us hl => by
    obtain ⟨_, _, _, rfl⟩ := us3 hl
    rfl
  have F17 := fun_mk (st := s__law_any_deal) l17 c17 k17
  have b17 := F17.binds (ps := ["_law_cell", "_law_counts_here", "_law_askers"]) fun _ _ _ _ _ _ us hl => by
    obtain ⟨_, _, _, rfl⟩ := us3 hl
    rfl
  have F18 := fun_mk (st := s__law_drawn) l18 c18 k18
  have b18 := F18.binds (ps := ["_law_cells", "_law_counts_here", "_law_orders_here"]) fun _ _ _ _ _ _ us hl => by
    obtain ⟨_, _, _, rfl⟩ := us3 hl
    rfl
  have F19 := fun_mk (st := s__law_tabled) l19 c19 k19
  have b19 := F19.binds (ps := ["_law_script"]) fun _ _ _ _ _ _ us hl => by
    obtain ⟨_, rfl⟩ := us1 hl
    rfl
  have F20 := fun_mk (st := s__law_place) l20 c20 k20
  have b20 := F20.binds (ps := ["_law_order_here", "_law_many", "_law_one"]) fun _ _ _ _ _ _ us hl => by
    obtain ⟨_, _, _, rfl⟩ := us3 hl
    rfl
  have F21 := fun_mk (st := s__law_due) l21 c21 k21
  have b21 := F21.binds (ps := ["_law_many", "_law_orders_here", "_law_shares"]) fun _ _ _ _ _ _ us hl => by
    obtain ⟨_, _, _, rfl⟩ := us3 hl
    rfl
  have F22 := fun_mk (st := s__law_told) l22 c22 k22
  have b22 := F22.binds (ps := ["_law_found", "_law_due_here"]) fun _ _ _ _ _ _ us hl => by
    obtain ⟨_, _, rfl⟩ := us2 hl
    rfl
  have F23 := fun_mk (st := s_law) l23 c23 k23
  refine ⟨PySem.W.fnOf "law" "law" (defArgs s_law) (defBody s_law) (defScope s_law) .none kV23 dc23 pm23 an23 cd23 ct23, fun s v => .of_eq rfl, fun base _ _ => ?_⟩
  have K1 := Kn.mk (base := base) (P := l.prog) (w := w) (ok_is_whole (k := 0) F1 T ) (PySem.W.mg_of X G a1) k1 b1
  have K2 := Kn.mk (base := base) (P := l.prog) (w := w) (ok_common_part (k := 0) F2 T ) (PySem.W.mg_of X G a2) k2 b2
  have K3 := Kn.mk (base := base) (P := l.prog) (w := w) (ok_fraction (k := 0) F3 T K1 K2) (PySem.W.mg_of X G a3) k3 b3
  have K4 := Kn.mk (base := base) (P := l.prog) (w := w) (ok_check_orders (k := 0) F4 T ) (PySem.W.mg_of X G a4) k4 b4
  have K5 := Kn.mk (base := base) (P := l.prog) (w := w) (ok_table_of (k := 0) F5 T K4) (PySem.W.mg_of X G a5) k5 b5
  have K6 := Kn.mk (base := base) (P := l.prog) (w := w) (ok_full_order (k := 1) F6 T ) (PySem.W.mg_of X G a6) k6 b6
  have K7 := Kn.mk (base := base) (P := l.prog) (w := w) (ok_wishes (k := 0) F7 T K6 K3 b3') (PySem.W.mg_of X G a7) k7 b7
  have K8 := Kn.mk (base := base) (P := l.prog) (w := w) (ok_over_pairs (k := 0) F8 T K7) (PySem.W.mg_of X G a8) k8 b8
  have K9 := Kn.mk (base := base) (P := l.prog) (w := w) (ok__law_cell_at (k := 0) F9 T ) (PySem.W.mg_of X G a9) k9 b9
  have K10 := Kn.mk (base := base) (P := l.prog) (w := w) (ok__law_stream (k := 0) F10 T ) (PySem.W.mg_of X G a10) k10 b10
  have K11 := Kn.mk (base := base) (P := l.prog) (w := w) (ok__law_order (k := 0) F11 T K10) (PySem.W.mg_of X G a11) k11 b11
  have K12 := Kn.mk (base := base) (P := l.prog) (w := w) (ok__law_orders (k := 0) F12 T K11) (PySem.W.mg_of X G a12) k12 b12
  have K13 := Kn.mk (base := base) (P := l.prog) (w := w) (ok__law_counts (k := 0) F13 T K10) (PySem.W.mg_of X G a13) k13 b13
  have K14 := Kn.mk (base := base) (P := l.prog) (w := w) (ok__law_divisor (k := 0) F14 T ) (PySem.W.mg_of X G a14) k14 b14
  have K15 := Kn.mk (base := base) (P := l.prog) (w := w) (ok__law_lowest (k := 0) F15 T K14) (PySem.W.mg_of X G a15) k15 b15
  have K16 := Kn.mk (base := base) (P := l.prog) (w := w) (ok__law_turn_deal (k := 0) F16 T K10) (PySem.W.mg_of X G a16) k16 b16
  have K17 := Kn.mk (base := base) (P := l.prog) (w := w) (ok__law_any_deal (k := 0) F17 T K10) (PySem.W.mg_of X G a17) k17 b17
  have K18 := Kn.mk (base := base) (P := l.prog) (w := w) (ok__law_drawn (k := 0) F18 T K17 K16 K15) (PySem.W.mg_of X G a18) k18 b18
  have K19 := Kn.mk (base := base) (P := l.prog) (w := w) (ok__law_tabled (k := 0) F19 T K9 K13 K12) (PySem.W.mg_of X G a19) k19 b19
  have K20 := Kn.mk (base := base) (P := l.prog) (w := w) (ok__law_place (k := 0) F20 T ) (PySem.W.mg_of X G a20) k20 b20
  have K21 := Kn.mk (base := base) (P := l.prog) (w := w) (ok__law_due (k := 0) F21 T K20) (PySem.W.mg_of X G a21) k21 b21
  have K22 := Kn.mk (base := base) (P := l.prog) (w := w) (ok__law_told (k := 0) F22 T ) (PySem.W.mg_of X G a22) k22 b22
  exact law_ok (ok_law (k := 0) F23 T K9 K19 K18 K5 K21 K8 K22)
theorem walk {l : PySem.W.OpenLaw} {q : Program} {loose : List Str} {XP : (Str → Option Value) → Heap → Prop} {YP : World → Heap → Prop} {d : DefRec} {K : Params → PySem.W.Frag} (hn : l.most = some 63) (hdf : d.params.defaults = [])
    (hY : ∀ (w : World) (h : Heap), YP w h → (K w.params).In h)
    (F : ∀ (w : World) (mg : Str → Option Value) (fa : Addr) (h : Heap), (K w.params).In h → h.Ns mainGlobals mg → mg d.name = some (.ref fa) →
      ∃ fd : FuncData, (∀ (s : Shared) (u : Value), BindsTo s fd ⟨[u], []⟩ [("_law_script", u)]) ∧ ∀ base : Heap, (K w.params).In base → base.Ns mainGlobals mg → FnOk l.prog w (K w.params) mg base CX0 5 fa fd ["_law_script"] (spLaw (K w.params))) :
    PySem.W.WalkO q loose XP YP l.row.toRowW d [] (fun f vs => PySem.call f vs) :=
  L2.walk_of (n := 63) (k := 5) (x := "_law_script") (CX := fun _ => CX0) (sp := fun w => spLaw (K w.params)) hn (by decide) hdf ⟨rfl, by decide, by decide⟩ hY F (fun _ _ a ns hl _ hS => ⟨a, ns, rfl, hS, hl, fun _ => rfl⟩) fun _ _ _ _ _ z => z
end K22
open PySem PySem.W PyProof.Rows
set_option maxRecDepth 100000 in
set_option maxHeartbeats 0 in
theorem PySem.Challenge.cw_lotmeal_k22_which_are_over_holds : PySem.Challenge.rw_lotmeal_k22_which_are_over.Holds := by
  w_on; o_law
  refine holds_open (q := H22.hV) (loose := ["fraction"]) (Xt := H22.hX) (XP := XL H22.hV []) (Yf := (kHook H22.hK H22.hA H22.hA_eq).obs) (Ya := (kHook H22.hK H22.hA H22.hA_eq).val) (YP := (kHook H22.hK H22.hA H22.hA_eq).says) H22.hL (Hook.of _) (Hook.keeps _) (fun s e => xl_of s (Bool.and_eq_true_iff.mp e).1) XL.keeps (by rfl) (by rfl) (by rfl) (fun s e => recFacts_of (Bool.and_eq_true_iff.mp e).2) (by rfl) (by first | assumption | decide +kernel) (by decide +kernel) ⟨rfl, rfl, rfl, rfl, rfl, by decide +kernel⟩ ?hw ?hc
  case hw => w_witness2
  k_fill
  refine K22.walk (l := PySem.Challenge.rw_lotmeal_k22_which_are_over) rfl rfl (fun w h Y => PySem.W.kIn_of Y) ?F
  case F =>
    intro w mg fa h KX G hmg
    refine' K22.all_mk KX G hmg ?a1 ?l1 ?c1 ?k1 ?a2 ?l2 ?c2 ?k2 ?a3 ?l3 ?d3 ?c3 ?k3 ?a4 ?l4 ?c4 ?k4 ?a5 ?l5 ?c5 ?k5 ?a6 ?l6 ?c6 ?k6 ?a7 ?l7 ?c7 ?k7 ?a8 ?l8 ?c8 ?k8 ?a9 ?l9 ?c9 ?k9 ?a10 ?l10 ?c10 ?k10 ?a11 ?l11 ?c11 ?k11 ?a12 ?l12 ?c12 ?k12 ?a13 ?l13 ?c13 ?k13 ?a14 ?l14 ?c14 ?k14 ?a15 ?l15 ?c15 ?k15 ?a16 ?l16 ?c16 ?k16 ?a17 ?l17 ?c17 ?k17 ?a18 ?l18 ?c18 ?k18 ?a19 ?l19 ?c19 ?k19 ?a20 ?l20 ?c20 ?k20 ?a21 ?l21 ?c21 ?k21 ?a22 ?l22 ?c22 ?k22 ?a23 ?l23 ?c23 ?k23 ?z_isinstance ?z_int ?z_bool ?z_list ?z_tuple ?z_len ?z_range ?z_zip ?z_any ?z_enumerate ?z_set ?z_abs ?z_sum ?z_sorted ?g_MOST ?g_MOST_COUNT
    (case a1 => k_is)
    (case l1 => k_is)
    (case c1 => k_is)
    (case k1 => k_is)
    (case a2 => k_is)
    (case l2 => k_is)
    (case c2 => k_is)
    (case k2 => k_is)
    (case a3 => k_is)
    (case l3 => k_is)
    (case d3 => k_is)
    (case c3 => k_is)
    (case k3 => k_is)
    (case a4 => k_is)
    (case l4 => k_is)
    (case c4 => k_is)
    (case k4 => k_is)
    (case a5 => k_is)
    (case l5 => k_is)
    (case c5 => k_is)
    (case k5 => k_is)
    (case a6 => k_is)
    (case l6 => k_is)
    (case c6 => k_is)
    (case k6 => k_is)
    (case a7 => k_is)
    (case l7 => k_is)
    (case c7 => k_is)
    (case k7 => k_is)
    (case a8 => k_is)
    (case l8 => k_is)
    (case c8 => k_is)
    (case k8 => k_is)
    (case a9 => k_is)
    (case l9 => k_is)
    (case c9 => k_is)
    (case k9 => k_is)
    (case a10 => k_is)
    (case l10 => k_is)
    (case c10 => k_is)
    (case k10 => k_is)
    (case a11 => k_is)
    (case l11 => k_is)
    (case c11 => k_is)
    (case k11 => k_is)
    (case a12 => k_is)
    (case l12 => k_is)
    (case c12 => k_is)
    (case k12 => k_is)
    (case a13 => k_is)
    (case l13 => k_is)
    (case c13 => k_is)
    (case k13 => k_is)
    (case a14 => k_is)
    (case l14 => k_is)
    (case c14 => k_is)
    (case k14 => k_is)
    (case a15 => k_is)
    (case l15 => k_is)
    (case c15 => k_is)
    (case k15 => k_is)
    (case a16 => k_is)
    (case l16 => k_is)
    (case c16 => k_is)
    (case k16 => k_is)
    (case a17 => k_is)
    (case l17 => k_is)
    (case c17 => k_is)
    (case k17 => k_is)
    (case a18 => k_is)
    (case l18 => k_is)
    (case c18 => k_is)
    (case k18 => k_is)
    (case a19 => k_is)
    (case l19 => k_is)
    (case c19 => k_is)
    (case k19 => k_is)
    (case a20 => k_is)
    (case l20 => k_is)
    (case c20 => k_is)
    (case k20 => k_is)
    (case a21 => k_is)
    (case l21 => k_is)
    (case c21 => k_is)
    (case k21 => k_is)
    (case a22 => k_is)
    (case l22 => k_is)
    (case c22 => k_is)
    (case k22 => k_is)
    (case a23 => k_is)
    (case l23 => k_is)
    (case c23 => k_is)
    (case k23 => k_is)
    (case z_isinstance => k_is)
    (case z_int => k_is)
    (case z_bool => k_is)
    (case z_list => k_is)
    (case z_tuple => k_is)
    (case z_len => k_is)
    (case z_range => k_is)
    (case z_zip => k_is)
    (case z_any => k_is)
    (case z_enumerate => k_is)
    (case z_set => k_is)
    (case z_abs => k_is)
    (case z_sum => k_is)
    (case z_sorted => k_is)
    (case g_MOST => k_is)
    (case g_MOST_COUNT => k_is)
#print axioms PySem.Challenge.cw_lotmeal_k22_which_are_over_holds
