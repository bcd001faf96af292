import PyProof.Rows.All
import Wide.All
import OpenK.AllK
import Wide.FinOn
import Lean
import PyProof.EqAt
import PyProof.EqKinds
import PyProof.TupleCall
import PyProof.NeKinds
import PyProof.ZipIter
import PyProof.WalksEnum
import PyProof.CompUse
import PyProof.ListRange
import PyProof.Rows.SetFrom
import PyProof.Rows.SortWalk
import PyProof.Rows.SeqMore2
import PyProof.SetRoads
import KE.KRevIter
import PyProof.WalksMore
import PyProof.AutoRange
import PyProof.ListNew
import PyProof.Wp
import PyProof.Logic
import PyProof.StationsW
import PyProof.ExcClass2
import OpenK.KGet
import PyProof.Rows.SortRunsK
import PyProof.Rows.SortShellK
import KE.KDictSum
import PyProof.DictTruth
import PyProof.RangeIter
import PyProof.RaisesMany
import PyProof.AutoListH
import PySem.Challenge.RW_lotmeal_k94_whole_no_lie_is_better
set_option Elab.async false
set_option linter.all false
set_option maxRecDepth 100000
set_option maxHeartbeats 4000000
namespace L2
open PySem PySem.W
section
variable {tb : String -> Option Builtin} {p : Program} {w : World} {n₀ : Nat} {ann : Option Value}
def pQ (tb : String -> Option Builtin) (p : Program) (w : World) (n₀ : Nat) (ann : Option Value) : Nat -> SharedT -> Thread -> Option SharedT
  | 0,_,_ => none
  | n + 1,s,t => match through t with
    | true => some s
    | false => match stepOk n₀ ann t with
      | false => none
      | true => match stepT (denote tb) p w s t with
        | some (s',t') => pQ tb p w n₀ ann n s' t'
        | none => none
theorem DX : ∀ {n : Nat} {s s' : SharedT} {t : Thread},pQ tb p w n₀ ann n s t = some s' -> topRun tb p w n₀ ann n s.abs t = some s'.abs
  | 0,_,_,_,h => by cases h
  | n + 1,s,s',t,h => by
    unfold pQ at h
    unfold topRun
    cases ht : through t with
    | true => rw [ht] at h; cases h; rfl
    | false =>
      rw [ht] at h
      cases hk : stepOk n₀ ann t with
      | false => rw [hk] at h; cases h
      | true =>
        rw [hk] at h
        cases hs : stepT (denote tb) p w s t with
        | none => rw [hs] at h; cases h
        | some r => obtain ⟨kE,aah⟩ := r; rw [hs] at h; rw [stepT_spec hs]; exact DX h
end
def treeOf (l : List Obj) : Nat -> Nat -> Nat -> BT
  | 0,_,_ => .nil
  | f + 1,a,b => match l[b]? with
    | some o => .node o (treeOf l f (2 * a) (a + b)) (treeOf l f (2 * a) (2 * a + b))
    | none => .nil
theorem MR {p q : Program} {loose : List Str} {Xt : Shared -> Bool} {α : Type} {Yf : Shared -> α} {Ya : World -> α} {N : Nat} {g0 : Bool} {T₀ : Params -> BT} {n₀ : Nat} {life : Life} {sE : Array GenState} {xW : Drawn} {xX : Nat} {ann : Option Value} {M : Nat}
    (R5 : ∀ w : World,(fencedOpening treeTable p w N).map (fun s => (s.heap,s.gens,s.drawn,s.toks)) = some (absHeap (T₀ w.params) n₀ life,sE,xW,xX))
    (size : ∀ w : World,((absHeap (T₀ w.params) n₀ life).isNs mainGlobals && sE.size == 0,(absHeap (T₀ w.params) n₀ life).nsMap mainGlobals "__annotations__") = (true,ann))
    (run : ∀ (w : World),(fun os => (pQ treeTable p w n₀ ann M ⟨T₀ w.params,n₀,life,sE,xW,xX,os⟩ (topStub p)).map fun st => ((staticsOk (importedModules p.main.body) (absHeap (T₀ w.params) n₀ life) st.abs.heap && namesBound p st.abs.heap && gensDone st.abs && laidKept (absHeap (T₀ w.params) n₀ life) st.abs.heap),openSeen q loose (importedModules p.main.body) Xt g0 st.abs,Yf st.abs)) = fun _ => some (true,openGood q loose,Ya w)) (le : Nat.ble M N = true) : LeftO p q loose Xt Yf Ya N g0 := fun w => by
  obtain ⟨⟨h,gs,d,k,os⟩,e,e'⟩ := Option.map_eq_some_iff.mp (R5 w)
  obtain ⟨rfl,rfl,rfl,rfl⟩ : h = absHeap (T₀ w.params) n₀ life /\ gs = sE /\ d = xW /\ k = xX := by simpa using e'
  obtain ⟨z1,z3⟩ := Prod.mk.inj (size w)
  obtain ⟨st,hr,hl⟩ := Option.map_eq_some_iff.mp (congrFun (run w) os)
  obtain ⟨l1,hl⟩ := Prod.mk.inj hl
  obtain ⟨l2,l3⟩ := Prod.mk.inj hl
  have r := topRun_mono (N - M) _ _ _ _ (DX hr)
  rw [show M + (N - M) = N by have := Nat.le_of_ble_eq_true le; omega] at r
  have t : topFrom treeTable p w N ⟨absHeap (T₀ w.params) n₀ life,gs,d,k,os⟩ = some st.abs := by
    unfold topFrom
    dsimp only
    rw [z1,absHeap_size,z3]
    have r' : topRun treeTable p w n₀ ann N ⟨absHeap (T₀ w.params) n₀ life,gs,d,k,os⟩ (topStub p) = some st.abs := r
    rw [r']
    show (match staticsOk (importedModules p.main.body) (absHeap (T₀ w.params) n₀ life) st.abs.heap && namesBound p st.abs.heap && gensDone st.abs && laidKept (absHeap (T₀ w.params) n₀ life) st.abs.heap with | true => _ | false => _) = _
    rw [l1]
  unfold openEnds
  rw [e]
  show (topFrom treeTable p w N _).map _ = _
  rw [t]
  exact congrArg some (Prod.ext l2 l3)
noncomputable def kz (P : Params) : BT := treeOf (boot_heap P).objs.toList 12 1 0
theorem boot_abs (P : Params) : absHeap (kz P) 11 {} = boot_heap P := by kernel_rfl
theorem MS (w : World) : ((absHeap (kz w.params) 11 {}).isNs mainGlobals && (Array.mk [] : Array GenState).size == 0,(absHeap (kz w.params) 11 {}).nsMap mainGlobals "__annotations__") = (true,some (.ref 6)) := by kernel_rfl
noncomputable def jH (p : Program) (w : World) (N : Nat) (os : OsState) : Option SharedT := pQ treeTable p w 11 (some (.ref 6)) N ⟨kz w.params,11,{},Array.mk [],boot_drawn,boot_toks,os⟩ (topStub p)
noncomputable def o8 (p : Program) (w : World) (st : SharedT) : Bool := staticsOk (importedModules p.main.body) (absHeap (kz w.params) 11 {}) st.abs.heap && namesBound p st.abs.heap && gensDone st.abs && laidKept (absHeap (kz w.params) 11 {}) st.abs.heap
theorem MT {p q : Program} {loose : List Str} {Xt : Shared -> Bool} {α : Type} {Yf : Shared -> α} {Ya : World -> α} {N : Nat} {g0 : Bool} (e : opening p = plainProg p.main.scope.names) (hN : Nat.ble 600 N = true) (f : ∀ s,fenceModules? p s = some s)
    (r1 : ∀ w : World,(fun os => (jH p w N os).map fun st => o8 p w st) = fun _ => some true) (r2 : ∀ w : World,(fun os => (jH p w N os).map fun st => openSeen q loose (importedModules p.main.body) Xt g0 st.abs) = fun _ => some (openGood q loose)) (r3 : ∀ w : World,(fun os => (jH p w N os).map fun st => Yf st.abs) = fun _ => some (Ya w)) : LeftO p q loose Xt Yf Ya N g0 :=
  MR (T₀ := kz) (n₀ := 11) (life := {}) (ann := some (.ref 6)) (fun w => (boot_open e hN f w).trans (by rw [boot_abs])) MS (fun w => funext fun os => by
    have a := congrFun (r1 w) os
    have b := congrFun (r2 w) os
    have c := congrFun (r3 w) os
    show (jH p w N os).map (fun st => (o8 p w st,openSeen q loose (importedModules p.main.body) Xt g0 st.abs,Yf st.abs)) = _
    cases h : jH p w N os with
    | none => rw [h] at a; cases a
    | some st =>
      rw [h] at a b c
      show some (o8 p w st,openSeen q loose (importedModules p.main.body) Xt g0 st.abs,Yf st.abs) = _
      have a' : o8 p w st = true := Option.some.inj a
      have b' : openSeen q loose (importedModules p.main.body) Xt g0 st.abs = openGood q loose := Option.some.inj b
      have c' : Yf st.abs = Ya w := Option.some.inj c
      rw [a',b',c']) (by rw [Nat.ble_eq]; exact Nat.le_refl _)
def dA (s : Stmt) : Arguments := match s with
  | .FunctionDef _ a _ _ _ _ _ _ _ _ => a
  | _ => { posonlyargs := [],args := [],vararg := none,kwonlyargs := [],kw_defaults := [],kwarg := none,defaults := [] }
def dB (s : Stmt) : List Stmt := match s with
  | .FunctionDef _ _ b _ _ _ _ _ _ _ => b
  | _ => []
def dS (s : Stmt) : Scope := match s with
  | .FunctionDef _ _ _ _ _ _ sc _ _ _ => sc
  | _ => { kind := .function,names := [],isGenerator := false,isCoroutine := false }
def dM (s : Stmt) (j : Nat) : Stmt := match s with
  | .ClassDef _ _ _ b _ _ _ _ _ _ _ => b.getD j (.Pass ⟨0,0,0,0⟩)
  | _ => .Pass ⟨0,0,0,0⟩
def dE (P : Params) (x : Str) (n : Nat) (v : Value) : DictEntry := .mk (PyData.keyHash P x) (.str x n) v
def o0 : Obj := Obj.mk (.type "tuple") none (.seq #[] 0) #[]
def oT (x : Array Value) : Obj := Obj.mk (.type "tuple") none (.seq x 0) #[]
def oC (x : Array Value) : Obj := Obj.mk (.type "code") none (.fields x) #[]
def oD (n : Str) (a l k r x : Nat) (y z : Value) (v u : Nat) : Obj := oC #[.str n a,.str n (a+1),.str "/claim/cut.py" (a+2),.int l 0,.int k 0,.int 0 0,.int 0 0,.int 3 0,.ref r,.bool true,.int 181 0,.ref x,.none,y,z,.ref v,.int u 0,.int l 0,.str "/claim/cut.py" (u+1)]
def oF (n : Str) (s : Stmt) (d m c : Value) : Obj := Obj.mk (.type "function") none (.func (FuncData.mk n n (dA s) (.stmts (dB s)) (dS s) 3 [] d .none .none m none c .none 0)) #[]
end L2
namespace fR
open PySem PySem.W
abbrev pr : Program := PySem.Challenge.rw_lotmeal_k94_whole_no_lie_is_better.row.prog
def tp (i : Nat) : Stmt := pr.main.body.getD i (.Pass ⟨0,0,0,0⟩)
noncomputable def hK : Params -> Frag := fun P =>
 (nat_lit 2,boot_o_2 P) ::
 (nat_lit 3,(Obj.mk (.type "dict") none (.dict #[(L2.dE P "__name__" 165 (.str "law_lotmeal_k94_whole_no_lie_is_better" 547)),(L2.dE P "__doc__" 166 .none),(L2.dE P "__package__" 167 .none),(L2.dE P "__loader__" 168 (.builtin "__main__.__loader__#opaque")),(L2.dE P "__spec__" 169 .none),(L2.dE P "__annotations__" 170 (.ref 6)),(L2.dE P "__builtins__" 171 (.ref 4)),(L2.dE P "__file__" 173 (.str "/claim/cut.py" 172)),(L2.dE P "__cached__" 174 .none),(L2.dE P "LotError" 206 (.ref 24)),(L2.dE P "NoNumber" 222 (.ref 37)),(L2.dE P "TooGreat" 238 (.ref 49)),(L2.dE P "NoAsker" 254 (.ref 61)),(L2.dE P "NoThing" 279 (.ref 80)),(L2.dE P "Twice" 304 (.ref 99)),(L2.dE P "NoTurns" 320 (.ref 111)),(L2.dE P "is_whole" 329 (.ref 120)),(L2.dE P "common_part" 338 (.ref 127)),(L2.dE P "fraction" 348 (.ref 135)),(L2.dE P "plus" 356 (.ref 142)),(L2.dE P "minus" 364 (.ref 149)),(L2.dE P "times" 372 (.ref 156)),(L2.dE P "over" 380 (.ref 163)),(L2.dE P "under" 388 (.ref 170)),(L2.dE P "sum_of" 397 (.ref 177)),(L2.dE P "least_of" 406 (.ref 184)),(L2.dE P "MOST" 410 (.int 6 409)),(L2.dE P "MOST_COUNT" 412 (.int 9 411)),(L2.dE P "check_orders" 418 (.ref 189)),(L2.dE P "table_of" 424 (.ref 194)),(L2.dE P "full_order" 430 (.ref 199)),(L2.dE P "first_left" 436 (.ref 204)),(L2.dE P "next_length" 444 (.ref 209)),(L2.dE P "left_behind" 450 (.ref 214)),(L2.dE P "ended_things" 456 (.ref 219)),(L2.dE P "meal_steps" 462 (.ref 224)),(L2.dE P "eaten_by" 468 (.ref 229)),(L2.dE P "meal" 474 (.ref 234)),(L2.dE P "weight_of" 482 (.ref 239)),(L2.dE P "shares_of" 488 (.ref 244)),(L2.dE P "MOST_TURNS" 492 (.int 5 491)),(L2.dE P "deal_by" 498 (.ref 249)),(L2.dE P "longer" 504 (.ref 254)),(L2.dE P "all_turns" 513 (.ref 261)),(L2.dE P "turn_mix" 519 (.ref 266)),(L2.dE P "turn_shares" 526 (.ref 273)),(L2.dE P "check_asker" 536 (.ref 280)),(L2.dE P "told_otherwise" 546 (.ref 287)),(L2.dE P "_law_cell_at" 556 (.ref 294)),(L2.dE P "_law_order" 569 (.ref 301)),(L2.dE P "_law_table" 575 (.ref 306)),(L2.dE P "_law_full" 581 (.ref 311)),(L2.dE P "_law_sums" 595 (.ref 318)),(L2.dE P "_law_differences" 607 (.ref 325)),(L2.dE P "_law_right" 613 (.ref 330)),(L2.dE P "law" 629 (.ref 337))] 56) #[])) ::
 (nat_lit 15,(L2.oT #[(.type "ValueError")])) ::
 (nat_lit 22,L2.o0) ::
 (nat_lit 23,(Obj.mk (.type "dict") none (.dict #[(L2.dE P "__module__" 196 (.str "lotmeal.errors" 187)),(L2.dE P "__firstlineno__" 200 (.int 2 199)),(L2.dE P "__static_attributes__" 201 (.ref 22)),(L2.dE P "__weakref__" 203 (.ref 25)),(L2.dE P "__doc__" 204 .none)] 3) #[])) ::
 (nat_lit 24,(Obj.mk (.type "type") none (.cls (ClassData.mk "LotError" [(.type "ValueError")] [(.ref 24),(.type "ValueError"),(.type "Exception"),(.type "BaseException"),(.type "object")] 23 "LotError" true [] [(.ref 37),(.ref 49),(.ref 61),(.ref 80),(.ref 99),(.ref 111)] false none false)) #[(some (.ref 15)),none,(some (.str "LotError" 189)),(some (.str "LotError" 197)),(some (.builtin "ValueError.__new__")),(some (.bool true))])) ::
 (nat_lit 25,(Obj.mk (.type "getset_descriptor") none (.fields #[(.str "__weakref__" 202),(.ref 24),(.builtin "ExceptionGroup.__weakref__"),.none]) #[])) ::
 (nat_lit 28,(L2.oT #[(.ref 24)])) ::
 (nat_lit 35,L2.o0) ::
 (nat_lit 36,(Obj.mk (.type "dict") none (.dict #[(L2.dE P "__module__" 214 (.str "lotmeal.errors" 187)),(L2.dE P "__firstlineno__" 218 (.int 4 217)),(L2.dE P "__static_attributes__" 219 (.ref 35)),(L2.dE P "__doc__" 220 .none)] 2) #[])) ::
 (nat_lit 37,(Obj.mk (.type "type") none (.cls (ClassData.mk "NoNumber" [(.ref 24)] [(.ref 37),(.ref 24),(.type "ValueError"),(.type "Exception"),(.type "BaseException"),(.type "object")] 36 "NoNumber" true [] [] false none false)) #[(some (.ref 28)),none,(some (.str "NoNumber" 207)),(some (.str "NoNumber" 215)),(some (.builtin "ValueError.__new__")),(some (.bool true))])) ::
 (nat_lit 40,(L2.oT #[(.ref 24)])) ::
 (nat_lit 47,L2.o0) ::
 (nat_lit 48,(Obj.mk (.type "dict") none (.dict #[(L2.dE P "__module__" 230 (.str "lotmeal.errors" 187)),(L2.dE P "__firstlineno__" 234 (.int 6 233)),(L2.dE P "__static_attributes__" 235 (.ref 47)),(L2.dE P "__doc__" 236 .none)] 2) #[])) ::
 (nat_lit 49,(Obj.mk (.type "type") none (.cls (ClassData.mk "TooGreat" [(.ref 24)] [(.ref 49),(.ref 24),(.type "ValueError"),(.type "Exception"),(.type "BaseException"),(.type "object")] 48 "TooGreat" true [] [] false none false)) #[(some (.ref 40)),none,(some (.str "TooGreat" 223)),(some (.str "TooGreat" 231)),(some (.builtin "ValueError.__new__")),(some (.bool true))])) ::
 (nat_lit 52,(L2.oT #[(.ref 24)])) ::
 (nat_lit 59,L2.o0) ::
 (nat_lit 60,(Obj.mk (.type "dict") none (.dict #[(L2.dE P "__module__" 246 (.str "lotmeal.errors" 187)),(L2.dE P "__firstlineno__" 250 (.int 8 249)),(L2.dE P "__static_attributes__" 251 (.ref 59)),(L2.dE P "__doc__" 252 .none)] 2) #[])) ::
 (nat_lit 61,(Obj.mk (.type "type") none (.cls (ClassData.mk "NoAsker" [(.ref 24)] [(.ref 61),(.ref 24),(.type "ValueError"),(.type "Exception"),(.type "BaseException"),(.type "object")] 60 "NoAsker" true [] [] false none false)) #[(some (.ref 52)),none,(some (.str "NoAsker" 239)),(some (.str "NoAsker" 247)),(some (.builtin "ValueError.__new__")),(some (.bool true))])) ::
 (nat_lit 64,(L2.oT #[(.ref 24)])) ::
 (nat_lit 71,L2.o0) ::
 (nat_lit 73,(L2.oT #[(.str "self" 270),(.str "asker" 271)])) ::
 (nat_lit 74,L2.o0) ::
 (nat_lit 76,(L2.oC #[(.str "__init__" 267),(.str "NoThing.__init__" 268),(.str "/claim/cut.py" 269),(.int 12 0),(.int 2 0),(.int 0 0),(.int 0 0),(.int 3 0),(.ref 71),(.bool true),(.int 181 0),(.ref 72),.none,(.ref 73),(.ref 74),(.ref 75),(.int 272 0),(.int 12 0),(.str "/claim/cut.py" 273)])) ::
 (nat_lit 77,(Obj.mk (.type "function") none (.func (FuncData.mk "__init__" "NoThing.__init__" (L2.dA (L2.dM (tp 5) 0)) (.stmts (L2.dB (L2.dM (tp 5) 0))) (L2.dS (L2.dM (tp 5) 0)) 3 [] .none .none .none (.str "lotmeal.errors" 187) none (.ref 76) .none 0)) #[])) ::
 (nat_lit 78,(L2.oT #[(.str "asker" 275)])) ::
 (nat_lit 79,(Obj.mk (.type "dict") none (.dict #[(L2.dE P "__module__" 262 (.str "lotmeal.errors" 187)),(L2.dE P "__firstlineno__" 266 (.int 10 265)),(L2.dE P "__init__" 274 (.ref 77)),(L2.dE P "__static_attributes__" 276 (.ref 78)),(L2.dE P "__doc__" 277 .none)] 2) #[])) ::
 (nat_lit 80,(Obj.mk (.type "type") none (.cls (ClassData.mk "NoThing" [(.ref 24)] [(.ref 80),(.ref 24),(.type "ValueError"),(.type "Exception"),(.type "BaseException"),(.type "object")] 79 "NoThing" true [] [] false none false)) #[(some (.ref 64)),none,(some (.str "NoThing" 255)),(some (.str "NoThing" 263)),(some (.builtin "ValueError.__new__")),(some (.bool true))])) ::
 (nat_lit 83,(L2.oT #[(.ref 24)])) ::
 (nat_lit 90,L2.o0) ::
 (nat_lit 92,(L2.oT #[(.str "self" 295),(.str "asker" 296)])) ::
 (nat_lit 93,L2.o0) ::
 (nat_lit 95,(L2.oC #[(.str "__init__" 292),(.str "Twice.__init__" 293),(.str "/claim/cut.py" 294),(.int 17 0),(.int 2 0),(.int 0 0),(.int 0 0),(.int 3 0),(.ref 90),(.bool true),(.int 181 0),(.ref 91),.none,(.ref 92),(.ref 93),(.ref 94),(.int 297 0),(.int 17 0),(.str "/claim/cut.py" 298)])) ::
 (nat_lit 96,(Obj.mk (.type "function") none (.func (FuncData.mk "__init__" "Twice.__init__" (L2.dA (L2.dM (tp 6) 0)) (.stmts (L2.dB (L2.dM (tp 6) 0))) (L2.dS (L2.dM (tp 6) 0)) 3 [] .none .none .none (.str "lotmeal.errors" 187) none (.ref 95) .none 0)) #[])) ::
 (nat_lit 97,(L2.oT #[(.str "asker" 300)])) ::
 (nat_lit 98,(Obj.mk (.type "dict") none (.dict #[(L2.dE P "__module__" 287 (.str "lotmeal.errors" 187)),(L2.dE P "__firstlineno__" 291 (.int 15 290)),(L2.dE P "__init__" 299 (.ref 96)),(L2.dE P "__static_attributes__" 301 (.ref 97)),(L2.dE P "__doc__" 302 .none)] 2) #[])) ::
 (nat_lit 99,(Obj.mk (.type "type") none (.cls (ClassData.mk "Twice" [(.ref 24)] [(.ref 99),(.ref 24),(.type "ValueError"),(.type "Exception"),(.type "BaseException"),(.type "object")] 98 "Twice" true [] [] false none false)) #[(some (.ref 83)),none,(some (.str "Twice" 280)),(some (.str "Twice" 288)),(some (.builtin "ValueError.__new__")),(some (.bool true))])) ::
 (nat_lit 102,(L2.oT #[(.ref 24)])) ::
 (nat_lit 109,L2.o0) ::
 (nat_lit 110,(Obj.mk (.type "dict") none (.dict #[(L2.dE P "__module__" 312 (.str "lotmeal.errors" 187)),(L2.dE P "__firstlineno__" 316 (.int 20 315)),(L2.dE P "__static_attributes__" 317 (.ref 109)),(L2.dE P "__doc__" 318 .none)] 2) #[])) ::
 (nat_lit 111,(Obj.mk (.type "type") none (.cls (ClassData.mk "NoTurns" [(.ref 24)] [(.ref 111),(.ref 24),(.type "ValueError"),(.type "Exception"),(.type "BaseException"),(.type "object")] 110 "NoTurns" true [] [] false none false)) #[(some (.ref 102)),none,(some (.str "NoTurns" 305)),(some (.str "NoTurns" 313)),(some (.builtin "ValueError.__new__")),(some (.bool true))])) ::
 (nat_lit 114,L2.o0) ::
 (nat_lit 116,(L2.oT #[(.str "number" 326)])) ::
 (nat_lit 117,L2.o0) ::
 (nat_lit 119,(L2.oD "is_whole" 323 23 1 114 115 (.ref 116) (.ref 117) 118 327)) ::
 (nat_lit 120,(L2.oF "is_whole" (tp 9) .none (.str "lotmeal.fractions" 321) (.ref 119))) ::
 (nat_lit 121,L2.o0) ::
 (nat_lit 123,(L2.oT #[(.str "one" 333),(.str "other" 334),(.str "rest" 335)])) ::
 (nat_lit 124,L2.o0) ::
 (nat_lit 126,(L2.oD "common_part" 330 25 2 121 122 (.ref 123) (.ref 124) 125 336)) ::
 (nat_lit 127,(L2.oF "common_part" (tp 10) .none (.str "lotmeal.fractions" 321) (.ref 126))) ::
 (nat_lit 128,(L2.oT #[(.int 1 339)])) ::
 (nat_lit 129,L2.o0) ::
 (nat_lit 131,(L2.oT #[(.str "top" 343),(.str "bottom" 344),(.str "part" 345)])) ::
 (nat_lit 132,L2.o0) ::
 (nat_lit 134,(L2.oD "fraction" 340 31 2 129 130 (.ref 131) (.ref 132) 133 346)) ::
 (nat_lit 135,(L2.oF "fraction" (tp 11) (.ref 128) (.str "lotmeal.fractions" 321) (.ref 134))) ::
 (nat_lit 136,L2.o0) ::
 (nat_lit 138,(L2.oT #[(.str "one" 352),(.str "other" 353)])) ::
 (nat_lit 139,L2.o0) ::
 (nat_lit 141,(L2.oD "plus" 349 40 2 136 137 (.ref 138) (.ref 139) 140 354)) ::
 (nat_lit 142,(L2.oF "plus" (tp 12) .none (.str "lotmeal.fractions" 321) (.ref 141))) ::
 (nat_lit 143,L2.o0) ::
 (nat_lit 145,(L2.oT #[(.str "one" 360),(.str "other" 361)])) ::
 (nat_lit 146,L2.o0) ::
 (nat_lit 148,(L2.oD "minus" 357 42 2 143 144 (.ref 145) (.ref 146) 147 362)) ::
 (nat_lit 149,(L2.oF "minus" (tp 13) .none (.str "lotmeal.fractions" 321) (.ref 148))) ::
 (nat_lit 150,L2.o0) ::
 (nat_lit 152,(L2.oT #[(.str "one" 368),(.str "other" 369)])) ::
 (nat_lit 153,L2.o0) ::
 (nat_lit 155,(L2.oD "times" 365 44 2 150 151 (.ref 152) (.ref 153) 154 370)) ::
 (nat_lit 156,(L2.oF "times" (tp 14) .none (.str "lotmeal.fractions" 321) (.ref 155))) ::
 (nat_lit 157,L2.o0) ::
 (nat_lit 159,(L2.oT #[(.str "one" 376),(.str "other" 377)])) ::
 (nat_lit 160,L2.o0) ::
 (nat_lit 162,(L2.oD "over" 373 46 2 157 158 (.ref 159) (.ref 160) 161 378)) ::
 (nat_lit 163,(L2.oF "over" (tp 15) .none (.str "lotmeal.fractions" 321) (.ref 162))) ::
 (nat_lit 164,L2.o0) ::
 (nat_lit 166,(L2.oT #[(.str "one" 384),(.str "other" 385)])) ::
 (nat_lit 167,L2.o0) ::
 (nat_lit 169,(L2.oD "under" 381 50 2 164 165 (.ref 166) (.ref 167) 168 386)) ::
 (nat_lit 170,(L2.oF "under" (tp 16) .none (.str "lotmeal.fractions" 321) (.ref 169))) ::
 (nat_lit 171,L2.o0) ::
 (nat_lit 173,(L2.oT #[(.str "some" 392),(.str "total" 393),(.str "one" 394)])) ::
 (nat_lit 174,L2.o0) ::
 (nat_lit 176,(L2.oD "sum_of" 389 52 1 171 172 (.ref 173) (.ref 174) 175 395)) ::
 (nat_lit 177,(L2.oF "sum_of" (tp 17) .none (.str "lotmeal.fractions" 321) (.ref 176))) ::
 (nat_lit 178,L2.o0) ::
 (nat_lit 180,(L2.oT #[(.str "some" 401),(.str "least" 402),(.str "one" 403)])) ::
 (nat_lit 181,L2.o0) ::
 (nat_lit 183,(L2.oD "least_of" 398 57 1 178 179 (.ref 180) (.ref 181) 182 404)) ::
 (nat_lit 184,(L2.oF "least_of" (tp 18) .none (.str "lotmeal.fractions" 321) (.ref 183))) ::
 (nat_lit 185,L2.o0) ::
 (nat_lit 188,(L2.oD "check_orders" 413 66 2 185 186 .none .none 187 416)) ::
 (nat_lit 189,(L2.oF "check_orders" (tp 22) .none (.str "lotmeal.tables" 407) (.ref 188))) ::
 (nat_lit 190,L2.o0) ::
 (nat_lit 193,(L2.oD "table_of" 419 73 2 190 191 .none .none 192 422)) ::
 (nat_lit 194,(L2.oF "table_of" (tp 23) .none (.str "lotmeal.tables" 407) (.ref 193))) ::
 (nat_lit 195,L2.o0) ::
 (nat_lit 198,(L2.oD "full_order" 425 82 2 195 196 .none .none 197 428)) ::
 (nat_lit 199,(L2.oF "full_order" (tp 24) .none (.str "lotmeal.tables" 407) (.ref 198))) ::
 (nat_lit 200,L2.o0) ::
 (nat_lit 203,(L2.oD "first_left" 431 86 2 200 201 .none .none 202 434)) ::
 (nat_lit 204,(L2.oF "first_left" (tp 25) .none (.str "lotmeal.tables" 407) (.ref 203))) ::
 (nat_lit 205,L2.o0) ::
 (nat_lit 208,(L2.oD "next_length" 439 89 3 205 206 .none .none 207 442)) ::
 (nat_lit 209,(L2.oF "next_length" (tp 27) .none (.str "lotmeal.meal" 437) (.ref 208))) ::
 (nat_lit 210,L2.o0) ::
 (nat_lit 213,(L2.oD "left_behind" 445 92 3 210 211 .none .none 212 448)) ::
 (nat_lit 214,(L2.oF "left_behind" (tp 28) .none (.str "lotmeal.meal" 437) (.ref 213))) ::
 (nat_lit 215,L2.o0) ::
 (nat_lit 218,(L2.oD "ended_things" 451 94 1 215 216 .none .none 217 454)) ::
 (nat_lit 219,(L2.oF "ended_things" (tp 29) .none (.str "lotmeal.meal" 437) (.ref 218))) ::
 (nat_lit 220,L2.o0) ::
 (nat_lit 223,(L2.oD "meal_steps" 457 96 1 220 221 .none .none 222 460)) ::
 (nat_lit 224,(L2.oF "meal_steps" (tp 30) .none (.str "lotmeal.meal" 437) (.ref 223))) ::
 (nat_lit 225,L2.o0) ::
 (nat_lit 228,(L2.oD "eaten_by" 463 109 3 225 226 .none .none 227 466)) ::
 (nat_lit 229,(L2.oF "eaten_by" (tp 31) .none (.str "lotmeal.meal" 437) (.ref 228))) ::
 (nat_lit 230,L2.o0) ::
 (nat_lit 233,(L2.oD "meal" 469 111 1 230 231 .none .none 232 472)) ::
 (nat_lit 234,(L2.oF "meal" (tp 32) .none (.str "lotmeal.meal" 437) (.ref 233))) ::
 (nat_lit 235,L2.o0) ::
 (nat_lit 238,(L2.oD "weight_of" 477 117 3 235 236 .none .none 237 480)) ::
 (nat_lit 239,(L2.oF "weight_of" (tp 34) .none (.str "lotmeal.mixes" 475) (.ref 238))) ::
 (nat_lit 240,L2.o0) ::
 (nat_lit 243,(L2.oD "shares_of" 483 119 2 240 241 .none .none 242 486)) ::
 (nat_lit 244,(L2.oF "shares_of" (tp 35) .none (.str "lotmeal.mixes" 475) (.ref 243))) ::
 (nat_lit 245,L2.o0) ::
 (nat_lit 248,(L2.oD "deal_by" 493 124 2 245 246 .none .none 247 496)) ::
 (nat_lit 249,(L2.oF "deal_by" (tp 38) .none (.str "lotmeal.turns" 489) (.ref 248))) ::
 (nat_lit 250,L2.o0) ::
 (nat_lit 253,(L2.oD "longer" 499 133 2 250 251 .none .none 252 502)) ::
 (nat_lit 254,(L2.oF "longer" (tp 39) .none (.str "lotmeal.turns" 489) (.ref 253))) ::
 (nat_lit 255,L2.o0) ::
 (nat_lit 257,(L2.oT #[(.str "many" 508),(.str "told" 509),(.str "length" 510)])) ::
 (nat_lit 258,L2.o0) ::
 (nat_lit 260,(L2.oD "all_turns" 505 138 1 255 256 (.ref 257) (.ref 258) 259 511)) ::
 (nat_lit 261,(L2.oF "all_turns" (tp 40) .none (.str "lotmeal.turns" 489) (.ref 260))) ::
 (nat_lit 262,L2.o0) ::
 (nat_lit 265,(L2.oD "turn_mix" 514 145 1 262 263 .none .none 264 517)) ::
 (nat_lit 266,(L2.oF "turn_mix" (tp 41) .none (.str "lotmeal.turns" 489) (.ref 265))) ::
 (nat_lit 267,L2.o0) ::
 (nat_lit 269,(L2.oT #[(.str "table" 523)])) ::
 (nat_lit 270,L2.o0) ::
 (nat_lit 272,(L2.oD "turn_shares" 520 152 1 267 268 (.ref 269) (.ref 270) 271 524)) ::
 (nat_lit 273,(L2.oF "turn_shares" (tp 42) .none (.str "lotmeal.turns" 489) (.ref 272))) ::
 (nat_lit 274,L2.o0) ::
 (nat_lit 276,(L2.oT #[(.str "table" 532),(.str "asker" 533)])) ::
 (nat_lit 277,L2.o0) ::
 (nat_lit 279,(L2.oD "check_asker" 529 155 2 274 275 (.ref 276) (.ref 277) 278 534)) ::
 (nat_lit 280,(L2.oF "check_asker" (tp 44) .none (.str "lotmeal.lies" 527) (.ref 279))) ::
 (nat_lit 281,L2.o0) ::
 (nat_lit 283,(L2.oT #[(.str "table" 540),(.str "asker" 541),(.str "order" 542),(.str "orders" 543)])) ::
 (nat_lit 284,L2.o0) ::
 (nat_lit 286,(L2.oD "told_otherwise" 537 158 3 281 282 (.ref 283) (.ref 284) 285 544)) ::
 (nat_lit 287,(L2.oF "told_otherwise" (tp 45) .none (.str "lotmeal.lies" 527) (.ref 286))) ::
 (nat_lit 288,L2.o0) ::
 (nat_lit 290,(L2.oT #[(.str "_law_script" 552),(.str "_law_k" 553)])) ::
 (nat_lit 291,L2.o0) ::
 (nat_lit 293,(L2.oD "_law_cell_at" 549 164 2 288 289 (.ref 290) (.ref 291) 292 554)) ::
 (nat_lit 294,(L2.oF "_law_cell_at" (tp 47) .none (.str "law_lotmeal_k94_whole_no_lie_is_better" 547) (.ref 293))) ::
 (nat_lit 295,L2.o0) ::
 (nat_lit 297,(L2.oT #[(.str "_law_cell" 560),(.str "_law_many" 561),(.str "_law_size" 562),(.str "_law_left" 563),(.str "_law_order_here" 564),(.str "_law_k" 565),(.str "_law_at" 566)])) ::
 (nat_lit 298,L2.o0) ::
 (nat_lit 300,(L2.oD "_law_order" 557 168 2 295 296 (.ref 297) (.ref 298) 299 567)) ::
 (nat_lit 301,(L2.oF "_law_order" (tp 48) .none (.str "law_lotmeal_k94_whole_no_lie_is_better" 547) (.ref 300))) ::
 (nat_lit 302,L2.o0) ::
 (nat_lit 305,(L2.oD "_law_table" 570 178 4 302 303 .none .none 304 573)) ::
 (nat_lit 306,(L2.oF "_law_table" (tp 49) .none (.str "law_lotmeal_k94_whole_no_lie_is_better" 547) (.ref 305))) ::
 (nat_lit 307,L2.o0) ::
 (nat_lit 310,(L2.oD "_law_full" 576 189 2 307 308 .none .none 309 579)) ::
 (nat_lit 311,(L2.oF "_law_full" (tp 50) .none (.str "law_lotmeal_k94_whole_no_lie_is_better" 547) (.ref 310))) ::
 (nat_lit 312,L2.o0) ::
 (nat_lit 314,(L2.oT #[(.str "_law_table_here" 585),(.str "_law_asker" 586),(.str "_law_row" 587),(.str "_law_found" 588),(.str "_law_top" 589),(.str "_law_bottom" 590),(.str "_law_number" 591),(.str "_law_one" 592)])) ::
 (nat_lit 315,L2.o0) ::
 (nat_lit 317,(L2.oD "_law_sums" 582 193 3 312 313 (.ref 314) (.ref 315) 316 593)) ::
 (nat_lit 318,(L2.oF "_law_sums" (tp 51) .none (.str "law_lotmeal_k94_whole_no_lie_is_better" 547) (.ref 317))) ::
 (nat_lit 319,L2.o0) ::
 (nat_lit 321,(L2.oT #[(.str "_law_some" 599),(.str "_law_others" 600),(.str "_law_found" 601),(.str "_law_one" 602),(.str "_law_other" 603),(.str "_law_gap" 604)])) ::
 (nat_lit 322,L2.o0) ::
 (nat_lit 324,(L2.oD "_law_differences" 596 203 2 319 320 (.ref 321) (.ref 322) 323 605)) ::
 (nat_lit 325,(L2.oF "_law_differences" (tp 52) .none (.str "law_lotmeal_k94_whole_no_lie_is_better" 547) (.ref 324))) ::
 (nat_lit 326,L2.o0) ::
 (nat_lit 329,(L2.oD "_law_right" 608 209 5 326 327 .none .none 328 611)) ::
 (nat_lit 330,(L2.oF "_law_right" (tp 53) .none (.str "law_lotmeal_k94_whole_no_lie_is_better" 547) (.ref 329))) ::
 (nat_lit 331,L2.o0) ::
 (nat_lit 333,(L2.oT #[(.str "_law_script" 617),(.str "_law_table_here" 618),(.str "_law_few" 619),(.str "_law_shares" 620),(.str "_law_others" 621),(.str "_law_cell" 622),(.str "_law_asker" 623),(.str "_law_order_here" 624),(.str "_law_way" 625),(.str "_law_first" 626)])) ::
 (nat_lit 334,L2.o0) ::
 (nat_lit 336,(L2.oD "law" 614 224 1 331 332 (.ref 333) (.ref 334) 335 627)) ::
 (nat_lit 337,(L2.oF "law" (tp 54) .none (.str "law_lotmeal_k94_whole_no_lie_is_better" 547) (.ref 336))) :: []
def hA : List Addr := [2,3,15,22,23,24,25,28,35,36,37,40,47,48,49,52,59,60,61,64,71,73,74,76,77,78,79,80,83,90,92,93,95,96,97,98,99,102,109,110,111,114,116,117,119,120,121,123,124,126,127,128,129,131,132,134,135,136,138,139,141,142,143,145,146,148,149,150,152,153,155,156,157,159,160,162,163,164,166,167,169,170,171,173,174,176,177,178,180,181,183,184,185,188,189,190,193,194,195,198,199,200,203,204,205,208,209,210,213,214,215,218,219,220,223,224,225,228,229,230,233,234,235,238,239,240,243,244,245,248,249,250,253,254,255,257,258,260,261,262,265,266,267,269,270,272,273,274,276,277,279,280,281,283,284,286,287,288,290,291,293,294,295,297,298,300,301,302,305,306,307,310,311,312,314,315,317,318,319,321,322,324,325,326,329,330,331,333,334,336,337]
theorem sF (P : Params) : hA = (hK P).map (·.1) := by kernel_rfl
def hV : Program := { pr with main := { pr.main with body := [1,2,3,4,5,6,7,9,10,12,13,14,15,16,17,18,20,21,22,23,24,25,27,28,29,30,31,32,34,35,37,38,39,40,41,42,44,45,47,48,49,50,51,52,53,54].map tp } }
def hX (s : Shared) : Bool := xlAt hV [] s && recOk (RowW.records PySem.Challenge.rw_lotmeal_k94_whole_no_lie_is_better.row.toRowW) s
noncomputable abbrev hH : Hook := kHook hK hA sF
theorem h1 : opening pr = plainProg pr.main.scope.names := by kernel_rfl
theorem h2 (s : Shared) : fenceModules? pr s = some s := by kernel_rfl
theorem h3 (w : World) : (fun os => (L2.jH pr w 5516 os).map fun st => L2.o8 pr w st) = fun _ => some true := by kernel_rfl
theorem h4 (w : World) : (fun os => (L2.jH pr w 5516 os).map fun st => openSeen hV ["fraction"] (importedModules pr.main.body) hX true st.abs) = fun _ => some (openGood hV ["fraction"]) := by kernel_rfl
theorem h5 (w : World) : (fun os => (L2.jH pr w 5516 os).map fun st => hH.obs st.abs) = fun _ => some (hH.val w) := by kernel_rfl
theorem hL : LeftO pr hV ["fraction"] hX hH.obs hH.val 5516 := L2.MT h1 (by decide) h2 h3 h4 h5
end fR
namespace L2
open PySem PySem.Spec PyProof.Rows
abbrev Key := Sum Int Str
def m9 : Key -> Value -> Bool
  | .inl k,v => Value.isInt k v
  | .inr x,v => Value.isStrOf x v
def SN (w : World) : Key -> Int
  | .inl k => hashInt k
  | .inr x => hashStr w x
theorem i6 : ∀ {k : Key} {v : Value},m9 k v = true -> (∃ i t,k = Sum.inl i /\ v = Value.int i t) \/ (∃ x t,k = Sum.inr x /\ v = Value.str x t)
  | .inl i,v,h => by
    obtain ⟨t,e⟩ := Value.isInt_shape (k := i) (v := v) h
    exact .inl ⟨i,t,rfl,e⟩
  | .inr x,v,h => by
    obtain ⟨t,e⟩ := Value.isStrOf_shape (x := x) (v := v) h
    exact .inr ⟨x,t,rfl,e⟩
theorem MU (i : Int) (t : Tok) : m9 (.inl i) (.int i t) = true := by simp [m9,Value.isInt]
theorem MV (x : Str) (t : Tok) : m9 (.inr x) (.str x t) = true := by simp [m9,Value.isStrOf]
theorem QG (a b : Int) : decide ((Sum.inl a : Key) = Sum.inl b) = (a == b) := by
  by_cases e : a = b
  · subst e; simp
  · have h : ¬ (Sum.inl a : Key) = Sum.inl b := fun q => e (Sum.inl.inj q)
    rw [decide_eq_false h]
    exact (beq_eq_false_iff_ne.mpr e).symm
theorem QH (a b : Str) : decide ((Sum.inr a : Key) = Sum.inr b) = decide (a = b) := by
  by_cases e : a = b
  · subst e; simp
  · have h : ¬ (Sum.inr a : Key) = Sum.inr b := fun q => e (Sum.inr.inj q)
    rw [decide_eq_false h,decide_eq_false e]
theorem QI (a : Int) (b : Str) : decide ((Sum.inl a : Key) = Sum.inr b) = false := decide_eq_false (fun q => nomatch q)
theorem QJ (a : Str) (b : Int) : decide ((Sum.inr a : Key) = Sum.inl b) = false := decide_eq_false (fun q => nomatch q)
def ft (prog : Program) (w : World) : PySem.KeyKind prog w Key where
  is := m9
  hash := SN w
  inj := fun v a b ha hb => by
    rcases i6 ha with ⟨i,t,rfl,rfl⟩ | ⟨x,t,rfl,rfl⟩
    · rcases i6 hb with ⟨j,u,rfl,e⟩ | ⟨y,u,rfl,e⟩
      · injection e with e1 _; rw [e1]
      · exact nomatch e
    · rcases i6 hb with ⟨j,u,rfl,e⟩ | ⟨y,u,rfl,e⟩
      · exact nomatch e
      · injection e with e1 _; rw [e1]
  byValue := fun k v h => by
    rcases i6 h with ⟨i,t,rfl,rfl⟩ | ⟨x,t,rfl,rfl⟩ <;> rfl
  pyHash := fun hv h => by
    rcases i6 hv with ⟨i,t,rfl,rfl⟩ | ⟨x,t,rfl,rfl⟩
    · exact wpAny_pyHash_int h
    · exact wpAny_pyHash_str h
  eqBool := fun hu hv h => by
    rcases i6 hu with ⟨i,t,rfl,rfl⟩ | ⟨x,t,rfl,rfl⟩
    · rcases i6 hv with ⟨j,u,rfl,rfl⟩ | ⟨y,u,rfl,rfl⟩
      · rw [QG] at h; exact wpAny_eqBool_int h
      · rw [QI] at h; exact SeqAt.EqAt.int_str i t y u _ _ _ _ h
    · rcases i6 hv with ⟨j,u,rfl,rfl⟩ | ⟨y,u,rfl,rfl⟩
      · rw [QJ] at h; exact SeqAt.EqAt.str_int x t j u _ _ _ _ h
      · rw [QH] at h; exact wpAny_eqBool_str h
  «strs» := fun k x t v h => by
    rcases i6 h with ⟨i,u,rfl,e⟩ | ⟨y,u,rfl,e⟩
    · exact nomatch e
    · injection e with e1 _
      subst e1
      cases v <;> rfl
theorem Mb (prog : Program) (w : World) (i : Int) (t : Tok) : (ft prog w).is (.inl i) (.int i t) = true := MU i t
theorem Md (prog : Program) (w : World) (x : Str) (t : Tok) : (ft prog w).is (.inr x) (.str x t) = true := MV x t
end L2
namespace L2
open PySem PySem.Spec PyProof.Rows
inductive V where
  | aM | bl (b : Bool) | int (i : Int) | str (x : Str) | gZ (b : Array UInt8) | kN (b : UInt64) | ref (a : Addr) | ty (n : String)
  deriving DecidableEq
def RelV : V -> Value -> Prop
  | .aM,u => u = Value.none
  | .bl b,u => u = Value.bool b
  | .int i,u => ∃ t,u = Value.int i t
  | .str x,u => ∃ t,u = Value.str x t
  | .gZ b,u => ∃ t,u = Value.bytes b t
  | .kN b,u => ∃ t,u = Value.float b t
  | .ref a,u => u = Value.ref a
  | .ty n,u => u = Value.type n
abbrev Vals : List V -> List Value -> Prop := Paired RelV
theorem Vals.length {xs : List V} {us : List Value} (r : Vals xs us) : xs.length = us.length := Paired.length r
theorem Vals.get : ∀ {xs : List V} {us : List Value} {i : Nat} {x : V},Vals xs us -> xs[i]? = some x -> ∃ u,us[i]? = some u /\ RelV x u
  | _,_,_,_,.nil,e => by simp at e
  | _,_,0,_,.cons r _,e => by simp at e; subst e; exact ⟨_,rfl,r⟩
  | _,_,i + 1,x,.cons _ t,e => by
    obtain ⟨u,h1,h2⟩ := Vals.get (i := i) (x := x) t (by simpa using e)
    exact ⟨u,by simpa using h1,h2⟩
theorem Vals.set {x : V} {u : Value} (r : RelV x u) : ∀ {xs : List V} {us : List Value} (i : Nat),Vals xs us -> Vals (xs.set i x) (us.set i u)
  | _,_,_,.nil => .nil
  | _,_,0,.cons _ t => .cons r t
  | _,_,i + 1,.cons q t => .cons q (Vals.set r i t)
theorem Vals.append : ∀ {xs ys : List V} {us ws : List Value},Vals xs us -> Vals ys ws -> Vals (xs ++ ys) (us ++ ws)
  | _,_,_,_,.nil,s => s
  | _,_,_,_,.cons r t,s => .cons r (Vals.append t s)
theorem Vals.take : ∀ {xs : List V} {us : List Value} (n : Nat),Vals xs us -> Vals (xs.take n) (us.take n)
  | _,_,0,_ => .nil
  | _,_,_ + 1,.nil => .nil
  | _,_,n + 1,.cons r t => .cons r (Vals.take n t)
theorem Vals.drop : ∀ {xs : List V} {us : List Value} (n : Nat),Vals xs us -> Vals (xs.drop n) (us.drop n)
  | _,_,0,r => r
  | _,_,_ + 1,.nil => .nil
  | _,_,n + 1,.cons _ t => Vals.drop n t
def gx : Option V -> Option Value -> Prop
  | some v,some u => RelV v u
  | none,none => True
  | _,_ => False
def KV {κ : Type} : List (κ × V) -> List (κ × Value) -> Prop := Paired fun (p : κ × V) (q : κ × Value) => p.1 = q.1 /\ RelV p.2 q.2
def kV : Key -> V
  | .inl i => .int i
  | .inr x => .str x
inductive HO where
  | lst (xs : List V)
  | tup (xs : List V)
  | dK (ah : List (Key × V)) | dT (ah : List (List Key × V))
  | set (S : Int -> Bool) (n : Nat)
  | ins (C dx : Addr) (fs : List (Str × V))
  | own (x : Addr)
  | xd (fs : List (Str × V))
  | met (f x : Addr)
  | bj (lo hi : Int)
  | cX (o : Obj) (u : HO)
  | kO (ps : Array Value)
  | ext (φ : Heap -> Prop)
abbrev Hp := Addr -> Option HO
def upd (H : Hp) (a : Addr) (o : HO) : Hp := fun b => if b = a then some o else H b
theorem cL {H : Hp} {a : Addr} {o : HO} : upd H a o a = some o := by unfold upd; rw [if_pos rfl]
theorem bh {H : Hp} {a b : Addr} {o : HO} (h : b ≠ a) : upd H a o b = H b := by unfold upd; rw [if_neg h]
theorem R6 {H : Hp} {a b : Addr} {o u : HO} (h : H a = some o) (h' : H b = some u) (d : o ≠ u) : a ≠ b := by
  intro e; subst e; rw [h] at h'; exact d (Option.some.inj h')
theorem hC {H : Hp} {a b : Addr} {o : HO} (h : H a = some o) (h' : H b = none) : a ≠ b := by
  intro e; subst e; rw [h] at h'; cases h'
section
variable (P : Program) (w : World)
def bM (H : Hp) (h : Heap) (a : Addr) : HO -> Prop
  | .lst xs => xs.length <= sizeLine /\ ∃ (its : List Value) (n : Nat),Vals xs its /\ h.get? a = some { cls := .type "list",data := .seq its.toArray n }
  | .tup xs => xs.length <= sizeLine /\ ∃ its : List Value,Vals xs its /\ IsTup h a its.toArray
  | .dK ah => ah.length <= sizeLine /\ (a == sysModules) = false /\ ∃ vs,KV ah vs /\ h.DictOf (ft P w) a vs
  | .dT ah => ah.length <= sizeLine /\ (a == sysModules) = false /\ ∃ xs : List (List Key × Addr × Value),
      Paired (fun (p : List Key × V) (q : List Key × Addr × Value) => p.1 = q.1 /\ H q.2.1 = some (.tup (p.1.map kV)) /\ RelV p.2 q.2.2) ah xs /\
      ∃ o es ep,h.get? a = some o /\ o.ExactDict /\ o.data = .dict es ep /\ es.toList = xs.map (entryOfKey (tupleKind (ft P w))) /\ (xs.map (·.1)).Nodup
  | .set S n => h.SetOf (intKind P w) a S n
  | .ins C dx fs => H dx = some (.own a) /\ fs.length <= 1000 /\ dx ≠ a /\ h.get? a = some (PySem.W.instObj C dx) /\
      ∃ mA,h.Ns1 dx mA /\ (∀ f,gx (fs.lookup f) (mA f)) /\ PySem.Within mA (fs.map (·.1))
  | .own _ => ∃ o,h.get? a = some o
  | .xd fs => ∃ mA,h.Ns1 a mA /\ ∀ f,gx (fs.lookup f) (mA f)
  | .bj lo hi => ∃ t u v,h.get? a = some { cls := .type "range",data := .fields #[.int lo t,.int hi u,.int 1 v] }
  | .cX o u => h.get? a = some o /\ bM H h a u
  | .kO ps => h.get? a = some { cls := .none,data := .fields ps }
  | .met f x => h.get? a = some (PySem.W.methodObj (.ref f) (.ref x))
  | .ext φ => φ h /\ (∃ o,h.get? a = some o) /\ ∀ h1 h2 : Heap,φ h1 -> (∀ o,h1.get? a = some o -> h2.get? a = some o) -> φ h2
def bO (H : Hp) (h : Heap) : Prop := ∀ a o,H a = some o -> bM P w H h a o
end
section
variable {P : Program} {w : World} {H H' : Hp} {h h' : Heap} {a : Addr} {o : HO}
theorem bM.lt (x : bM P w H h a o) : a < h.objs.size := by
  cases o with
  | lst xs => obtain ⟨_,_,_,_,e⟩ := x; exact Heap.lt_size e
  | tup xs => obtain ⟨_,_,_,p⟩ := x; exact p.lt
  | dK ah => obtain ⟨_,_,_,_,o,_,_,e,_⟩ := x; exact Heap.lt_size e
  | dT ah => obtain ⟨_,_,_,_,o,_,_,e,_⟩ := x; exact Heap.lt_size e
  | set S n => obtain ⟨o,_,_,_,e,_⟩ := x; exact Heap.lt_size e
  | ins C dx fs => obtain ⟨_,_,_,e,_⟩ := x; exact Heap.lt_size e
  | own y => obtain ⟨_,e⟩ := x; exact Heap.lt_size e
  | xd fs => obtain ⟨_,⟨_,_,_,e,_⟩,_⟩ := x; exact Heap.lt_size e
  | bj lo hi => obtain ⟨_,_,_,e⟩ := x; exact Heap.lt_size e
  | cX ob u => obtain ⟨e,_⟩ := x; exact Heap.lt_size e
  | kO ps => exact Heap.lt_size (show h.get? a = some _ from x)
  | met f y => exact Heap.lt_size (show h.get? a = some _ from x)
  | ext φ => obtain ⟨_,⟨_,e⟩,_⟩ := x; exact Heap.lt_size e
theorem Paired.xY {α β : Type} {F G : α -> β -> Prop} : ∀ {Hq : List α} {Hr : List β},Paired F Hq Hr -> (∀ a b,F a b -> G a b) -> Paired G Hq Hr
  | _,_,.nil,_ => .nil
  | _,_,.cons r t,f => .cons (f _ _ r) (Paired.xY t f)
theorem bM.jf (x : bM P w H h a o) (k : ∀ b u,(b = a \/ H b = some (.own a)) -> h.get? b = some u -> h'.get? b = some u)
    (ho : ∀ b,H b = some (.own a) -> H' b = some (.own a)) (ht : ∀ b xs,H b = some (.tup xs) -> H' b = some (.tup xs)) : bM P w H' h' a o := by
  induction o with
  | lst xs => obtain ⟨z,its,n,r,e⟩ := x; exact ⟨z,its,n,r,k _ _ (.inl rfl) e⟩
  | tup xs => obtain ⟨z,its,r,ob,e,c⟩ := x; exact ⟨z,its,r,ob,k _ _ (.inl rfl) e,c⟩
  | dK ah => obtain ⟨z,y,vs,r,ob,es,ep,e,c⟩ := x; exact ⟨z,y,vs,r,ob,es,ep,k _ _ (.inl rfl) e,c⟩
  | dT ah =>
    obtain ⟨z,y,xs,r,ob,es,ep,e,c⟩ := x
    exact ⟨z,y,xs,Paired.xY r fun p q z => ⟨z.1,ht _ _ z.2.1,z.2.2⟩,ob,es,ep,k _ _ (.inl rfl) e,c⟩
  | set S n => obtain ⟨ob,es,ep,t,e,c⟩ := x; exact ⟨ob,es,ep,t,k _ _ (.inl rfl) e,c⟩
  | ins C dx fs =>
    obtain ⟨d,z,ne,e,mA,⟨od,es,ep,e2,c⟩,r⟩ := x
    exact ⟨ho _ d,z,ne,k _ _ (.inl rfl) e,mA,⟨od,es,ep,k _ _ (.inr d) e2,c⟩,r⟩
  | own y => obtain ⟨ob,e⟩ := x; exact ⟨ob,k _ _ (.inl rfl) e⟩
  | xd fs => obtain ⟨mA,⟨od,es,ep,e,c⟩,r⟩ := x; exact ⟨mA,⟨od,es,ep,k _ _ (.inl rfl) e,c⟩,r⟩
  | bj lo hi => obtain ⟨t,u,v,e⟩ := x; exact ⟨t,u,v,k _ _ (.inl rfl) e⟩
  | cX ob u ih => obtain ⟨e,q⟩ := x; exact ⟨k _ _ (.inl rfl) e,ih q⟩
  | kO ps =>
    have e : h.get? a = some { cls := .none,data := .fields ps } := x
    show h'.get? a = some { cls := .none,data := .fields ps }
    exact k a _ (.inl rfl) e
  | met f y =>
    have e : h.get? a = some (PySem.W.methodObj (.ref f) (.ref y)) := x
    show h'.get? a = some (PySem.W.methodObj (.ref f) (.ref y))
    exact k a _ (.inl rfl) e
  | ext φ => obtain ⟨p,⟨o,e⟩,st⟩ := x; exact ⟨st _ _ p fun o q => k _ _ (.inl rfl) q,⟨o,k _ _ (.inl rfl) e⟩,st⟩
theorem bO.lt (x : bO P w H h) (e : H a = some o) : a < h.objs.size := (x a o e).lt
theorem bO.fresh (x : bO P w H h) (e : h.objs.size <= a) : H a = none := by
  cases q : H a with
  | none => rfl
  | some u => exact absurd (Nat.lt_of_lt_of_le (x.lt q) e) (Nat.lt_irrefl _)
theorem bO.kept (x : bO P w H h) (k : ∀ b u,h.get? b = some u -> h'.get? b = some u) : bO P w H h' := fun a o e =>
  (x a o e).jf (fun b u _ q => k b u q) (fun _ q => q) fun _ _ q => q
theorem bO.laid (x : bO P w H h) (k : ∀ b u,h.get? b = some u -> h'.get? b = some u) (hp : h.objs.size <= a) (new : bM P w (upd H a o) h' a o) : bO P w (upd H a o) h' := fun b u e => by
  have hn := x.fresh hp
  by_cases hb : b = a
  · subst hb; rw [cL] at e; cases e; exact new
  · rw [bh hb] at e
    exact (x b u e).jf (fun c v _ q => k c v q) (fun c q => by rw [bh (hC q hn)]; exact q) fun c xs q => by rw [bh (hC q hn)]; exact q
end
def Rd (H : Hp) (a : Addr) (u : HO) : Prop := H a = some u \/ ∃ o,H a = some (.cX o u)
theorem Rd.ok {P : Program} {w : World} {H : Hp} {h : Heap} {a : Addr} {u : HO} (r : Rd H a u) (x : bO P w H h) : bM P w H h a u := by
  rcases r with r | ⟨o,r⟩
  · exact x a u r
  · obtain ⟨_,q⟩ := x a _ r
    exact q
def qc : Option HO -> Prop
  | some (.lst _) => True
  | some (.dK _) => True
  | some (.dT _) => True
  | some (.set _ _) => True
  | some (.ins _ _ _) => True
  | some (.ext _) => True
  | _ => False
section
variable {P : Program} {w : World} {H : Hp} {h h' : Heap} {x e : Addr} {o' : HO}
theorem bO.write (ok : bO P w H h) (mu : qc (H x)) (he : e = x \/ H e = some (.own x)) (k : ∀ b u,b ≠ e -> h.get? b = some u -> h'.get? b = some u) (nJ : ∃ u,h'.get? e = some u)
    (new : bM P w (upd H x o') h' x o') : bO P w (upd H x o') h' := fun b u q => by
  have Hs : ∀ c y,H c = some (.own y) -> c ≠ x := fun c y r z => by subst z; rw [r] at mu; exact mu
  have SQ : ∀ c xs,H c = some (.tup xs) -> c ≠ x := fun c xs r z => by subst z; rw [r] at mu; exact mu
  by_cases hb : b = x
  · subst hb; rw [cL] at q; cases q; exact new
  · rw [bh hb] at q
    by_cases kP : b = e
    · have q' : H b = some (.own x) := by
        rcases he with z | z
        · exact absurd (kP.trans z) hb
        · rw [kP]; exact z
      rw [q] at q'; cases q'
      obtain ⟨v,hv⟩ := nJ
      exact ⟨v,by rw [kP]; exact hv⟩
    · refine (ok b u q).jf (fun c v hc r => k c v ?_ r) (fun c r => by rw [bh (Hs c b r)]; exact r) fun c xs r => by rw [bh (SQ c xs r)]; exact r
      rcases hc with rfl | hc
      · exact kP
      · rintro rfl
        rcases he with z | z
        · exact Hs c b hc z
        · rw [hc] at z; cases z; exact hb rfl
end
structure Un (fs ex : List Addr) (H H' : Hp) (h h' : Heap) : Prop where
  keep : ∀ b o,h.get? b = some o -> H b = none -> b ∉ fs -> b ∉ ex -> h'.get? b = some o
  slot : ∀ b o,h.get? b = some o -> H b = none -> b ∈ fs -> b ∉ ex -> ∃ sl,h'.get? b = some { o with slots := sl }
  free : ∀ b o,h.get? b = some o -> H b = none -> b ∉ ex -> H' b = none
  there : ∀ b o,h.get? b = some o -> b ∉ ex -> ∃ o',h'.get? b = some o'
  iR : ∀ b xs,H b = some (.tup xs) -> H' b = some (.tup xs)
  ic : ∀ b o u,H b = some (.cX o u) -> H' b = some (.cX o u)
  iS : ∀ b ps,H b = some (.kO ps) -> ∃ more,H' b = some (.kO (ps ++ more))
section
variable {fs XA ex ex' : List Addr} {H H1 H2 : Hp} {h h1 h2 h' : Heap} {a x e : Addr} {o : HO}
theorem Un.any (u : Un fs ex H H1 h h1) {b : Addr} {ob : Obj} (q : h.get? b = some ob) (n : H b = none) (hx : b ∉ ex) : ∃ sl,h1.get? b = some { ob with slots := sl } := by
  by_cases hb : b ∈ fs
  · exact u.slot b ob q n hb hx
  · exact ⟨ob.slots,u.keep b ob q n hb hx⟩
theorem Un.kept (k : ∀ b u,h.get? b = some u -> h'.get? b = some u) : Un fs ex H H h h' :=
  ⟨fun b ob q _ _ _ => k b ob q,fun b ob q _ _ _ => ⟨ob.slots,k b ob q⟩,fun _ _ _ n _ => n,fun b ob q _ => ⟨ob,k b ob q⟩,fun _ _ q => q,fun _ _ _ q => q,fun _ ps q => ⟨#[],by rw [q]; simp⟩⟩
theorem Un.refl : Un fs ex H H h h := Un.kept fun _ _ q => q
theorem Un.laid (k : ∀ b u,h.get? b = some u -> h'.get? b = some u) (hp : h.objs.size <= a) (hn : H a = none) : Un fs ex H (upd H a o) h h' where
  keep := fun b u q _ _ _ => k b u q
  slot := fun b u q _ _ _ => ⟨u.slots,k b u q⟩
  free := fun b u q n _ => by rw [bh (Nat.ne_of_lt (Nat.lt_of_lt_of_le (Heap.lt_size q) hp))]; exact n
  there := fun b u q _ => ⟨u,k b u q⟩
  iR := fun b xs q => by rw [bh (hC q hn)]; exact q
  ic := fun b u xs q => by rw [bh (hC q hn)]; exact q
  iS := fun b ps q => ⟨#[],by rw [bh (hC q hn),q]; simp⟩
theorem Un.write (mu : qc (H x)) (he : e = x \/ H e = some (.own x)) (k : ∀ b u,b ≠ e -> h.get? b = some u -> h'.get? b = some u) (nJ : ∃ u,h'.get? e = some u) : Un fs ex H (upd H x o) h h' := by
  have hx : ∀ b,H b = none -> b ≠ x := fun b n z => by subst z; rw [n] at mu; exact mu
  have hb : ∀ b,H b = none -> b ≠ e := fun b n z => by
    subst z
    rcases he with r | r
    · exact hx b n r
    · rw [n] at r; cases r
  have hm : ∀ b u,H b = some u -> ¬ qc (some u) -> b ≠ x := fun b u q nm z => by subst z; rw [q] at mu; exact nm mu
  refine ⟨fun b u q n _ _ => k b u (hb b n) q,fun b u q n _ _ => ⟨u.slots,k b u (hb b n) q⟩,fun b u q n _ => by rw [bh (hx b n)]; exact n,fun b u q _ => ?_,
    fun b xs q => by rw [bh (hm b _ q fun z => z)]; exact q,fun b u xs q => by rw [bh (hm b _ q fun z => z)]; exact q,fun b ps q => ⟨#[],by rw [bh (hm b _ q fun z => z),q]; simp⟩⟩
  by_cases kP : b = e
  · subst kP; exact nJ
  · exact ⟨u,k b u kP q⟩
end
def tu (h : Heap) (H : Hp) : List Addr := (List.range h.objs.size).filter fun a => (H a).isSome
def jg (h : Heap) (H : Hp) : Heap := PySem.W.hideAll h (tu h H)
theorem MX (h : Heap) (H : Hp) : (jg h H).objs.size = h.objs.size := PySem.W.hideAll_size _ _
theorem NK {h : Heap} {H : Hp} {b : Addr} {o : Obj} (e : h.get? b = some o) (n : H b = none) : (jg h H).get? b = some o :=
  PySem.W.hideAll_get _ e fun hm => by
    have q : (H b).isSome = true := (List.mem_filter.mp hm).2
    rw [n] at q; simp at q
theorem OV {h : Heap} {H : Hp} {b : Addr} {o : Obj} (e : (jg h H).get? b = some o) : h.get? b = some o /\ H b = none := by
  have e' : h.get? b = some o := PySem.W.of_hideAll (tu h H) e
  refine ⟨e',?_⟩
  cases q : H b with
  | none => rfl
  | some x =>
    have hm : b ∈ tu h H := List.mem_filter.mpr ⟨List.mem_range.mpr (Heap.lt_size e'),by simp [q]⟩
    have z : (jg h H).get? b = none := PySem.W.hideAll_none (tu h H) hm
    rw [z] at e; cases e
end L2
namespace L2
open PySem PySem.Spec PyProof.Rows
structure Mod (K : PySem.W.Frag) (mg : Str -> Option Value) (base : Heap) : Prop where
  yF : K.In base
  glob : base.Ns mainGlobals mg
  blt : ∃ mb,base.Ns builtinsNs mb /\ ∀ x : Str,x ≠ "__name__" -> mb x = bootBuiltins x
  nolimit : base.NoLimit
structure Cx where
  prog : Program
  w : World
  K : PySem.W.Frag
  mg : Str -> Option Value
  base : Heap
  A : Around
  N : List Str
  cO : Shared
  pR : Hp
  env : Env
  outer : List Env
  stack : List Env
  ex : List Addr
  fn : Str -> Bool
  calm : Bool
  pn : List (Addr × Obj)
  xe : Value -> Shared -> Prop
def cU (l : List Env) : List Addr := l.filterMap (·.frame)
abbrev Cx.fs (X : Cx) : List Addr := cU X.outer
def ip (sc : Scope) (x : Str) : Prop := sc.names.lookup x = some .local \/ sc.names.lookup x = some .cell \/ sc.names.lookup x = some .free
def Loc (sc : Scope) (x : Str) : Prop := sc.names.lookup x = some .local \/ sc.names.lookup x = some .cell
def Look (env : Env) (h : Heap) (m : Str -> Option Value) (x : Str) (u : Value) : Prop :=
  (env.kindOf x = some .local /\ m x = some u) \/ ((env.kindOf x = some .cell \/ env.kindOf x = some .free) /\ ∃ c,env.cells.lookup x = some c /\ h.IsCell c (some u))
structure Cx.Ok (X : Cx) : Prop where
  mod : Mod X.K X.mg X.base
  kind : X.env.scope.kind = .function
  glob : X.env.globals = mainGlobals
  blt : X.env.builtins = builtinsNs
  above : X.cO.heap.objs.size <= X.env.locals
  inj : ∀ x y c,X.env.cells.lookup x = some c -> X.env.cells.lookup y = some c -> x = y
  has : ∀ x,(X.env.kindOf x = some .cell \/ X.env.kindOf x = some .free) -> ∃ c,X.env.cells.lookup x = some c
  qd : ∀ x c,X.fn x = true -> X.env.cells.lookup x = some c -> X.cO.heap.objs.size <= c
  hd : X.calm = true -> X.A.handled = none
  frames : X.A.frames = some X.stack
  kQ : X.stack = X.outer \/ (X.stack = X.env :: X.outer /\ X.env.frame = some X.env.locals)
  IY : ∀ b ∈ X.ex,b ≠ X.env.locals /\ ∀ x c,X.env.cells.lookup x = some c -> c ≠ b
  bs : ∀ b o,X.base.get? b = some o -> X.cO.heap.get? b = some o /\ X.pR b = none
  kR : X.base.objs.size <= X.cO.heap.objs.size
  pS : ∀ b o,X.base.get? b = some o -> b ∉ X.ex
  sS : ∀ b ∈ X.ex,b ∉ X.fs
  ie : X.cO.heap.FunFrames X.base X.outer
  nK : ∀ b ∈ X.fs,X.pR b = none
structure Inv (X : Cx) (pins : List (Addr × Obj)) (σ : List (Option V)) (H : Hp) (s : Shared) : Prop where
  ok : X.Ok
  os : s.os = X.cO.os
  bare : AllBare s.gens
  base : Un X.fs X.ex X.pR H X.cO.heap s.heap
  loc : ∃ m,s.heap.Ns X.env.locals m /\ ∀ (i : Nat) (x : Str) (v : V),X.N[i]? = some x -> σ[i]? = some (some v) -> ip X.env.scope x -> ∃ u,RelV v u /\ Look X.env s.heap m x u
  cell : ∀ x c,X.env.cells.lookup x = some c -> ∃ v,s.heap.IsCell c v
  free : H X.env.locals = none
  iP : ∀ x c,X.env.cells.lookup x = some c -> H c = none
  pin : ∀ p ∈ X.pn ++ pins,s.heap.get? p.1 = some p.2 /\ H p.1 = none /\ p.1 ≠ X.env.locals /\ p.1 ∉ X.fs /\ ∀ v,p.2.data ≠ .cell v
  ay : bO X.prog X.w H s.heap
  len : σ.length = X.N.length
section
variable {X : Cx} {pins : List (Addr × Obj)} {σ : List (Option V)} {H H' : Hp} {s : Shared} {h' : Heap}
theorem Cx.Ok.SR (ok : X.Ok) {b : Addr} {o : Obj} (e : X.base.get? b = some o) : b ∉ X.fs := fun hb => by
  have := (ok.ie.mem hb).1
  rw [e] at this; cases this
theorem Inv.bs (I : Inv X pins σ H s) : ∀ b o,X.base.get? b = some o -> s.heap.get? b = some o /\ H b = none := fun b o e =>
  ⟨I.base.keep b o (I.ok.bs b o e).1 (I.ok.bs b o e).2 (I.ok.SR e) (I.ok.pS b o e),I.base.free b o (I.ok.bs b o e).1 (I.ok.bs b o e).2 (I.ok.pS b o e)⟩
theorem Inv.bk (I : Inv X pins σ H s) : ∀ b o,X.base.get? b = some o -> s.heap.get? b = some o := fun b o e => (I.bs b o e).1
theorem Inv.mod (I : Inv X pins σ H s) : Mod X.K X.mg X.base := I.ok.mod
theorem Inv.dC (I : Inv X pins σ H s) : X.K.In s.heap := I.ok.mod.yF.keeps I.bk
theorem Inv.lt (I : Inv X pins σ H s) : X.env.locals < s.heap.objs.size := let ⟨_,hn,_⟩ := I.loc; hn.lt
theorem Inv.sz (I : Inv X pins σ H s) : X.cO.heap.objs.size <= s.heap.objs.size := Nat.le_trans I.ok.above (Nat.le_of_lt I.lt)
theorem Inv.SU (I : Inv X pins σ H s) {a : Addr} (h : s.heap.objs.size <= a) : a ∉ X.fs := fun hb => by
  obtain ⟨_,o,ho,_⟩ := I.ok.ie.mem hb
  exact absurd (Nat.lt_of_lt_of_le (Heap.lt_size ho) (Nat.le_trans I.sz h)) (Nat.lt_irrefl _)
theorem Inv.kS (I : Inv X pins σ H s) : ∀ x c,X.env.cells.lookup x = some c -> c ≠ X.env.locals := fun x c e z => by
  obtain ⟨v,o,ho,hd⟩ := I.cell x c e
  obtain ⟨m,⟨o',es,ep,iq,qf,_⟩,_⟩ := I.loc
  rw [z,iq] at ho; cases ho; rw [qf] at hd; cases hd
theorem Inv.ie (I : Inv X pins σ H s) : s.heap.FunFrames X.base X.outer := by
  have all : ∀ (l : List Env),(∀ b ∈ cU l,b ∈ X.fs) -> X.cO.heap.FunFrames X.base l -> s.heap.FunFrames X.base l := by
    intro l
    induction l with
    | nil => intro _ _; trivial
    | cons env r ih =>
      intro hs hl
      obtain ⟨hk,⟨L,o,hf,hn,ho,hd⟩,hr⟩ := hl
      have hL : L ∈ X.fs := hs L (by unfold cU; rw [List.filterMap_cons,hf]; exact List.mem_cons_self)
      obtain ⟨sl,e⟩ := I.base.slot L o ho (I.ok.nK L hL) hL fun z => I.ok.sS L z hL
      exact ⟨hk,⟨L,_,hf,hn,e,hd⟩,ih (fun b hb => hs b (by unfold cU; rw [List.filterMap_cons,hf]; exact List.mem_cons_of_mem _ hb)) hr⟩
  exact all X.outer (fun _ hb => hb) I.ok.ie
theorem Inv.stack (I : Inv X pins σ H s) : s.heap.FunFrames X.base X.stack := by
  rcases I.ok.kQ with e | ⟨e,hf⟩
  · rw [e]; exact I.ie
  · rw [e]
    obtain ⟨m,hn,_⟩ := I.loc
    refine .cons (by rw [I.ok.kind]; decide) hf hn ?_ I.ie
    exact Heap.get?_none_of_le (Nat.le_trans I.ok.kR I.ok.above)
theorem Inv.o9 (I : Inv X pins σ H s) : ∀ b ∈ cU X.stack,b ∈ X.env.locals :: X.fs := fun b hb => by
  rcases I.ok.kQ with e | ⟨e,hf⟩
  · rw [e] at hb; exact List.mem_cons_of_mem _ hb
  · rw [e] at hb
    unfold cU at hb
    rw [List.filterMap_cons,hf] at hb
    exact hb
theorem Inv.DY (I : Inv X pins σ H s) : ∀ b ∈ cU X.stack,H b = none := fun b hb => by
  rcases List.mem_cons.mp (I.o9 b hb) with e | hb
  · rw [e]; exact I.free
  · obtain ⟨_,o,ho,_⟩ := I.ok.ie.mem hb
    exact I.base.free b o ho (I.ok.nK b hb) fun z => I.ok.sS b z hb
theorem Inv.step {g' : Array GenState} {t' : Nat} {d' : Drawn} {ch : List Addr} (I : Inv X pins σ H s)
    (iU : ∀ b ∈ ch,(b ∈ X.ex \/ X.cO.heap.objs.size <= b) /\ b ≠ X.env.locals /\ (∀ x c,X.env.cells.lookup x = some c -> c ≠ b) /\ ∀ p ∈ X.pn ++ pins,p.1 ≠ b)
    (keep : ∀ b o,b ≠ X.env.locals -> b ∉ X.fs -> b ∉ ch -> s.heap.get? b = some o -> H b = none -> h'.get? b = some o)
    (slot : ∀ b o,b ≠ X.env.locals -> b ∈ X.fs -> b ∉ ch -> s.heap.get? b = some o -> H b = none -> ∃ sl,h'.get? b = some { o with slots := sl }) (free : ∀ b o,b ∉ ch -> s.heap.get? b = some o -> H b = none -> H' b = none)
    (there : ∀ b o,b ∉ ch -> s.heap.get? b = some o -> ∃ o',h'.get? b = some o')
    (iR : ∀ b xs,H b = some (.tup xs) -> H' b = some (.tup xs)) (ic : ∀ b o u,H b = some (.cX o u) -> H' b = some (.cX o u)) (iS : ∀ b ps,H b = some (.kO ps) -> ∃ more,H' b = some (.kO (ps ++ more)))
    (ns : ∀ m,s.heap.Ns X.env.locals m -> h'.Ns X.env.locals m) (ay : bO X.prog X.w H' h') (hg : AllBare g') :
    Inv X pins σ H' { s with heap := h',gens := g',drawn := d',toks := t' } := by
  have IZ : ∀ b o,X.cO.heap.get? b = some o -> b ≠ X.env.locals := fun b o e => Nat.ne_of_lt (Nat.lt_of_lt_of_le (Heap.lt_size e) I.ok.above)
  have tD : ∀ b o,X.cO.heap.get? b = some o -> b ∉ X.ex -> b ∉ ch := fun b o e hx hb => by
    rcases (iU b hb).1 with z | z
    · exact hx z
    · exact absurd (Nat.lt_of_lt_of_le (Heap.lt_size e) z) (Nat.lt_irrefl _)
  have cellK : ∀ x c,X.env.cells.lookup x = some c -> ∀ v,s.heap.IsCell c v -> h'.IsCell c v := fun x c e v ⟨o,ho,hd⟩ => by
    have qh : c ∉ ch := fun z => (iU c z).2.2.1 x c e rfl
    by_cases hc : c ∈ X.fs
    · obtain ⟨sl,q⟩ := slot c o (I.kS x c e) hc qh ho (I.iP x c e)
      exact ⟨_,q,hd⟩
    · exact ⟨o,keep c o (I.kS x c e) hc qh ho (I.iP x c e),hd⟩
  refine ⟨I.ok,I.os,hg,⟨fun b o e n hb hx => ?_,fun b o e n hb hx => ?_,fun b o e n hx => ?_,fun b o e hx => ?_,fun b xs e => iR b xs (I.base.iR b xs e),fun b o xs e => ic b o xs (I.base.ic b o xs e),fun b ps e => ?_⟩,?_,fun x c e => ?_,?_,fun x c e => ?_,fun p hp => ?_,ay,I.len⟩
  · exact keep b o (IZ b o e) hb (tD b o e hx) (I.base.keep b o e n hb hx) (I.base.free b o e n hx)
  · obtain ⟨sl,e1⟩ := I.base.slot b o e n hb hx
    obtain ⟨XB,e2⟩ := slot b _ (IZ b o e) hb (tD b o e hx) e1 (I.base.free b o e n hx)
    exact ⟨XB,e2⟩
  · obtain ⟨o',e1⟩ := I.base.there b o e hx
    exact free b o' (tD b o e hx) e1 (I.base.free b o e n hx)
  · obtain ⟨o',e1⟩ := I.base.there b o e hx
    exact there b o' (tD b o e hx) e1
  · obtain ⟨m1,e1⟩ := I.base.iS b ps e
    obtain ⟨m2,e2⟩ := iS b _ e1
    exact ⟨m1 ++ m2,by rw [e2,Array.append_assoc]⟩
  · obtain ⟨m,hn,hl⟩ := I.loc
    refine ⟨m,ns m hn,fun i x v e1 e2 e3 => ?_⟩
    obtain ⟨u,r,l⟩ := hl i x v e1 e2 e3
    refine ⟨u,r,?_⟩
    rcases l with l | ⟨k,c,e,z⟩
    · exact .inl l
    · exact .inr ⟨k,c,e,cellK x c e _ z⟩
  · obtain ⟨v,z⟩ := I.cell x c e
    exact ⟨v,cellK x c e v z⟩
  · obtain ⟨m,⟨o,_,_,ho,_⟩,_⟩ := I.loc
    exact free _ o (fun z => (iU _ z).2.1 rfl) ho I.free
  · obtain ⟨v,o,ho,hd⟩ := I.cell x c e
    exact free c o (fun z => (iU c z).2.2.1 x c e rfl) ho (I.iP x c e)
  · obtain ⟨e,n,ne,nf,d⟩ := I.pin p hp
    have qh : p.1 ∉ ch := fun z => (iU p.1 z).2.2.2 p hp rfl
    exact ⟨keep p.1 p.2 ne nf qh e n,free p.1 p.2 qh e n,ne,nf,d⟩
theorem Inv.un {t' : Nat} (I : Inv X pins σ H s) (u : Un X.fs [] H H' s.heap h') (ay : bO X.prog X.w H' h') : Inv X pins σ H' { s with heap := h',toks := t' } := by
  obtain ⟨m,⟨o,es,ep,ho,r⟩,_⟩ := id I.loc
  obtain ⟨sl,hL⟩ := u.any ho I.free (by simp)
  exact I.step (g' := s.gens) (d' := s.drawn) (ch := []) (fun _ z => nomatch z) (fun b o _ hb _ e n => u.keep b o e n hb (by simp)) (fun b o _ hb _ e n => u.slot b o e n hb (by simp)) (fun b o _ e n => u.free b o e n (by simp)) (fun b o _ e => u.there b o e (by simp)) u.iR u.ic u.iS (fun m' hm => by
    obtain ⟨o',yG,yH,iq,r'⟩ := hm
    rw [ho] at iq; cases iq
    exact ⟨_,yG,yH,hL,r'⟩) ay I.bare
theorem Inv.call {g' : Array GenState} {t' : Nat} {d' : Drawn} {ch : List Addr} (I : Inv X pins σ H s) (u : Un (cU X.stack) ch H H' s.heap h') (ay : bO X.prog X.w H' h') (hg : AllBare g')
    (iU : ∀ b ∈ ch,(b ∈ X.ex \/ X.cO.heap.objs.size <= b) /\ b ≠ X.env.locals /\ (∀ x c,X.env.cells.lookup x = some c -> c ≠ b) /\ ∀ p ∈ X.pn ++ pins,p.1 ≠ b) :
    Inv X pins σ H' { s with heap := h',gens := g',drawn := d',toks := t' } := by
  obtain ⟨m,⟨o,es,ep,ho,r⟩,_⟩ := id I.loc
  obtain ⟨sl,hL⟩ := u.any ho I.free fun z => (iU _ z).2.1 rfl
  exact I.step (ch := ch) iU (fun b o hL hb hc e n => u.keep b o e n (fun z => (List.mem_cons.mp (I.o9 b z)).elim hL hb) hc) (fun b o _ _ hc e n => u.any e n hc) (fun b o hc e n => u.free b o e n hc) (fun b o hc e => u.there b o e hc) u.iR u.ic u.iS (fun m' hm => by
    obtain ⟨o',yG,yH,iq,r'⟩ := hm
    rw [ho] at iq; cases iq
    exact ⟨_,yG,yH,hL,r'⟩) ay hg
theorem Inv.turned {t' : Nat} {it : Addr} (I : Inv X pins σ H s) (k : ∀ b o,b ≠ it -> s.heap.get? b = some o -> h'.get? b = some o) (hn : H it = none) (hL : it ≠ X.env.locals)
    (h1 : it ∈ X.ex \/ X.cO.heap.objs.size <= it) (h2 : ∀ x c,X.env.cells.lookup x = some c -> c ≠ it) (h3 : ∀ p ∈ X.pn ++ pins,p.1 ≠ it) : Inv X pins σ H { s with heap := h',toks := t' } := by
  have jV : ∀ b u,H b = some u -> b ≠ it := fun b u e z => by rw [z,hn] at e; cases e
  refine I.step (g' := s.gens) (d' := s.drawn) (ch := [it]) (fun b hb => ?_) (fun b o _ _ hc e _ => k b o (fun z => hc (by simp [z])) e) (fun b o _ _ hc e _ => ⟨o.slots,k b o (fun z => hc (by simp [z])) e⟩) (fun _ _ _ _ n => n)
    (fun b o hc e => ⟨o,k b o (fun z => hc (by simp [z])) e⟩) (fun _ _ e => e) (fun _ _ _ e => e) (fun b ps e => ⟨#[],by rw [e]; simp⟩) (fun m hm => ?_) (fun b u e => ?_) I.bare
  · have e : b = it := by simpa using hb
    subst e
    exact ⟨h1,hL,h2,h3⟩
  · obtain ⟨o,es,ep,ho,r⟩ := hm
    exact ⟨o,es,ep,k _ o (Ne.symm hL) ho,r⟩
  · refine (I.ay b u e).jf (fun c v hc q => k c v ?_ q) (fun _ q => q) fun _ _ q => q
    rcases hc with z | z
    · rw [z]; exact jV b u e
    · exact jV c _ z
theorem Inv.tok (I : Inv X pins σ H s) (t : Nat) : Inv X pins σ H { s with toks := t } := I.un (h' := s.heap) (t' := t) Un.refl I.ay
theorem Inv.kept {t' : Nat} (I : Inv X pins σ H s) (k : ∀ b u,s.heap.get? b = some u -> h'.get? b = some u) : Inv X pins σ H { s with heap := h',toks := t' } := I.un (Un.kept k) (I.ay.kept k)
theorem Inv.laid {a : Addr} {o : HO} {t' : Nat} (I : Inv X pins σ H s) (k : ∀ b u,s.heap.get? b = some u -> h'.get? b = some u) (hp : s.heap.objs.size <= a) (new : bM X.prog X.w (upd H a o) h' a o) :
    Inv X pins σ (upd H a o) { s with heap := h',toks := t' } := I.un (Un.laid k hp (I.ay.fresh hp)) (I.ay.laid k hp new)
theorem Inv.write {x e : Addr} {o : HO} {t' : Nat} (I : Inv X pins σ H s) (mu : qc (H x)) (he : e = x \/ H e = some (.own x)) (k : ∀ b u,b ≠ e -> s.heap.get? b = some u -> h'.get? b = some u) (nJ : ∃ u,h'.get? e = some u)
    (new : bM X.prog X.w (upd H x o) h' x o) : Inv X pins σ (upd H x o) { s with heap := h',toks := t' } := I.un (Un.write mu he k nJ) (I.ay.write mu he k nJ new)
theorem Inv.DZ {Gh : List (Addr × Obj)} (I : Inv X pins σ H s) (h : ∀ p ∈ Gh,s.heap.get? p.1 = some p.2 /\ H p.1 = none /\ p.1 ≠ X.env.locals /\ p.1 ∉ X.fs /\ ∀ v,p.2.data ≠ .cell v) : Inv X Gh σ H s :=
  ⟨I.ok,I.os,I.bare,I.base,I.loc,I.cell,I.free,I.iP,fun p hp => (List.mem_append.mp hp).elim (fun z => I.pin p (List.mem_append_left _ z)) (h p),I.ay,I.len⟩
theorem C7 {N : List Str} (hN : N.Nodup) {i j : Nat} {x : Str} (a : N[i]? = some x) (b : N[j]? = some x) : i = j := by
  obtain ⟨h1,e1⟩ := List.getElem?_eq_some_iff.mp a
  obtain ⟨h2,e2⟩ := List.getElem?_eq_some_iff.mp b
  exact (List.getElem_inj hN).mp (e1.trans e2.symm)
theorem CH {M : Model} {A : Around} {E : Value -> Shared -> Prop} {i : Nat} {x : Str} {v : V} {u : Value} {Q : Unit -> Shared -> Prop} (I : Inv X pins σ H s) (hN : X.N.Nodup) (hi : X.N[i]? = some x) (hx : Loc X.env.scope x) (r : RelV v u)
    (h : ∀ s',Inv X pins (σ.set i (some v)) H s' -> (∃ a,Heap.SameBut a s.heap s'.heap /\ (a = X.env.locals \/ X.env.cells.lookup x = some a)) -> Q () s') (hf : X.fn x = true \/ X.env.scope.names.lookup x = some .local := by first | exact .inl rfl | exact .inr rfl | assumption) : wpAny M A (storeName X.env x u) Q E s := by
  obtain ⟨m,hn,hl⟩ := id I.loc
  have SV : (X.env.scope.kind == .class || (X.env.scope.kind == .module && X.env.locals != X.env.globals)) = false := by rw [I.ok.kind]; rfl
  have Ht : i < σ.length := by rw [I.len]; exact (List.getElem?_eq_some_iff.mp hi).1
  have kS := I.kS
  have tracked : ∀ {a : Addr} {h' : Heap},(∃ o,s.heap.get? a = some o /\ H a = none) -> Heap.SameBut a s.heap h' -> bO X.prog X.w H h' := fun {a h'} ha hs b ob e => by
    obtain ⟨_,_,jP⟩ := ha
    refine (I.ay b ob e).jf (fun c w' hc q => (hs.2 c ?_).trans q) (fun _ q => q) fun _ _ q => q
    rintro rfl
    rcases hc with rfl | hc
    · rw [jP] at e; cases e
    · rw [jP] at hc; cases hc
  rcases hx with hk | hk
  · refine wpAny_storeName_local hk hn (fun h' XC hs => ?_) SV
    obtain ⟨oL,_,_,qj,_⟩ := id hn
    refine h _ ⟨I.ok,I.os,I.bare,⟨fun b o e n hb hx => ?_,fun b o e n hb hx => ?_,I.base.free,fun b o e hx => ?_,I.base.iR,I.base.ic,I.base.iS⟩,⟨_,XC,fun j y v' e1 e2 e3 => ?_⟩,fun y c e => ?_,I.free,I.iP,fun p hp => ?_,tracked ⟨oL,qj,I.free⟩ hs,by simpa using I.len⟩ ⟨_,hs,.inl rfl⟩
    · exact (hs.2 b (Nat.ne_of_lt (Nat.lt_of_lt_of_le (Heap.lt_size e) I.ok.above))).trans (I.base.keep b o e n hb hx)
    · obtain ⟨sl,e1⟩ := I.base.slot b o e n hb hx
      exact ⟨sl,(hs.2 b (Nat.ne_of_lt (Nat.lt_of_lt_of_le (Heap.lt_size e) I.ok.above))).trans e1⟩
    · obtain ⟨o',e1⟩ := I.base.there b o e hx
      exact ⟨o',(hs.2 b (Nat.ne_of_lt (Nat.lt_of_lt_of_le (Heap.lt_size e) I.ok.above))).trans e1⟩
    · by_cases hj : j = i
      · subst hj
        rw [hi] at e1; cases e1
        rw [List.getElem?_set_self Ht] at e2
        cases e2
        exact ⟨u,r,.inl ⟨hk,by simp⟩⟩
      · rw [List.getElem?_set_ne (Ne.symm hj)] at e2
        obtain ⟨u',r',q⟩ := hl j y v' e1 e2 e3
        refine ⟨u',r',?_⟩
        rcases q with ⟨k,e⟩ | ⟨k,c,e,z⟩
        · refine .inl ⟨k,?_⟩
          have : y ≠ x := fun e => hj (C7 hN e1 (e ▸ hi))
          simp [this,e]
        · exact .inr ⟨k,c,e,z.sameBut hs (kS y c e)⟩
    · obtain ⟨w',z⟩ := I.cell y c e
      exact ⟨w',z.sameBut hs (kS y c e)⟩
    · obtain ⟨e,n,ne,nf,d⟩ := I.pin p hp
      exact ⟨(hs.2 p.1 ne).trans e,n,ne,nf,d⟩
  · have yI : X.fn x = true := by
      rcases hf with z | z
      · exact z
      · rw [z] at hk; cases hk
    obtain ⟨c,hc⟩ := I.ok.has x (.inl hk)
    obtain ⟨w',z⟩ := I.cell x c hc
    refine wpAny_storeName_cell I.ok.kind hk hc z (fun h' g9 hs => ?_)
    obtain ⟨oc,I0,SW⟩ := id z
    refine h { s with heap := h' } ⟨I.ok,I.os,I.bare,⟨fun b o e n hb hx => ?_,fun b o e n hb hx => ?_,I.base.free,fun b o e hx => ?_,I.base.iR,I.base.ic,I.base.iS⟩,⟨m,hn.sameBut hs (Ne.symm (kS x c hc)),fun j y v' e1 e2 e3 => ?_⟩,fun y c' e => ?_,I.free,I.iP,fun p hp => ?_,tracked ⟨oc,I0,I.iP x c hc⟩ hs,by simpa using I.len⟩ ⟨c,hs,.inr hc⟩
    · exact (hs.2 b (Nat.ne_of_lt (Nat.lt_of_lt_of_le (Heap.lt_size e) (I.ok.qd x c yI hc)))).trans (I.base.keep b o e n hb hx)
    · obtain ⟨sl,e1⟩ := I.base.slot b o e n hb hx
      exact ⟨sl,(hs.2 b (Nat.ne_of_lt (Nat.lt_of_lt_of_le (Heap.lt_size e) (I.ok.qd x c yI hc)))).trans e1⟩
    · obtain ⟨o',e1⟩ := I.base.there b o e hx
      exact ⟨o',(hs.2 b (Nat.ne_of_lt (Nat.lt_of_lt_of_le (Heap.lt_size e) (I.ok.qd x c yI hc)))).trans e1⟩
    · by_cases hj : j = i
      · subst hj
        rw [hi] at e1; cases e1
        rw [List.getElem?_set_self Ht] at e2
        cases e2
        exact ⟨u,r,.inr ⟨.inl hk,c,hc,g9⟩⟩
      · rw [List.getElem?_set_ne (Ne.symm hj)] at e2
        obtain ⟨u',r',q⟩ := hl j y v' e1 e2 e3
        refine ⟨u',r',?_⟩
        rcases q with q | ⟨k,c',e,z'⟩
        · exact .inl q
        · refine .inr ⟨k,c',e,z'.sameBut hs ?_⟩
          rintro rfl
          exact hj (C7 hN e1 (I.ok.inj _ _ _ e hc ▸ hi))
    · by_cases Ja : c' = c
      · subst Ja; exact ⟨_,g9⟩
      · obtain ⟨w2,z2⟩ := I.cell y c' e
        exact ⟨w2,z2.sameBut hs Ja⟩
    · obtain ⟨e,n,ne,nf,d⟩ := I.pin p hp
      refine ⟨(hs.2 p.1 ?_).trans e,n,ne,nf,d⟩
      intro q
      rw [q,I0] at e
      have q' : oc = p.2 := Option.some.inj e
      exact d w' (by rw [<- q']; exact SW)
theorem C8 {M : Model} {A : Around} {E : Value -> Shared -> Prop} {i : Nat} {x : Str} {v : V} {u : Value} {Q : Unit -> Shared -> Prop} (I : Inv X pins σ H s) (hN : X.N.Nodup) (hi : X.N[i]? = some x) (hx : Loc X.env.scope x) (r : RelV v u)
    (h : ∀ s',Inv X pins (σ.set i (some v)) H s' -> Q () s') (hf : X.fn x = true \/ X.env.scope.names.lookup x = some .local := by first | exact .inl rfl | exact .inr rfl | assumption) : wpAny M A (storeName X.env x u) Q E s :=
  CH I hN hi hx r (fun s' I' _ => h s' I') hf
theorem Inv.Gi {s' : Shared} {ch : List Addr} (I : Inv X pins σ H s) (ho : s'.os = s.os) (u : Un (cU X.stack) ch H H' s.heap s'.heap) (ay : bO X.prog X.w H' s'.heap) (hg : AllBare s'.gens)
    (iU : ∀ b ∈ ch,(b ∈ X.ex \/ X.cO.heap.objs.size <= b) /\ b ≠ X.env.locals /\ (∀ x c,X.env.cells.lookup x = some c -> c ≠ b) /\ ∀ p ∈ X.pn ++ pins,p.1 ≠ b) : Inv X pins σ H' s' := by
  obtain ⟨h',g',d',t',o'⟩ := s'
  have e : o' = s.os := ho
  subst e
  exact I.call (g' := g') (t' := t') (d' := d') u ay hg iU
end
abbrev XK := Value -> Option Addr -> Hp -> Prop
abbrev St := List (Option V)
abbrev VK := V -> Hp -> Prop
abbrev TE := St -> Hp -> VK -> Prop
abbrev TT := St -> Hp -> (Bool -> Hp -> Prop) -> Prop
abbrev TA := St -> Hp -> (List V -> Hp -> Prop) -> Prop
structure Ends where
  nx : St -> Hp -> Prop
  rt : VK
  bk : St -> Hp -> Prop := fun _ _ => False
  ct : St -> Hp -> Prop := fun _ _ => False
abbrev TS := Ends -> St -> Hp -> Prop
def EP (X : Cx) (pins : List (Addr × Obj)) (σ : St) (Q : VK) (u : Value) (s' : Shared) : Prop := ∃ v H',Inv X pins σ H' s' /\ RelV v u /\ Q v H'
def TP (X : Cx) (pins : List (Addr × Obj)) (σ : St) (Q : Bool -> Hp -> Prop) (b : Bool) (s' : Shared) : Prop := ∃ H',Inv X pins σ H' s' /\ Q b H'
def AP (X : Cx) (pins : List (Addr × Obj)) (σ : St) (Q : List V -> Hp -> Prop) (us : List Value) (s' : Shared) : Prop := ∃ vs H',Inv X pins σ H' s' /\ Vals vs us /\ Q vs H'
def SP (X : Cx) (pins : List (Addr × Obj)) (D : Ends) (f : Flow) (s' : Shared) : Prop :=
  match f with
  | .next => ∃ aD H',Inv X pins aD H' s' /\ D.nx aD H'
  | .brk => ∃ aD H',Inv X pins aD H' s' /\ D.bk aD H'
  | .cont => ∃ aD H',Inv X pins aD H' s' /\ D.ct aD H'
  | .ret u => ∃ v aD H',Inv X pins aD H' s' /\ RelV v u /\ D.rt v H'
def PE (X : Cx) (e : Expr) (t : TE) : Prop :=
  ∀ (pins : List (Addr × Obj)) (s : Shared) (σ : St) (H : Hp) (Q : VK),Inv X pins σ H s -> t σ H Q -> wpAny (model X.prog X.w) X.A (eval e X.env) (EP X pins σ Q) X.xe s
def PT (X : Cx) (e : Expr) (t : TT) : Prop :=
  ∀ (pins : List (Addr × Obj)) (s : Shared) (σ : St) (H : Hp) (Q : Bool -> Hp -> Prop),Inv X pins σ H s -> t σ H Q -> wpAny (model X.prog X.w) X.A (isTrue e X.env (eval e X.env)) (TP X pins σ Q) X.xe s
def PW (X : Cx) (e : Expr) (t : TT) : Prop :=
  ∀ (whole : Sem Value) (pins : List (Addr × Obj)) (s : Shared) (σ : St) (H : Hp) (Q : Bool -> Hp -> Prop),Inv X pins σ H s -> t σ H Q -> wpAny (model X.prog X.w) X.A (isTrue e X.env whole) (TP X pins σ Q) X.xe s
theorem PW.pt {X : Cx} {e : Expr} {t : TT} (h : PW X e t) : PT X e t := h _
def PA (X : Cx) (es : List Expr) (t : TA) : Prop :=
  ∀ (pos : Pos) (pins : List (Addr × Obj)) (s : Shared) (σ : St) (H : Hp) (Q : List V -> Hp -> Prop),Inv X pins σ H s -> t σ H Q -> wpAny (model X.prog X.w) X.A (spliced (backTo pos (starEach es X.env))) (AP X pins σ Q) X.xe s
def PS (X : Cx) (st : Stmt) (t : TS) : Prop :=
  ∀ (pins : List (Addr × Obj)) (s : Shared) (σ : St) (H : Hp) (D : Ends),Inv X pins σ H s -> t D σ H -> wpAny (model X.prog X.w) X.A (exec st X.env) (SP X pins D) X.xe s
def eM (X : Cx) (st : List Stmt) (t : TS) : Prop :=
  ∀ (pins : List (Addr × Obj)) (s : Shared) (σ : St) (H : Hp) (D : Ends),Inv X pins σ H s -> t D σ H -> wpAny (model X.prog X.w) X.A (execs st X.env) (SP X pins D) X.xe s
theorem az {α : Type} {t : Sem α} {Q Q' : α -> Shared -> Prop} {M : Model} {A : Around} {E : Value -> Shared -> Prop} {s : Shared} (h : wpAny M A t Q E s) (hQ : ∀ a s,Q a s -> Q' a s) : wpAny M A t Q' E s := wpAny_mono h hQ fun _ _ x => x
end L2
namespace L2
open PySem PySem.Spec PyProof.Rows
section
variable {X : Cx}
def cP (i : Nat) : TE := fun σ H Q => ∃ v,σ[i]? = some (some v) /\ Q v H
def tC (v : V) : TE := fun _ H Q => Q v H
theorem ko {i : Nat} {x : Str} {pos : Pos} (hN : X.N[i]? = some x) (hv : ip X.env.scope x) (hd : (x == ("__debug__" : Str)) = false := by decide) (fG : (x == ("__classdict__" : Str)) = false := by decide) : PE X (.Name x pos) (cP i) := by
  intro pins s σ H Q I h
  obtain ⟨v,e,h⟩ := h
  obtain ⟨m,hn,hl⟩ := I.loc
  obtain ⟨u,r,l⟩ := hl i x v hN e hv
  have fin : EP X pins σ Q u s := ⟨v,H,I,r,h⟩
  rcases l with ⟨hk,hm⟩ | ⟨hk,c,hc,Gj⟩
  · exact wpAny_Name (wpAny_loadName_local I.ok.kind hk hn hm fin) hd
  · rcases hk with hk | hk
    · exact wpAny_Name (wpAny_loadName_cell I.ok.kind hk hc Gj fin) hd
    · exact wpAny_Name (wpAny_loadName_free I.ok.kind hk hc Gj fin fG) hd
theorem wD {i j pos} : PE X (.Constant (.int i) j pos) (tC (.int i)) := fun _ _ _ H _ I h => wpAny_Constant_int ⟨.int i,H,I.tok _,⟨_,rfl⟩,h⟩
theorem R7 {b j pos} : PE X (.Constant (.bool b) j pos) (tC (.bl b)) := fun _ _ _ H _ I h => Constant_bool ⟨.bl b,H,I,rfl,h⟩
theorem QK {j pos} : PE X (.Constant .none j pos) (tC .aM) := fun _ _ _ H _ I h => Constant_none ⟨.aM,H,I,rfl,h⟩
def Gl (X : Cx) (x : Str) : Prop := X.env.kindOf x = some .globalImplicit
theorem D1 {E : Value -> Shared -> Prop} {pins : List (Addr × Obj)} {s : Shared} {σ : St} {H : Hp} {x : Str} {u : Value} {pos : Pos} {Q : Value -> Shared -> Prop} (I : Inv X pins σ H s) (hg : Gl X x) (hm : X.mg x = some u) (h : Q u s)
    (hd : (x == ("__debug__" : Str)) = false := by decide) : wpAny (model X.prog X.w) X.A (eval (.Name x pos) X.env) Q E s :=
  Calls.Name_function_global I.ok.kind hg (Calls.loadGlobal_global (by rw [I.ok.glob]; exact I.mod.glob.keeps I.bk) hm h) hd
theorem kq {E : Value -> Shared -> Prop} {pins : List (Addr × Obj)} {s : Shared} {σ : St} {H : Hp} {x : Str} {u : Value} {pos : Pos} {Q : Value -> Shared -> Prop} (I : Inv X pins σ H s) (hg : Gl X x) (hm : X.mg x = none) (hv : bootBuiltins x = some u) (h : Q u s)
    (hn : x ≠ "__name__" := by decide) (hd : (x == ("__debug__" : Str)) = false := by decide) : wpAny (model X.prog X.w) X.A (eval (.Name x pos) X.env) Q E s := by
  obtain ⟨mb,h1,h2⟩ := I.mod.blt
  exact Calls.Name_function_global I.ok.kind hg (Calls.loadGlobal_builtin (by rw [I.ok.glob]; exact I.mod.glob.keeps I.bk) hm (by rw [I.ok.blt]; exact h1.keeps I.bk) ((h2 x hn).trans hv) h) hd
theorem OW {x : Str} {v : V} {u : Value} {pos : Pos} (hg : Gl X x) (hm : X.mg x = some u) (r : RelV v u) (hd : (x == ("__debug__" : Str)) = false := by decide) : PE X (.Name x pos) (tC v) :=
  fun _ _ _ H _ I h => D1 I hg hm ⟨v,H,I,r,h⟩ hd
theorem OX {x : Str} {v : V} {u : Value} {pos : Pos} (hg : Gl X x) (hm : X.mg x = none) (hv : bootBuiltins x = some u) (r : RelV v u) (hn : x ≠ "__name__" := by decide) (hd : (x == ("__debug__" : Str)) = false := by decide) : PE X (.Name x pos) (tC v) :=
  fun _ _ _ H _ I h => kq I hg hm hv ⟨v,H,I,r,h⟩ hn hd
variable {a b : Expr} {ta tb : TE} {pos : Pos}
def tB (t : TE) : TT := fun σ H Q => t σ H fun x H1 => ∃ c,x = .bl c /\ Q c H1
theorem QL {e : Expr} {t : TE} (h : PE X e t) (he : ∀ whole,isTrue e X.env whole = (do let v <- whole; standAt e.pos; holding [v] (truthy v)) := by intro _; rfl) : PT X e (tB t) := by
  intro pins s σ H Q I hw
  refine isTrue_plain (az (h pins s σ H _ I hw) fun v s1 ⟨x,H1,I1,r1,q1⟩ => ?_) (he _)
  obtain ⟨d,rfl,q⟩ := q1
  cases r1
  exact wpAny_truthy_bool ⟨H1,I1,q⟩
variable {tA tE : TT} {rest : List Expr}
def xZ (t u : TT) : TT := fun σ H Q => t σ H fun c H1 => if c = true then u σ H1 Q else Q false H1
def yJ (t u : TT) : TT := fun σ H Q => t σ H fun c H1 => if c = true then Q true H1 else u σ H1 Q
def Hu (t : TT) : TT := fun σ H Q => t σ H fun c H1 => Q (!c) H1
theorem OY (ha : PT X a tA) : PW X (.BoolOp .And [a] pos) tA := by
  intro wh pins s σ H Q I h
  refine isTrue_and (az (ha pins s σ H Q I h) fun c s1 e => ?_)
  cases c with
  | true => exact isTrue_and_nil e
  | false => exact e
theorem QM (ha : PT X a tA) : PW X (.BoolOp .Or [a] pos) tA := by
  intro wh pins s σ H Q I h
  refine isTrue_or (az (ha pins s σ H Q I h) fun c s1 e => ?_)
  cases c with
  | false => exact isTrue_or_nil e
  | true => exact e
theorem EJ (ha : PT X a tA) (hb : PW X (.BoolOp .And (b :: rest) pos) tE) : PW X (.BoolOp .And (a :: b :: rest) pos) (xZ tA tE) := by
  intro wh pins s σ H Q I h
  refine isTrue_and (az (ha pins s σ H _ I h) fun c s1 ⟨H1,I1,q1⟩ => ?_)
  cases c with
  | true => exact hb wh pins s1 σ H1 Q I1 q1
  | false => exact ⟨H1,I1,q1⟩
theorem Gk (ha : PT X a tA) (hb : PW X (.BoolOp .Or (b :: rest) pos) tE) : PW X (.BoolOp .Or (a :: b :: rest) pos) (yJ tA tE) := by
  intro wh pins s σ H Q I h
  refine isTrue_or (az (ha pins s σ H _ I h) fun c s1 ⟨H1,I1,q1⟩ => ?_)
  cases c with
  | true => exact ⟨H1,I1,q1⟩
  | false => exact hb wh pins s1 σ H1 Q I1 q1
theorem QN (ha : PT X a tA) : PT X (.UnaryOp .Not a pos) (Hu tA) := by
  intro pins s σ H Q I h
  exact isTrue_not (ha pins s σ H (fun c H1 => Q (!c) H1) I h)
def xt (ta tb : TE) : TE := fun σ H Q => ta σ H fun x H1 => ∃ c,x = .bl c /\ if c = true then tb σ H1 Q else Q (.bl false) H1
def x3 (ta tb : TE) : TE := fun σ H Q => ta σ H fun x H1 => ∃ c,x = .bl c /\ if c = true then Q (.bl true) H1 else tb σ H1 Q
def Gm (ta : TE) : TE := fun σ H Q => ta σ H fun x H1 => ∃ c,x = .bl c /\ Q (.bl (!c)) H1
theorem QO {op} {t : TE} (h : PE X a t) : PE X (.BoolOp op [a] pos) t := fun pins s σ H Q I hw => BoolOp_one (h pins s σ H Q I hw)
theorem EK (ha : PE X a ta) (hb : PE X (.BoolOp .And (b :: rest) pos) tb) : PE X (.BoolOp .And (a :: b :: rest) pos) (xt ta tb) := by
  intro pins s σ H Q I h
  refine BoolOp_and (az (ha pins s σ H _ I h) fun v s1 ⟨x,H1,I1,r1,q1⟩ => ?_)
  obtain ⟨c,rfl,q1⟩ := q1
  cases r1
  refine wpAny_truthy_bool ?_
  cases c with
  | true => exact hb pins s1 σ H1 Q I1 q1
  | false => exact ⟨.bl false,H1,I1,rfl,q1⟩
theorem Gn (ha : PE X a ta) (hb : PE X (.BoolOp .Or (b :: rest) pos) tb) : PE X (.BoolOp .Or (a :: b :: rest) pos) (x3 ta tb) := by
  intro pins s σ H Q I h
  refine BoolOp_or (az (ha pins s σ H _ I h) fun v s1 ⟨x,H1,I1,r1,q1⟩ => ?_)
  obtain ⟨c,rfl,q1⟩ := q1
  cases r1
  refine wpAny_truthy_bool ?_
  cases c with
  | false => exact hb pins s1 σ H1 Q I1 q1
  | true => exact ⟨.bl true,H1,I1,rfl,q1⟩
theorem QP (ha : PE X a ta) : PE X (.UnaryOp .Not a pos) (Gm ta) := by
  intro pins s σ H Q I h
  refine UnaryOp_ (az (ha pins s σ H _ I h) fun v s1 ⟨x,H1,I1,r1,q1⟩ => ?_)
  obtain ⟨c,rfl,q1⟩ := q1
  cases r1
  exact not_of (wpAny_truthy_bool ⟨.bl (!c),H1,I1,rfl,q1⟩)
end
end L2
namespace L2
open PySem PySem.Spec PyProof.Rows
def aN (K : PySem.W.Frag) (H : Hp) (a : Addr) (xs : List V) : Prop :=
  Rd H a (.lst xs) \/
    ∃ (o : Obj) (its : Array Value) (n : Nat),K.lookup a = some o /\ o.cls = .type "list" /\ o.dict = none /\ o.data = .seq its n /\ its.size <= sizeLine /\ Vals xs its.toList
def cH (K : PySem.W.Frag) (H : Hp) (a : Addr) (xs : List V) : Prop :=
  Rd H a (.tup xs) \/
    ∃ (o : Obj) (its : Array Value) (n : Nat),K.lookup a = some o /\ o.cls = .type "tuple" /\ o.data = .seq its n /\ its.size <= sizeLine /\ Vals xs its.toList
def SX : Value -> Option V
  | .none => some .aM
  | .bool b => some (.bl b)
  | .int i _ => some (.int i)
  | .str x _ => some (.str x)
  | .bytes b _ => some (.gZ b)
  | .float b _ => some (.kN b)
  | .ref a => some (.ref a)
  | .type n => some (.ty n)
  | _ => none
theorem RelV.abs {x : V} {u : Value} (r : RelV x u) : SX u = some x := by
  cases x with
  | aM => cases r; rfl
  | bl _ => cases r; rfl
  | int _ => obtain ⟨t,rfl⟩ := r; rfl
  | str _ => obtain ⟨t,rfl⟩ := r; rfl
  | gZ _ => obtain ⟨t,rfl⟩ := r; rfl
  | kN _ => obtain ⟨t,rfl⟩ := r; rfl
  | ref _ => cases r; rfl
  | ty _ => cases r; rfl
theorem RelV.inj {x y : V} {u : Value} (r : RelV x u) (q : RelV y u) : x = y := Option.some.inj (r.abs.symm.trans q.abs)
theorem Vals.inj : ∀ {xs ys : List V} {us : List Value},Vals xs us -> Vals ys us -> xs = ys
  | _,_,_,.nil,.nil => rfl
  | _,_,_,.cons r t,.cons r' t' => by rw [r.inj r',Vals.inj t t']
section
variable {X : Cx} {pins : List (Addr × Obj)} {σ : St} {H : Hp} {s : Shared} {a : Addr} {xs ys : List V}
theorem aN.of {K : PySem.W.Frag} (h : H a = some (.lst xs)) : aN K H a xs := .inl (.inl h)
theorem cH.of {K : PySem.W.Frag} (h : H a = some (.tup xs)) : cH K H a xs := .inl (.inl h)
theorem Inv.list (I : Inv X pins σ H s) (h : aN X.K H a xs) : ∃ its : List Value,Vals xs its /\ PlainL s.heap a its.toArray /\ xs.length <= sizeLine := by
  rcases h with h | ⟨o,its,n,hk,hc,hd,hs,hz,r⟩
  · obtain ⟨z,its,n,r,e⟩ := h.ok I.ay
    exact ⟨its,r,⟨_,n,e,rfl,rfl,rfl⟩,z⟩
  · refine ⟨its.toList,r,⟨o,n,I.dC a o hk,hc,hd,by simpa using hs⟩,?_⟩
    have e := r.length
    simp only [Array.length_toList] at e
    omega
theorem Inv.tuple (I : Inv X pins σ H s) (h : cH X.K H a xs) : ∃ its : List Value,Vals xs its /\ IsTup s.heap a its.toArray /\ xs.length <= sizeLine := by
  rcases h with h | ⟨o,its,n,hk,hc,hs,hz,r⟩
  · obtain ⟨z,its,r,p⟩ := h.ok I.ay
    exact ⟨its,r,p,z⟩
  · refine ⟨its.toList,r,⟨o,I.dC a o hk,hc,n,by simpa using hs⟩,?_⟩
    have e := r.length
    simp only [Array.length_toList] at e
    omega
theorem Inv.C9 (I : Inv X pins σ H s) (h : aN X.K H a xs) (h' : aN X.K H a ys) : xs = ys := by
  obtain ⟨its,r,⟨o,n,e,_,_,d⟩,_⟩ := I.list h
  obtain ⟨its',r',⟨o',n',e',_,_,d'⟩,_⟩ := I.list h'
  rw [e] at e'; cases e'
  rw [d] at d'
  injection d' with d1 _
  have : its = its' := by simpa using congrArg Array.toList d1
  subst this
  exact r.inj r'
theorem Inv.MY (I : Inv X pins σ H s) (h : cH X.K H a xs) (h' : cH X.K H a ys) : xs = ys := by
  obtain ⟨its,r,⟨o,e,_,n,d⟩,_⟩ := I.tuple h
  obtain ⟨its',r',⟨o',e',_,n',d'⟩,_⟩ := I.tuple h'
  rw [e] at e'; cases e'
  rw [d] at d'
  injection d' with d1 _
  have : its = its' := by simpa using congrArg Array.toList d1
  subst this
  exact r.inj r'
end
abbrev Cx.gW (X : Cx) (E : Value -> Shared -> Prop) : Cx := { X with xe := E }
abbrev Cx.qk (X : Cx) : Cx := X.gW fun _ _ => False
theorem Cx.Ok.gW {X : Cx} (ok : X.Ok) (E : Value -> Shared -> Prop) : (X.gW E).Ok :=
  ⟨ok.mod,ok.kind,ok.glob,ok.blt,ok.above,ok.inj,ok.has,ok.qd,ok.hd,ok.frames,ok.kQ,ok.IY,ok.bs,ok.kR,ok.pS,ok.sS,ok.ie,ok.nK⟩
theorem Cx.Ok.jK {X : Cx} {E : Value -> Shared -> Prop} (ok : (X.gW E).Ok) : X.Ok :=
  ⟨ok.mod,ok.kind,ok.glob,ok.blt,ok.above,ok.inj,ok.has,ok.qd,ok.hd,ok.frames,ok.kQ,ok.IY,ok.bs,ok.kR,ok.pS,ok.sS,ok.ie,ok.nK⟩
section
variable {X : Cx} {pins : List (Addr × Obj)} {σ : St} {H : Hp} {s : Shared} {E : Value -> Shared -> Prop}
theorem Inv.gW (I : Inv X pins σ H s) (E : Value -> Shared -> Prop) : Inv (X.gW E) pins σ H s := ⟨I.ok.gW E,I.os,I.bare,I.base,I.loc,I.cell,I.free,I.iP,I.pin,I.ay,I.len⟩
theorem Inv.jK (I : Inv (X.gW E) pins σ H s) : Inv X pins σ H s := ⟨I.ok.jK,I.os,I.bare,I.base,I.loc,I.cell,I.free,I.iP,I.pin,I.ay,I.len⟩
theorem SP.jK {D : Ends} {f : Flow} {s' : Shared} (h : SP (X.gW E) pins D f s') : SP X pins D f s' := by
  cases f with
  | next => obtain ⟨aD,H',I,q⟩ := h; exact ⟨aD,H',I.jK,q⟩
  | brk => obtain ⟨aD,H',I,q⟩ := h; exact ⟨aD,H',I.jK,q⟩
  | cont => obtain ⟨aD,H',I,q⟩ := h; exact ⟨aD,H',I.jK,q⟩
  | ret u => obtain ⟨v,aD,H',I,r,q⟩ := h; exact ⟨v,aD,H',I.jK,r,q⟩
theorem eM.qk {st : List Stmt} {t : TS} (h : eM X.qk st t) : eM X st t := fun pins s σ H D I hw =>
  wpAny_mono (h pins s σ H D (I.gW _) hw) (fun _ _ q => q.jK) fun _ _ z => False.elim z
end
section
variable {X : Cx} {st : Stmt} {rest : List Stmt} {t u : TS} {e : Expr} {te : TE} {pos : Pos}
def Gp : TS := fun D σ H => D.nx σ H
def kF (t u : TS) : TS := fun D σ H => t { D with nx := u D } σ H
theorem OZ : eM X [] Gp := fun _ _ σ H _ I h => wpAny_execs_nil ⟨σ,H,I,h⟩
theorem oH (h1 : PS X st t) (h2 : eM X rest u) : eM X (st :: rest) (kF t u) := by
  intro pins s σ H D I h
  refine wpAny_execs_cons (az (h1 pins s σ H { D with nx := u D } I h) fun f s1 q => ?_)
  cases f with
  | next =>
    obtain ⟨aD,H',I',q⟩ := q
    exact h2 pins s1 aD H' D I' q
  | ret v => exact q
  | brk => exact q
  | cont => exact q
theorem vW (h1 : PS X st t) : eM X [st] t := by
  intro pins s σ H D I h
  refine wpAny_execs_cons (az (h1 pins s σ H D I h) fun f s1 q => ?_)
  cases f with
  | next => exact wpAny_execs_nil q
  | ret v => exact q
  | brk => exact q
  | cont => exact q
theorem Inv.quiet {pins : List (Addr × Obj)} {σ : St} {H : Hp} {s : Shared} (I : Inv X pins σ H s) : interactive X.env = false := by simp [interactive,I.ok.kind]
def pD (te : TE) : TS := fun D σ H => te σ H fun _ H1 => D.nx σ H1
theorem rQ (he : PE X e te) (hs : swapsWith e none pos.line X.env = pure false := by rfl) : PS X (.Expr e pos) (pD te) := by
  intro pins s σ H D I h
  exact wpAny_Expr_any (az (he pins s σ H _ I h) fun v s1 ⟨x,H1,I1,r1,q1⟩ => ⟨σ,H1,I1,q1⟩) I.quiet hs
def sT (te : TE) : TS := fun D σ H => te σ H D.rt
theorem wF (he : PE X e te) : PS X (.Return (some e) pos) (sT te) := by
  intro pins s σ H D I h
  exact wpAny_Return_some (az (he pins s σ H _ I h) fun v s1 ⟨x,H1,I1,r1,q1⟩ => ⟨x,σ,H1,I1,r1,q1⟩)
def x4 (c : TT) (t u : TS) : TS := fun D σ H => c σ H fun b H1 => if b = true then t D σ H1 else u D σ H1
theorem Gq {c : Expr} {a b : List Stmt} {tc : TT} (hc : PT X c tc) (ha : eM X a t) (hb : eM X b u) : PS X (.If c a b pos) (x4 tc t u) := by
  intro pins s σ H D I h
  refine wpAny_If (az (hc pins s σ H _ I h) fun d s1 ⟨H1,I1,q1⟩ => ?_)
  cases d with
  | true => exact ha pins s1 σ H1 D I1 q1
  | false => exact hb pins s1 σ H1 D I1 q1
def sj : TS := fun _ _ _ => False
theorem vi {cu : List Stmt} : eM X cu sj := fun _ _ _ _ _ _ h => h.elim
end
abbrev TG := V -> St -> Hp -> (St -> Hp -> Prop) -> Prop
abbrev kT := List V -> St -> Hp -> (St -> Hp -> Prop) -> Prop
def PG (X : Cx) (target : Expr) (t : TG) : Prop :=
  ∀ (pins : List (Addr × Obj)) (s : Shared) (σ : St) (H : Hp) (v : V) (u : Value) (Q : St -> Hp -> Prop),Inv X pins σ H s -> RelV v u -> t v σ H Q ->
    wpAny (model X.prog X.w) X.A (assign target X.env u) (fun _ s' => ∃ aD H',Inv X pins aD H' s' /\ Q aD H') X.xe s
def tG (X : Cx) (ts : List Expr) (t : kT) : Prop :=
  ∀ (pins : List (Addr × Obj)) (s : Shared) (σ : St) (H : Hp) (vs : List V) (us : List Value) (Q : St -> Hp -> Prop),Inv X pins σ H s -> Vals vs us -> t vs σ H Q ->
    wpAny (model X.prog X.w) X.A (assignInOrder ((assignEach ts X.env).map (·.2)) us) (fun _ s' => ∃ aD H',Inv X pins aD H' s' /\ Q aD H') X.xe s
abbrev x5 := V -> V -> V -> Hp -> (Hp -> Prop) -> Prop
def Hw (X : Cx) (t : x5) : Prop :=
  ∀ (pins : List (Addr × Obj)) (s : Shared) (σ : St) (H : Hp) (o i v : V) (ov iv u : Value) (Q : Hp -> Prop),Inv X pins σ H s -> RelV o ov -> RelV i iv -> RelV v u -> t o i v H Q ->
    wpAny (model X.prog X.w) X.A (setItem ov iv u) (fun _ s' => ∃ H',Inv X pins σ H' s' /\ Q H') X.xe s
section
variable {X : Cx} {pos : Pos}
def eE (i : Nat) : TG := fun v σ H Q => Q (σ.set i (some v)) H
theorem jI {i : Nat} {x : Str} (hN : X.N.Nodup) (hi : X.N[i]? = some x) (hx : Loc X.env.scope x) (hf : X.fn x = true \/ X.env.scope.names.lookup x = some .local := by first | exact .inl rfl | exact .inr rfl | assumption) : PG X (.Name x pos) (eE i) := by
  intro pins s σ H v u Q I r h
  exact wpAny_assign_Name (C8 I hN hi hx r (fun s' I' => ⟨_,H,I',h⟩) hf)
def x6 : kT := fun vs σ H Q => vs = [] /\ Q σ H
def nc (t : TG) (u : kT) : kT := fun vs σ H Q => ∃ v r,vs = v :: r /\ t v σ H fun aD H' => u r aD H' Q
theorem D2 : tG X [] x6 := by
  intro pins s σ H vs us Q I r h
  obtain ⟨e,h⟩ := h
  subst e
  cases r
  exact assignInOrder_nil ⟨σ,H,I,h⟩
theorem oI {e : Expr} {es : List Expr} {t : TG} {u : kT} (h1 : PG X e t) (h2 : tG X es u)
    (hs : (assignEach (e :: es) X.env).map (·.2) = assign e X.env :: (assignEach es X.env).map (·.2) := by rfl) : tG X (e :: es) (nc t u) := by
  intro pins s σ H vs us Q I r h
  obtain ⟨v,vr,e1,h⟩ := h
  subst e1
  cases r with
  | cons r rr =>
    rw [hs]
    refine assignInOrder_cons (az (h1 pins s σ H _ _ _ I r h) fun _ s1 ⟨aE,H1,I1,q1⟩ => ?_)
    exact h2 pins s1 aE H1 _ _ Q I1 rr q1
def x8 (K : PySem.W.Frag) (n : Nat) (t : kT) : TG := fun v σ H Q => ∃ a xs,v = .ref a /\ cH K H a xs /\ xs.length = n /\ t xs σ H Q
theorem EL {es : List Expr} {k : Nat} {t : kT} {n : Nat} (hc : X.calm = true) (h : tG X es t)
    (hn : (assignEach es X.env).length = n := by rfl) (Jb : (assignEach es X.env).findIdx? (·.1) = none := by rfl) : PG X (.Tuple es k pos) (x8 X.K n t) := by
  intro pins s σ H v u Q I r hw
  obtain ⟨a,xs,e1,hq,hl,hw⟩ := hw
  subst e1
  cases r
  obtain ⟨its,rv,ht,hz⟩ := I.tuple hq
  refine assign_Tuple_tuple (I.ok.hd hc) ht (by simp [hn,<- hl,rv.length]) Jb fun h' hx => ?_
  have I1 : Inv X pins σ H { s with heap := h' } := I.kept (t' := s.toks) fun b o e => hx b o (Nat.ne_of_lt (Heap.lt_size e)) e
  exact h pins _ σ H xs _ Q I1 (by simpa using rv) hw
def x9 (to ti : TE) (t : x5) : TG := fun v σ H Q => to σ H fun o H1 => ti σ H1 fun i H2 => t o i v H2 fun H3 => Q σ H3
theorem ER {o i : Expr} {to ti : TE} {t : x5} (ho : PE X o to) (hi : PE X i ti) (hs : Hw X t)
    (ha : ∀ v,assign (.Subscript o i pos) X.env v = (do
      let ov <- holding [v] (eval o X.env)
      let iv <- holding [v,ov] (eval i X.env)
      standAt pos
      holding [v,ov,iv] (setItem ov iv v)
      release [v,ov,iv] []) := by intro _; rfl) : PG X (.Subscript o i pos) (x9 to ti t) := by
  intro pins s σ H v u Q I r h
  rw [ha]
  refine wpAny_bind (wpAny_holding (az (ho pins s σ H _ I h) fun ov s1 ⟨x,H1,I1,r1,q1⟩ => ?_))
  refine wpAny_bind (wpAny_holding (az (hi pins s1 σ H1 _ I1 q1) fun iv s2 ⟨y,H2,I2,r2,q2⟩ => ?_))
  refine wpAny_bind (wpAny_standAt (wpAny_bind (wpAny_holding (az (hs pins s2 σ H2 x y v ov iv u _ I2 r1 r2 r q2) fun _ s3 ⟨H3,I3,q3⟩ => ?_))))
  exact wpAny_release ⟨σ,H3,I3,q3⟩
def kG (te : TE) (g : TG) : TS := fun D σ H => te σ H fun x H1 => g x σ H1 D.nx
theorem QQ {tg e : Expr} {te : TE} {g : TG} (he : PE X e te) (hg : PG X tg g) (hs : swapsWithSole [tg] e pos.line X.env = pure false := by rfl) (hw : swappedStores [tg] e X.env = pure none := by rfl)
    (h1 : (assignEach [tg] X.env).map (·.2) = [assign tg X.env] := by rfl) : PS X (.Assign [tg] e pos) (kG te g) := by
  intro pins s σ H D I h
  refine wpAny_Assign_stores (az (he pins s σ H _ I h) fun v s1 ⟨x,H1,I1,r1,q1⟩ => ?_) hs hw
  rw [h1]
  exact az (hg pins s1 σ H1 x v _ I1 r1 q1) fun _ s2 q => q
theorem wG {i : Nat} {x : Str} {e : Expr} {te : TE} {pos' : Pos} (hN : X.N.Nodup) (hi : X.N[i]? = some x) (hx : Loc X.env.scope x) (he : PE X e te) (hs : swapsWith e (some (.Name x pos')) pos.line X.env = pure false := by rfl) (hf : X.fn x = true \/ X.env.scope.names.lookup x = some .local := by first | exact .inl rfl | exact .inr rfl | assumption) :
    PS X (.Assign [.Name x pos'] e pos) (kG te (eE i)) := by
  intro pins s σ H D I h
  refine wpAny_Assign_Name (az (he pins s σ H _ I h) fun v s1 ⟨y,H1,I1,r1,q1⟩ => ?_) hs
  exact C8 I1 hN hi hx r1 (fun s2 I2 => ⟨_,H1,I2,q1⟩) hf
end
section
variable {X : Cx} {pos : Pos}
def EV (c : TT) (tb : TS) : TS := fun D σ H => ∃ W : Nat -> St -> Hp -> Prop,(∃ m,W m σ H) /\ ∀ m σ H,W m σ H ->
  c σ H fun b H1 => if b = true then ∃ N : St -> Hp -> Prop,(∀ aD H',N aD H' -> ∃ m',m' < m /\ W m' aD H') /\ tb { D with nx := N,ct := N,bk := D.nx } σ H1 else D.nx σ H1
theorem NM {c : Expr} {body : List Stmt} {tc : TT} {tb : TS} (hp : PassesOwn (model X.prog X.w) X.A X.env X.xe) (hc : PT X c tc) (hb : eM X body tb) : PS X (.While c body [] pos) (EV tc tb) := by
  intro pins s σ H D I h
  obtain ⟨W,⟨m0,w0⟩,turn⟩ := h
  refine wpAny_While (codeAny_whileLoop (fun n s' => ∃ aD H',Inv X pins aD H' s' /\ W n aD H') ?_ m0 ⟨σ,H,I,w0⟩)
  rintro n s1 ⟨aE,H1,I1,w1⟩
  refine wpAny_passesOwn hp (az (hc pins s1 aE H1 _ I1 (turn n aE H1 w1)) fun b s2 ⟨H2,I2,q2⟩ => ?_)
  cases b with
  | true =>
    obtain ⟨N,hN,q2⟩ := q2
    rw [if_pos rfl]
    refine wpAny_passesOwn hp (az (hb pins s2 aE H2 _ I2 q2) fun f s3 q3 => ?_)
    cases f with
    | next =>
      obtain ⟨iu,H3,I3,n3⟩ := q3
      obtain ⟨m',hm,w3⟩ := hN iu H3 n3
      exact ⟨m',hm,iu,H3,I3,w3⟩
    | cont =>
      obtain ⟨iu,H3,I3,n3⟩ := q3
      obtain ⟨m',hm,w3⟩ := hN iu H3 n3
      exact ⟨m',hm,iu,H3,I3,w3⟩
    | brk => exact q3
    | ret v => exact q3
  | false =>
    rw [if_neg Bool.false_ne_true]
    exact wpAny_execs_nil ⟨aE,H2,I2,q2⟩
end
structure It where
  go : Nat -> Hp -> Prop
  nL : Nat -> Hp -> V -> Hp -> Prop
  stop : Nat -> Hp -> Prop
def gy (X : Cx) (pins : List (Addr × Obj)) (H : Hp) (b : Addr) : Prop :=
  H b = none /\ b ≠ X.env.locals /\ b ∉ X.fs /\ (b ∈ X.ex \/ X.cO.heap.objs.size <= b) /\ (∀ x c,X.env.cells.lookup x = some c -> c ≠ b) /\ ∀ p ∈ X.pn ++ pins,p.1 ≠ b
theorem Inv.pT {X : Cx} {pins : List (Addr × Obj)} {σ : St} {H H' : Hp} {s : Shared} {b : Addr} (I : Inv X pins σ H s) (hb : s.heap.objs.size <= b) (hn : H' b = none) : gy X pins H' b := by
  refine ⟨hn,Nat.ne_of_gt (Nat.lt_of_lt_of_le I.lt hb),I.SU hb,.inr (Nat.le_trans I.sz hb),fun x c e z => ?_,fun p hp z => ?_⟩
  · obtain ⟨v,q⟩ := I.cell x c e
    exact absurd (Nat.lt_of_lt_of_le q.lt (by rw [z]; exact hb)) (Nat.lt_irrefl _)
  · exact absurd (Nat.lt_of_lt_of_le (Heap.lt_size (I.pin p hp).1) (by rw [z]; exact hb)) (Nat.lt_irrefl _)
structure Turn (P : Program) (w : World) (K : PySem.W.Frag) (tg : Expr) (J : It) (fp : List Addr) (it : Addr) (tn : Nat -> Heap -> Prop) : Prop where
  mem : it ∈ fp
  obj : ∀ i h,tn i h -> ∀ b ∈ fp,∃ o,h.get? b = some o /\ ∀ v,o.data ≠ .cell v
  keep : ∀ i h h',tn i h -> (∀ b ∈ fp,∀ o,h.get? b = some o -> h'.get? b = some o) -> tn i h'
  item : ∀ (X : Cx),X.prog = P -> X.w = w -> X.K = K -> X.calm = true -> ∀ (i : Nat) (pins : List (Addr × Obj)) (s : Shared) (σ : St) (H : Hp) (E : Value -> Shared -> Prop),Inv X pins σ H s -> (∀ b ∈ fp,gy X pins H b) -> tn i s.heap -> J.go i H ->
    wpAny (model P w) X.A (pyNext (.ref it)) (fun r s1 => ∃ u,r = some u /\
      wpAny (model P w) X.A (letOwnedTupleGo tg (.ref it) u) (fun _ s2 => ∃ x H',Inv X pins σ H' s2 /\ RelV x u /\ J.nL i H x H' /\ tn (i + 1) s2.heap /\ ∀ b ∈ fp,H' b = none) E s1) E s
  done : ∀ (X : Cx),X.prog = P -> X.w = w -> X.K = K -> X.calm = true -> ∀ (i : Nat) (pins : List (Addr × Obj)) (s : Shared) (σ : St) (H : Hp) (E : Value -> Shared -> Prop),Inv X pins σ H s -> (∀ b ∈ fp,gy X pins H b) -> tn i s.heap -> J.stop i H ->
    wpAny (model P w) X.A (pyNext (.ref it)) (fun r s1 => r = none /\ Inv X pins σ H s1) E s
  self : ∀ (A : Around) (i : Nat) (s : Shared) (Q : Value -> Shared -> Prop) (E : Value -> Shared -> Prop),tn i s.heap -> Q (.ref it) s -> wpAny (model P w) A (pyIter (.ref it)) Q E s
abbrev TI := St -> Hp -> (It -> Hp -> Prop) -> Prop
def Jc (X : Cx) (pins : List (Addr × Obj)) (σ : St) (tg : Expr) (R : It -> Hp -> Prop) (tH : Value) (s2 : Shared) : Prop :=
  ∃ (it : Addr) (fp : List Addr) (tn : Nat -> Heap -> Prop) (J : It) (H' : Hp),tH = .ref it /\ Inv X pins σ H' s2 /\ Turn X.prog X.w X.K tg J fp it tn /\ tn 0 s2.heap /\ (∀ b ∈ fp,gy X pins H' b) /\ R J H'
def PI (X : Cx) (tg iter : Expr) (wi : TI) : Prop :=
  ∀ (pins : List (Addr × Obj)) (s : Shared) (σ : St) (H : Hp) (R : It -> Hp -> Prop),Inv X pins σ H s -> wi σ H R ->
    wpAny (model X.prog X.w) X.A (eval iter X.env) (fun v s1 => wpAny (model X.prog X.w) X.A (pyIter v) (Jc X pins σ tg R) X.xe s1) X.xe s
theorem Gr {M : Model} {A : Around} {E : Value -> Shared -> Prop} {s : Shared} {tg : Expr} {it : Addr} {u : Value} {o : Obj} {n : String} {vs : Array Value} {Q : Unit -> Shared -> Prop} (ho : s.heap.get? it = some o) (hc : o.cls = .type n) (hd : o.data = .fields vs)
    (hn : ["enumerate", "zip", "dict_itemiterator", "dict_reverseitemiterator", "odict_iterator", "itertools.zip_longest", "itertools.pairwise"].contains n = false) (hQ : Q () s) : wpAny M A (letOwnedTupleGo tg (.ref it) u) Q E s := by
  unfold letOwnedTupleGo
  cases tg <;> first
    | exact wpAny_pure hQ
    | (cases u <;> first
        | exact wpAny_pure hQ
        | (refine wpAny_bind (wpAny_load ho ?_)
           rw [hc,hd]
           show wpAny M A (if (["enumerate", "zip", "dict_itemiterator", "dict_reverseitemiterator", "odict_iterator", "itertools.zip_longest", "itertools.pairwise"].contains n && vs[0]? == some (rawInt _)) = true then _ else _) Q E s
           rw [if_neg (by intro h; rw [hn,Bool.false_and] at h; cases h)]
           exact wpAny_pure hQ))
def jW (K : PySem.W.Frag) (a : Addr) : It :=
  ⟨fun i H => ∃ xs x,aN K H a xs /\ xs[i]? = some x,fun i H x H' => H' = H /\ ∀ xs,aN K H a xs -> xs[i]? = some x,fun i H => ∃ xs,aN K H a xs /\ xs.length <= i⟩
def tI (lo : Int) (n : Nat) : It := ⟨fun i _ => i < n,fun i H x H' => H' = H /\ x = .int (lo + i),fun i _ => n <= i⟩
theorem MZ {P : Program} {w : World} {K : PySem.W.Frag} {tg : Expr} (a it : Addr) : Turn P w K tg (jW K a) [it] it (fun i h => h.IsListIter it a i) where
  mem := by simp
  obj := fun i h st b hb => by
    have e : b = it := by simpa using hb
    subst e
    obtain ⟨o,e,c,d⟩ := st
    exact ⟨o,e,fun v z => by rw [d] at z; cases z⟩
  keep := fun i h h' st k => st.at fun o e => k it (by simp) o e
  item := by
    intro X hP hw hK hc i pins s σ H E I hf st hg
    subst hP hw hK
    obtain ⟨xs,x,hq,hx⟩ := hg
    obtain ⟨its,rv,p,hz⟩ := I.list hq
    obtain ⟨u,hu,ru⟩ := rv.get hx
    obtain ⟨f0,f1,f2,f3,f4,f5⟩ := hf it (by simp)
    refine wpAny_pyNext_list_item st p.isList (x := u) (by simpa using hu) fun h' af sb => ?_
    have I1 : Inv X pins σ H { s with heap := h' } := I.turned (t' := s.toks) (fun b o hb e => (sb.2 b hb).trans e) f0 f1 f3 f4 f5
    obtain ⟨o,e,c,d⟩ := id af
    exact ⟨u,rfl,Gr (s := { s with heap := h' }) e c d (by decide) ⟨x,H,I1,ru,⟨rfl,fun ys hy => by rw [I.C9 hy hq]; exact hx⟩,af,fun b hb => (hf b hb).1⟩⟩
  done := by
    intro X hP hw hK hc i pins s σ H E I hf st hg
    subst hP hw hK
    obtain ⟨xs,hq,hx⟩ := hg
    obtain ⟨its,rv,p,hz⟩ := I.list hq
    obtain ⟨f0,f1,f2,f3,f4,f5⟩ := hf it (by simp)
    have hl := rv.length
    exact wpAny_pyNext_list_end (I.ok.hd hc) st p.isList (by simp; omega) fun h' eb => ⟨rfl,I.turned (t' := s.toks) (fun b o hb e => eb b o hb e) f0 f1 f3 f4 f5⟩
  self := fun _ _ _ _ _ st h => wpAny_pyIter_listiter st h
theorem MC {P : Program} {w : World} {K : PySem.W.Frag} {tg : Expr} (it : Addr) (lo : Int) (n : Nat) : Turn P w K tg (tI lo n) [it] it (fun i h => IsRangeIter h it (lo + (i : Nat) * 1) ((n : Int) - (i : Nat)) 1) where
  mem := by simp
  obj := fun i h st b hb => by
    have e : b = it := by simpa using hb
    subst e
    exact ⟨_,st,fun v z => by
      have z' : Data.fields _ = Data.cell v := z
      cases z'⟩
  keep := fun i h h' st k => k it (by simp) _ st
  item := by
    intro X hP hw hK hc i pins s σ H E I hf st hg
    subst hP hw hK
    obtain ⟨f0,f1,f2,f3,f4,f5⟩ := hf it (by simp)
    have W := Walks.range (prog := X.prog) (w := X.w) (I.ok.hd hc) it lo 1 n
    refine W.item i s _ _ hg st fun v h' tk hv af kk => ?_
    obtain ⟨t,rfl⟩ := hv
    have I1 : Inv X pins σ H { s with heap := h',toks := tk } := I.turned (fun b o hb e => kk b o (by simpa using hb) e) f0 f1 f3 f4 f5
    refine ⟨_,rfl,Gr (s := { s with heap := h',toks := tk }) (n := "range_iterator") af rfl rfl (by decide) ⟨.int (lo + i),H,I1,⟨t,?_⟩,⟨rfl,rfl⟩,af,fun b hb => (hf b hb).1⟩⟩
    rw [Int.mul_one]
  done := by
    intro X hP hw hK hc i pins s σ H E I hf st hg
    subst hP hw hK
    obtain ⟨f0,f1,f2,f3,f4,f5⟩ := hf it (by simp)
    exact wpAny_pyNext_range_end (I.ok.hd hc) st (by have : n <= i := hg; omega) fun h' eb => ⟨rfl,I.turned (t' := s.toks) (fun b o hb e => eb b o hb e) f0 f1 f3 f4 f5⟩
  self := fun _ _ _ _ _ st h => wpAny_pyIter_rangeiter st h
end L2
namespace L2
open PySem PySem.Spec PyProof.Rows
section
variable {X : Cx} {tg : Expr}
def pE (K : PySem.W.Frag) (tl : TE) : TI := fun σ H R => tl σ H fun x H1 => ∃ a,x = .ref a /\ (∃ xs,aN K H1 a xs) /\ R (jW K a) H1
theorem vX {l : Expr} {tl : TE} (hl : PE X l tl) : PI X tg l (pE X.K tl) := by
  intro pins s σ H R I h
  refine az (hl pins s σ H _ I h) fun v s1 ⟨x,H1,I1,r1,q1⟩ => ?_
  obtain ⟨a,e,⟨xs,hq⟩,q⟩ := q1
  subst e
  cases r1
  obtain ⟨its,rv,p,hz⟩ := I1.list hq
  refine wpAny_pyIter_list p.isList ?_
  refine ⟨s1.heap.objs.size,[s1.heap.objs.size],_,_,H1,rfl,I1.kept (t' := s1.toks) fun b o e => Heap.get?_push_of_some _ e,MZ a _,⟨_,Heap.get?_push_size _ rfl,rfl,rfl⟩,fun b hb => ?_,q⟩
  have e : b = s1.heap.objs.size := by simpa using hb
  subst e
  exact I1.pT (Nat.le_refl _) (I1.ay.fresh (Nat.le_refl _))
theorem NN {pins : List (Addr × Obj)} {σ : St} {H : Hp} {s : Shared} {R : It -> Hp -> Prop} {E : Value -> Shared -> Prop} {lo hi : Int} {t u v : Tok} {tk : Nat} (I : Inv X pins σ H s) (h1 : -(2 ^ 62) <= lo) (h2 : lo < 2 ^ 62) (h3 : -(2 ^ 62) <= hi) (h4 : hi < 2 ^ 62)
    (q : R (tI lo (hi - lo).toNat) H) : wpAny (model X.prog X.w) X.A (pyIter (.ref s.heap.objs.size)) (Jc X pins σ tg R) E { s with heap := s.heap.push { cls := .type "range",data := .fields #[.int lo t,.int hi u,.int 1 v] },toks := tk } := by
  refine wpAny_pyIter_range (IsRange.new ..) (small_one h1 h2 h3 h4) ?_
  have I1 : Inv X pins σ H { s with heap := s.heap.push { cls := .type "range",data := .fields #[.int lo t,.int hi u,.int 1 v] },toks := tk } := I.kept fun b o e => Heap.get?_push_of_some _ e
  refine ⟨(s.heap.push { cls := .type "range",data := .fields #[.int lo t,.int hi u,.int 1 v] }).objs.size,[(s.heap.push { cls := .type "range",data := .fields #[.int lo t,.int hi u,.int 1 v] }).objs.size],_,_,H,rfl,
    I1.kept (t' := tk) fun b o e => Heap.get?_push_of_some _ e,MC _ lo (hi - lo).toNat,?_,fun b hb => ?_,q⟩
  · have e1 : lo + ((0 : Nat) : Int) * 1 = lo := by simp
    have e2 : (((hi - lo).toNat : Nat) : Int) - ((0 : Nat) : Int) = Builtin.Range.rangeSize lo hi 1 := by rw [rangeSize_one]; split <;> omega
    show IsRangeIter _ _ (lo + ((0 : Nat) : Int) * 1) ((((hi - lo).toNat : Nat) : Int) - ((0 : Nat) : Int)) 1
    rw [e1,e2]
    exact Heap.get?_push_size _ rfl
  · have e : b = (s.heap.push { cls := .type "range",data := .fields #[.int lo t,.int hi u,.int 1 v] }).objs.size := by simpa using hb
    subst e
    exact I1.pT (Nat.le_refl _) (I1.ay.fresh (Nat.le_refl _))
def Gs (ta : TA) : TI := fun σ H R => ta σ H fun vs H1 => ∃ j : Int,vs = [.int j] /\ -(2 ^ 62) <= j /\ j < 2 ^ 62 /\ R (tI 0 j.toNat) H1
theorem M0 {a : Expr} {ta : TA} {p pos : Pos} (hg : Gl X "range") (hm : X.mg "range" = none) (ha : PA X [a] ta) (hs : starEach [a] X.env = [(false,eval a X.env)] := by rfl) : PI X tg (.Call (.Name "range" p) [a] [] pos) (Gs ta) := by
  intro pins s σ H R I h
  refine Call_ (kq I hg hm boot_range (PyProof.Rows.callWith_type1 (az (ha pos pins s σ H _ I h) fun us s1 ⟨vs,H1,I1,r1,q1⟩ => ?_) hs rfl))
  obtain ⟨j,e,q1,q2,q⟩ := q1
  subst e
  cases r1 with
  | cons r rr =>
    cases rr
    obtain ⟨t,rfl⟩ := r
    exact call_range_1 (NN I1 (by omega) (by omega) q1 q2 (by simpa using q))
def sU (wi : TI) (g : TG) (tb : TS) : TS := fun D σ H => wi σ H fun J H1 => ∃ W : Nat -> Nat -> St -> Hp -> Prop,(∃ m,W 0 m σ H1) /\ ∀ i m σ H,W i m σ H ->
  (J.stop i H /\ D.nx σ H) \/ (J.go i H /\ ∃ N : St -> Hp -> Prop,(∀ aD H',N aD H' -> ∃ m',m' < m /\ W (i + 1) m' aD H') /\ ∀ x H',J.nL i H x H' -> g x σ H' fun bG H2 => tb { D with nx := N,ct := N,bk := D.nx } bG H2)
def mS (fp : List Addr) (h : Heap) : List (Addr × Obj) := fp.filterMap fun b => (h.get? b).map fun o => (b,o)
theorem mj {fp : List Addr} {h : Heap} {b : Addr} {o : Obj} (hb : b ∈ fp) (e : h.get? b = some o) : (b,o) ∈ mS fp h := List.mem_filterMap.mpr ⟨b,hb,by rw [e]; rfl⟩
theorem M1 {fp : List Addr} {h : Heap} {p : Addr × Obj} (hp : p ∈ mS fp h) : p.1 ∈ fp /\ h.get? p.1 = some p.2 := by
  obtain ⟨b,hb,e⟩ := List.mem_filterMap.mp hp
  cases q : h.get? b with
  | none => rw [q] at e; cases e
  | some o =>
    rw [q] at e
    have e' : (b,o) = p := Option.some.inj e
    subst e'
    exact ⟨hb,q⟩
theorem Inv.pinned {pins : List (Addr × Obj)} {σ : St} {H : Hp} {s : Shared} {fp : List Addr} (I : Inv X pins σ H s) (hf : ∀ b ∈ fp,gy X pins H b) (ho : ∀ b ∈ fp,∃ o,s.heap.get? b = some o /\ ∀ v,o.data ≠ .cell v) : Inv X (pins ++ mS fp s.heap) σ H s :=
  I.DZ fun p hp => (List.mem_append.mp hp).elim (fun z => I.pin p (List.mem_append_right _ z)) fun z => by
    obtain ⟨hb,e⟩ := M1 z
    obtain ⟨f0,f1,f2,_⟩ := hf p.1 hb
    obtain ⟨o,e',d⟩ := ho p.1 hb
    rw [e] at e'; cases e'
    exact ⟨e,f0,f1,f2,d⟩
theorem Inv.oJ {pins pl : List (Addr × Obj)} {σ : St} {H : Hp} {s : Shared} (I : Inv X (pins ++ pl) σ H s) : Inv X pins σ H s := I.DZ fun p hp => I.pin p (List.mem_append_right _ (List.mem_append_left _ hp))
theorem EW {iter : Expr} {body : List Stmt} {wi : TI} {g : TG} {tb : TS} {pos : Pos} (hp : PassesOwn (model X.prog X.w) X.A X.env X.xe) (hc : X.calm = true) (hi : PI X tg iter wi) (hg : PG X tg g) (hb : eM X body tb)
    (hs : ∀ x,foldedSetIterable iter X.env x = pure x := by intro _; rfl) : PS X (.For tg iter body [] pos) (sU wi g tb) := by
  intro pins s σ H D I h
  refine wpAny_For (az (hi pins s σ H _ I h) fun v s1 h1 => az h1 fun tH s2 h2 => ?_) hs
  obtain ⟨it,fp,tn,J,H2,e,I2,T,aG,f2,W,⟨m0,w0⟩,turn⟩ := h2
  subst e
  have stat : ∀ {H' : Hp},(∀ b ∈ fp,H' b = none) -> ∀ b ∈ fp,gy X pins H' b := fun hn b hb => ⟨hn b hb,(f2 b hb).2⟩
  refine codeAny_forLoop_any (fun n s' => ∃ i aD H',Inv X pins aD H' s' /\ tn i s'.heap /\ (∀ b ∈ fp,H' b = none) /\ W i n aD H') ?_ m0 ⟨0,σ,H2,I2,aG,fun b hb => (f2 b hb).1,w0⟩
  rintro n s3 ⟨i,iu,H3,I3,cY,Jd,w3⟩
  rcases turn i n iu H3 w3 with ⟨stop,qn⟩ | ⟨go,N,hN,step⟩
  · refine wpAny_passesOwn hp (az (T.done X rfl rfl rfl hc i pins s3 iu H3 X.xe I3 (stat Jd) cY stop) fun r s4 ⟨hr,I4⟩ => ?_)
    subst hr
    exact wpAny_execs_nil ⟨iu,H3,I4,qn⟩
  · refine wpAny_passesOwn hp (az (T.item X rfl rfl rfl hc i pins s3 iu H3 X.xe I3 (stat Jd) cY go) fun r s4 ⟨u,hr,h4⟩ => ?_)
    subst hr
    refine wpAny_passesOwn hp (az h4 fun _ s5 ⟨x,H5,I5,r5,y5,jt,kU⟩ => ?_)
    have XD := I5.pinned (stat kU) (T.obj _ _ jt)
    refine wpAny_passesOwn hp (az (hg _ s5 iu H5 x u _ XD r5 (step x H5 y5)) fun _ s6 ⟨XF,H6,I6,q6⟩ => ?_)
    refine wpAny_passesOwn hp (az (hb _ s6 XF H6 _ I6 q6) fun f s7 q7 => ?_)
    have again : ∀ {iw : St} {H7 : Hp},Inv X (pins ++ mS fp s5.heap) iw H7 s7 -> N iw H7 -> ∃ m,m < n /\ ∃ i aD H',Inv X pins aD H' s7 /\ tn i s7.heap /\ (∀ b ∈ fp,H' b = none) /\ W i m aD H' := fun {iw H7} I7 n7 => by
      obtain ⟨m',hm,w7⟩ := hN iw H7 n7
      refine ⟨m',hm,i + 1,iw,H7,I7.oJ,T.keep _ _ _ jt fun b hb o e => (I7.pin (b,o) (List.mem_append_right _ (List.mem_append_right _ (mj hb e)))).1,fun b hb => ?_,w7⟩
      obtain ⟨o,e,d⟩ := T.obj _ _ jt b hb
      exact (I7.pin (b,o) (List.mem_append_right _ (List.mem_append_right _ (mj hb e)))).2.1
    cases f with
    | next => obtain ⟨iw,H7,I7,n7⟩ := q7; exact again I7 n7
    | cont => obtain ⟨iw,H7,I7,n7⟩ := q7; exact again I7 n7
    | brk => obtain ⟨iw,H7,I7,q7⟩ := q7; exact ⟨iw,H7,I7.oJ,q7⟩
    | ret v => obtain ⟨x7,iw,H7,I7,r7,q7⟩ := q7; exact ⟨x7,iw,H7,I7.oJ,r7,q7⟩
end
theorem NP {K : PySem.W.Frag} {a : Addr} {xs : List V} {g : TG} {tb : TS} {D : Ends} {σ : St} {H : Hp} (Pv : Nat -> St -> Hp -> Prop) (h0 : Pv 0 σ H) (hl : ∀ i σ H,i <= xs.length -> Pv i σ H -> aN K H a xs)
    (hs : ∀ i x σ H,xs[i]? = some x -> Pv i σ H -> g x σ H fun bG H2 => tb { D with nx := Pv (i + 1),ct := Pv (i + 1),bk := D.nx } bG H2) (hd : ∀ σ H,Pv xs.length σ H -> D.nx σ H) :
    ∃ W : Nat -> Nat -> St -> Hp -> Prop,(∃ m,W 0 m σ H) /\ ∀ i m σ H,W i m σ H ->
      ((jW K a).stop i H /\ D.nx σ H) \/ ((jW K a).go i H /\ ∃ N : St -> Hp -> Prop,(∀ aD H',N aD H' -> ∃ m',m' < m /\ W (i + 1) m' aD H') /\ ∀ x H',(jW K a).nL i H x H' -> g x σ H' fun bG H2 => tb { D with nx := N,ct := N,bk := D.nx } bG H2) := by
  refine ⟨fun i m σ H => m = xs.length - i /\ i <= xs.length /\ Pv i σ H,⟨xs.length,by simp,Nat.zero_le _,h0⟩,?_⟩
  rintro i m σ H ⟨rfl,hi,p⟩
  have q := hl i σ H hi p
  by_cases aZ : i < xs.length
  · refine .inr ⟨⟨xs,xs[i],q,by simp [aZ]⟩,Pv (i + 1),fun aD H' p' => ⟨xs.length - (i + 1),by omega,rfl,aZ,p'⟩,fun x H' y => ?_⟩
    obtain ⟨e,y⟩ := y
    subst e
    exact hs i x σ _ (y xs q) p
  · have e : i = xs.length := by omega
    subst e
    exact .inl ⟨⟨xs,q,Nat.le_refl _⟩,hd σ H p⟩
end L2
namespace L2
open PySem PySem.Spec PyProof.Rows
abbrev R2 := V -> V -> Hp -> VK -> Prop
def cI (X : Cx) (f : Value -> Value -> Sem Value) (r : R2) : Prop :=
  ∀ (pins : List (Addr × Obj)) (s : Shared) (σ : St) (H : Hp) (x y : V) (v u : Value) (Q : VK),Inv X pins σ H s -> RelV x v -> RelV y u -> r x y H Q ->
    wpAny (model X.prog X.w) X.A (f v u) (EP X pins σ Q) X.xe s
def yK (X : Cx) (f : Value -> Sem Value) (r : V -> Hp -> VK -> Prop) : Prop :=
  ∀ (pins : List (Addr × Obj)) (s : Shared) (σ : St) (H : Hp) (x : V) (v : Value) (Q : VK),Inv X pins σ H s -> RelV x v -> r x H Q ->
    wpAny (model X.prog X.w) X.A (f v) (EP X pins σ Q) X.xe s
def eG (X : Cx) (f : Value) (r : List V -> Hp -> VK -> Prop) : Prop :=
  ∀ (pins : List (Addr × Obj)) (s : Shared) (σ : St) (H : Hp) (xs : List V) (us : List Value) (Q : VK),Inv X pins σ H s -> Vals xs us -> r xs H Q ->
    wpAny (model X.prog X.w) X.A (call f us) (EP X pins σ Q) X.xe s
def iz (r : R2) (ta tb : TE) : TE := fun σ H Q => ta σ H fun x H1 => tb σ H1 fun y H2 => r x y H2 Q
def XG (r : V -> Hp -> VK -> Prop) (ta : TE) : TE := fun σ H Q => ta σ H fun x H1 => r x H1 Q
def rI (C : Int -> Int -> Prop) (g : Int -> Int -> V) : R2 := fun x y H Q => ∃ i j,x = .int i /\ y = .int j /\ C i j /\ Q (g i j) H
def jX (g : Int -> Int -> V) : R2 := fun x y H Q => ∃ i j,x = .int i /\ y = .int j /\ Q (g i j) H
def rU (g : Int -> V) : V -> Hp -> VK -> Prop := fun x H Q => ∃ i,x = .int i /\ Q (g i) H
section
variable {X : Cx} {a b c : Expr} {ta tb tc : TE} {pos : Pos}
theorem yb (ha : PE X a ta) (hb : PE X b tb) {pins : List (Addr × Obj)} {s : Shared} {σ : St} {H : Hp} {R : V -> V -> Hp -> Prop} (I : Inv X pins σ H s)
    (h : ta σ H fun x H1 => tb σ H1 fun y H2 => R x y H2) {Q : Value -> Shared -> Prop} {f : Value -> Value -> Sem Value}
    (hf : ∀ v u s2 x y H2,Inv X pins σ H2 s2 -> RelV x v -> RelV y u -> R x y H2 -> wpAny (model X.prog X.w) X.A (f v u) Q X.xe s2) :
    wpAny (model X.prog X.w) X.A (eval a X.env) (fun v bf => wpAny (model X.prog X.w) X.A (eval b X.env) (fun u kE => wpAny (model X.prog X.w) X.A (f v u) Q X.xe kE) X.xe bf) X.xe s := by
  refine az (ha pins s σ H _ I h) fun v s1 ⟨x,H1,I1,r1,q1⟩ => ?_
  refine az (hb pins s1 σ H1 _ I1 q1) fun u s2 ⟨y,H2,I2,r2,q2⟩ => ?_
  exact hf v u s2 x y H2 I2 r1 r2 q2
theorem Gu {op : Operator} {r : R2} (ho : cI X (binaryOp op) r) (ha : PE X a ta) (hb : PE X b tb) : PE X (.BinOp a op b pos) (iz r ta tb) := by
  intro pins s σ H Q I h
  exact wpAny_BinOp (yb ha hb I h fun v u s2 x y H2 I2 rx ry q => ho pins s2 σ H2 x y v u Q I2 rx ry q)
theorem R8 {op : UnaryOp} {r : V -> Hp -> VK -> Prop} (ho : yK X (unaryOp op) r) (ha : PE X a ta) : PE X (.UnaryOp op a pos) (XG r ta) := by
  intro pins s σ H Q I h
  exact UnaryOp_ (az (ha pins s σ H _ I h) fun v s1 ⟨x,H1,I1,r1,q1⟩ => ho pins s1 σ H1 x v Q I1 r1 q1)
theorem yL {f : Value -> Value -> Sem Value} {C : Int -> Int -> Prop} {g : Int -> Int -> Int}
    (rule : ∀ (i j : Int) (t u : Tok) (s : Shared) (Q : Value -> Shared -> Prop) (E : Value -> Shared -> Prop),C i j -> Q (.int (g i j) s.toks) { s with toks := s.toks + 1 } -> wpAny (model X.prog X.w) X.A (f (.int i t) (.int j u)) Q E s) :
    cI X f (rI C fun i j => .int (g i j)) := by
  intro pins s σ H x y v u Q I rx ry h
  obtain ⟨i,j,rfl,rfl,hc,q⟩ := h
  obtain ⟨t,rfl⟩ := rx
  obtain ⟨t',rfl⟩ := ry
  exact rule i j t t' s _ _ hc ⟨.int (g i j),H,I.tok _,⟨_,rfl⟩,q⟩
theorem Hx {f : Value -> Value -> Sem Value} {g : Int -> Int -> Int}
    (rule : ∀ (i j : Int) (t u : Tok) (s : Shared) (Q : Value -> Shared -> Prop) (E : Value -> Shared -> Prop),Q (.int (g i j) s.toks) { s with toks := s.toks + 1 } -> wpAny (model X.prog X.w) X.A (f (.int i t) (.int j u)) Q E s) :
    cI X f (jX fun i j => .int (g i j)) := by
  intro pins s σ H x y v u Q I rx ry h
  obtain ⟨i,j,rfl,rfl,q⟩ := h
  obtain ⟨t,rfl⟩ := rx
  obtain ⟨t',rfl⟩ := ry
  exact rule i j t t' s _ _ ⟨.int (g i j),H,I.tok _,⟨_,rfl⟩,q⟩
theorem yc {f : Value -> Value -> Sem Value} {g : Int -> Int -> Bool}
    (rule : ∀ (i j : Int) (t u : Tok) (s : Shared) (Q : Value -> Shared -> Prop) (E : Value -> Shared -> Prop),Q (.bool (g i j)) s -> wpAny (model X.prog X.w) X.A (f (.int i t) (.int j u)) Q E s) :
    cI X f (jX fun i j => .bl (g i j)) := by
  intro pins s σ H x y v u Q I rx ry h
  obtain ⟨i,j,rfl,rfl,q⟩ := h
  obtain ⟨t,rfl⟩ := rx
  obtain ⟨t',rfl⟩ := ry
  exact rule i j t t' s _ _ ⟨.bl (g i j),H,I,rfl,q⟩
theorem EX : cI X (binaryOp .Add) (jX fun i j => .int (i + j)) := Hx fun _ _ _ _ _ _ _ q => add_int q
theorem QR : cI X (binaryOp .Sub) (jX fun i j => .int (i - j)) := Hx fun _ _ _ _ _ _ _ q => sub_int q
theorem QS : cI X (binaryOp .Mod) (rI (fun _ j => 0 < j) fun i j => .int (i % j)) := yL fun i j _ _ _ _ _ hc q => by
  have h1 : (0 : Int) < j := hc
  exact mod_int' (by omega) (by rw [Int.fmod_eq_emod_of_nonneg i (by omega)]; exact q)
theorem XH {f : Value -> Sem Value} {g : Int -> Int}
    (rule : ∀ (i : Int) (t : Tok) (s : Shared) (Q : Value -> Shared -> Prop) (E : Value -> Shared -> Prop),Q (.int (g i) s.toks) { s with toks := s.toks + 1 } -> wpAny (model X.prog X.w) X.A (f (.int i t)) Q E s) :
    yK X f (rU fun i => .int (g i)) := by
  intro pins s σ H x v Q I rx h
  obtain ⟨i,rfl,q⟩ := h
  obtain ⟨t,rfl⟩ := rx
  exact rule i t s _ _ ⟨.int (g i),H,I.tok _,⟨_,rfl⟩,q⟩
theorem QT : yK X (unaryOp .USub) (rU fun i => .int (-i)) := XH fun _ _ _ _ _ q => neg_int q
end
def Hy : V -> V -> Bool
  | .aM,.aM => true | .aM,.int _ => true | .int _,.aM => true | .aM,.bl _ => true | .bl _,.aM => true | .aM,.str _ => true | .str _,.aM => true
  | .int _,.int _ => true | .bl _,.bl _ => true | .str _,.str _ => true | .gZ _,.gZ _ => true
  | .int _,.str _ => true | .str _,.int _ => true | .bl _,.str _ => true | .str _,.bl _ => true
  | _,_ => false
def XI : R2 := fun x y H Q => Hy x y = true /\ Q (.bl (decide (x = y))) H
def XJ : R2 := fun x y H Q => Hy x y = true /\ Q (.bl (!decide (x = y))) H
theorem D3 {i j : Int} : decide (V.int i = V.int j) = (i == j) := by
  rw [Bool.eq_iff_iff]
  simp
theorem EY {i j : Bool} : decide (V.bl i = V.bl j) = (i == j) := by
  rw [Bool.eq_iff_iff]
  simp
theorem D4 {i j : Str} : decide (V.str i = V.str j) = (i == j) := by
  rw [Bool.eq_iff_iff]
  simp
theorem D5 {i j : Array UInt8} : decide (V.gZ i = V.gZ j) = (i.toList == j.toList) := by
  rw [Bool.eq_iff_iff]
  cases i
  cases j
  simp
section
variable {X : Cx} {a b c : Expr} {ta tb tc : TE} {pos : Pos}
theorem bV {pins : List (Addr × Obj)} {σ : St} {H : Hp} {s : Shared} {Q : VK} {k k' : Bool} (I : Inv X pins σ H s) (q : Q (.bl k) H) (e : k = k') : EP X pins σ Q (.bool k') s := by
  subst e
  exact ⟨.bl k,H,I,rfl,q⟩
theorem Gv : cI X (compareOp .Eq) XI := by
  intro pins s σ H x y v u Q I rx ry h
  obtain ⟨hs,q⟩ := h
  cases x with
  | aM =>
    cases rx
    cases y with
    | aM => cases ry; exact PySem.EqNone.eq_none_none (bV I q (by simp))
    | bl j => cases ry; exact PySem.EqNone.eq_none_bool (bV I q (by simp))
    | int j => obtain ⟨t',rfl⟩ := ry; exact PySem.EqNone.eq_none_int (bV I q (by simp))
    | str j => obtain ⟨t',rfl⟩ := ry; exact PySem.EqNone.eq_none_str (bV I q (by simp))
    | _ => exact absurd (show false = true from hs) Bool.false_ne_true
  | bl i =>
    cases rx
    cases y with
    | aM => cases ry; exact PySem.EqNone.eq_bool_none (bV I q (by simp))
    | bl j => cases ry; exact eq_bool (bV I q EY)
    | str j => obtain ⟨t',rfl⟩ := ry; exact PySem.EqMixed.eq_bool_str (bV I q (by simp))
    | _ => exact absurd (show false = true from hs) Bool.false_ne_true
  | int i =>
    obtain ⟨t,rfl⟩ := rx
    cases y with
    | aM => cases ry; exact PySem.EqNone.eq_int_none (bV I q (by simp))
    | int j => obtain ⟨t',rfl⟩ := ry; exact eq_int (bV I q D3)
    | str j => obtain ⟨t',rfl⟩ := ry; exact PySem.EqMixed.eq_int_str (bV I q (by simp))
    | _ => exact absurd (show false = true from hs) Bool.false_ne_true
  | str i =>
    obtain ⟨t,rfl⟩ := rx
    cases y with
    | aM => cases ry; exact PySem.EqNone.eq_str_none (bV I q (by simp))
    | bl j => cases ry; exact PySem.EqMixed.eq_str_bool (bV I q (by simp))
    | int j => obtain ⟨t',rfl⟩ := ry; exact PySem.EqMixed.eq_str_int (bV I q (by simp))
    | str j => obtain ⟨t',rfl⟩ := ry; exact eq_str (bV I q D4)
    | _ => exact absurd (show false = true from hs) Bool.false_ne_true
  | gZ i =>
    obtain ⟨t,rfl⟩ := rx
    cases y with
    | gZ j => obtain ⟨t',rfl⟩ := ry; exact PySem.W.eq_bytes (bV I q D5)
    | _ => exact absurd (show false = true from hs) Bool.false_ne_true
  | _ => cases y <;> exact absurd (show false = true from hs) Bool.false_ne_true
theorem R9 : cI X (compareOp .NotEq) XJ := by
  intro pins s σ H x y v u Q I rx ry h
  obtain ⟨hs,q⟩ := h
  cases x with
  | aM =>
    cases rx
    cases y with
    | aM => cases ry; exact PySem.EqNone.ne_none_none (bV I q (by simp))
    | bl j => cases ry; exact PySem.EqNone.ne_none_bool (bV I q (by simp))
    | int j => obtain ⟨t',rfl⟩ := ry; exact PySem.EqNone.ne_none_int (bV I q (by simp))
    | str j => obtain ⟨t',rfl⟩ := ry; exact PySem.EqNone.ne_none_str (bV I q (by simp))
    | _ => exact absurd (show false = true from hs) Bool.false_ne_true
  | bl i =>
    cases rx
    cases y with
    | aM => cases ry; exact PySem.EqNone.ne_bool_none (bV I q (by simp))
    | bl j => cases ry; exact ne_bool (bV I q (congrArg not EY))
    | str j => obtain ⟨t',rfl⟩ := ry; exact PySem.EqMixed.ne_bool_str (bV I q (by simp))
    | _ => exact absurd (show false = true from hs) Bool.false_ne_true
  | int i =>
    obtain ⟨t,rfl⟩ := rx
    cases y with
    | aM => cases ry; exact PySem.EqNone.ne_int_none (bV I q (by simp))
    | int j => obtain ⟨t',rfl⟩ := ry; exact ne_int (bV I q (congrArg not D3))
    | str j => obtain ⟨t',rfl⟩ := ry; exact PySem.EqMixed.ne_int_str (bV I q (by simp))
    | _ => exact absurd (show false = true from hs) Bool.false_ne_true
  | str i =>
    obtain ⟨t,rfl⟩ := rx
    cases y with
    | aM => cases ry; exact PySem.EqNone.ne_str_none (bV I q (by simp))
    | bl j => cases ry; exact PySem.EqMixed.ne_str_bool (bV I q (by simp))
    | int j => obtain ⟨t',rfl⟩ := ry; exact PySem.EqMixed.ne_str_int (bV I q (by simp))
    | str j => obtain ⟨t',rfl⟩ := ry; exact ne_str (bV I q (congrArg not D4))
    | _ => exact absurd (show false = true from hs) Bool.false_ne_true
  | gZ i =>
    obtain ⟨t,rfl⟩ := rx
    cases y with
    | gZ j => obtain ⟨t',rfl⟩ := ry; exact PySem.W.ne_bytes (bV I q (congrArg not D5))
    | _ => exact absurd (show false = true from hs) Bool.false_ne_true
  | _ => cases y <;> exact absurd (show false = true from hs) Bool.false_ne_true
theorem Gw : cI X (compareOp .Lt) (jX fun i j => .bl (decide (i < j))) := yc fun _ _ _ _ _ _ _ q => lt_int q
theorem Gx : cI X (compareOp .Gt) (jX fun i j => .bl (decide (j < i))) := yc fun _ _ _ _ _ _ _ q => gt_int q
theorem Gy : cI X (compareOp .GtE) (jX fun i j => .bl (decide (j <= i))) := yc fun _ _ _ _ _ _ _ q => ge_int q
theorem gO (b : Expr) {op : CmpOp} (h : op ≠ .In := by decide) (h2 : op ≠ .NotIn := by decide) : behindInMarks op b = false := by
  have e1 : (op == CmpOp.In) = false := by cases op <;> first | rfl | exact absurd rfl h
  have e2 : (op == CmpOp.NotIn) = false := by cases op <;> first | rfl | exact absurd rfl h2
  cases b <;> simp [behindInMarks,e1,e2]
theorem O2 {op : CmpOp} {r : R2} (ho : cI X (compareOp op) r) (ha : PE X a ta) (hb : PE X b tb) (hm : behindInMarks op b = false) : PE X (.Compare a [op] [b] pos) (iz r ta tb) := by
  intro pins s σ H Q I h
  exact wpAny_Compare1 (yb ha hb I h fun v u s2 x y H2 I2 rx ry q => ho pins s2 σ H2 x y v u Q I2 rx ry q) hm
def Gz (t : TE) : TT := fun σ H Q => t σ H fun x H' => ∃ k,x = .bl k /\ Q k H'
theorem O3 {op : CmpOp} {r : R2} (ho : cI X (compareOp op) r) (ha : PE X a ta) (hb : PE X b tb) (hm : behindInMarks op b = false) : PT X (.Compare a [op] [b] pos) (Gz (iz r ta tb)) := by
  intro pins s σ H Q I h
  refine wpAny_isTrue_Compare1 (az (ha pins s σ H _ I h) fun v s1 ⟨x,H1,I1,r1,q1⟩ => az (hb pins s1 σ H1 _ I1 q1) fun u s2 ⟨y,H2,I2,r2,q2⟩ =>
    az (ho pins s2 σ H2 x y v u _ I2 r1 r2 q2) fun c s3 ⟨z,H3,I3,r3,k,e,q3⟩ => ?_) hm
  subst e
  cases r3
  exact wpAny_truthy_bool ⟨H3,I3,q3⟩
theorem sk : (sizeLine : Nat) < 2 ^ 63 := by rw [sizeLine_eq]; decide
theorem vals1 {x : V} {us : List Value} (r : Vals [x] us) : ∃ u,us = [u] /\ RelV x u := by
  cases r with
  | cons r1 r2 => cases r2; exact ⟨_,rfl,r1⟩
theorem NQ : eG X (.builtin "abs") (fun xs H Q => ∃ i,xs = [.int i] /\ Q (.int (if i < 0 then -i else i)) H) := by
  intro pins s σ H xs us Q I r h
  obtain ⟨i,rfl,q⟩ := h
  obtain ⟨u,rfl,t,rfl⟩ := vals1 r
  exact call_abs_int fun u tk => ⟨.int (if i < 0 then -i else i),H,I.tok _,⟨_,rfl⟩,q⟩
theorem M3 : eG X (.type "int") (fun xs H Q => (∃ i,xs = [.int i] /\ Q (.int i) H) \/ ∃ k,xs = [.bl k] /\ Q (.int (if k then 1 else 0)) H) := by
  intro pins s σ H xs us Q I r h
  rcases h with ⟨i,rfl,q⟩ | ⟨k,rfl,q⟩
  · obtain ⟨u,rfl,t,rfl⟩ := vals1 r
    exact call_int_int ⟨.int i,H,I,⟨_,rfl⟩,q⟩
  · obtain ⟨u,rfl,r1⟩ := vals1 r
    cases r1
    exact call_int_bool ⟨.int (if k then 1 else 0),H,I.tok _,⟨_,rfl⟩,q⟩
end
end L2
namespace L2
open PySem PySem.Spec PyProof.Rows
structure yd (h : Heap) (x dx C : Addr) (mA : Str -> Option Value) : Prop where
  obj : h.get? x = some (PySem.W.instObj C dx)
  ns : h.Ns1 dx mA
  ne : dx ≠ x
theorem M4 {h : Heap} {dx : Addr} {mA : Str -> Option Value} (n : h.Ns1 dx mA) : ∃ od,h.get? dx = some od /\ ∀ name,PySem.W.lookIn name od = some (mA name) := by
  obtain ⟨o,es,ep,ho,hd,hk,_,hm⟩ := n
  refine ⟨o,ho,fun name => ?_⟩
  have e := hm name
  unfold nsFind findBy at e
  rw [<- Array.find?_toList] at e
  unfold PySem.W.lookIn
  rw [hd]
  dsimp only
  split
  · rename_i y q
    rw [q] at e
    exact congrArg some e
  · rename_i q
    rw [q] at e
    have a : es.toList.any (·.refKey) = false := by
      rw [List.any_eq_false]
      intro y hy
      obtain ⟨z,t,ye⟩ := hk y (Array.mem_toList_iff.mp hy)
      simp [DictEntry.refKey,ye]
    have a' : ¬ es.toList.any (·.refKey) = true := by rw [a]; exact Bool.false_ne_true
    rw [if_neg a']
    exact congrArg some e
theorem yd.look {h : Heap} {x dx C : Addr} {mA : Str -> Option Value} (I : yd h x dx C mA) : ∃ od,PySem.W.InstAt h x (PySem.W.instObj C dx) C (some od) /\ ∀ name,PySem.W.lookIn name od = some (mA name) :=
  let ⟨od,ho,hl⟩ := M4 I.ns
  ⟨od,⟨I.obj,rfl,rfl,ho⟩,hl⟩
theorem gx.some_of {v : V} {o : Option Value} (r : gx (some v) o) : ∃ u,o = some u /\ RelV v u := by
  cases o with
  | none => exact (show False from r).elim
  | some u => exact ⟨u,rfl,r⟩
section
variable {P : Program} {w : World} {H H' : Hp} {h h' : Heap} {a C dx : Addr} {fs XA : List (Str × V)}
theorem O4 (ay : bO P w H h) (e : H a = some (.ins C dx fs)) : ∃ mA,yd h a dx C mA /\ (∀ f,gx (fs.lookup f) (mA f)) /\ PySem.Within mA (fs.map (·.1)) /\ fs.length <= 1000 /\ H dx = some (.own a) := by
  obtain ⟨d,z,ne,ob,mA,n,r,q⟩ := (show bM P w H h a (.ins C dx fs) from ay a _ e)
  exact ⟨mA,⟨ob,n,ne⟩,r,q,z,d⟩
end
structure yM (K : PySem.W.Frag) (C : Addr) : Prop where
  pg : PySem.W.plainGet K C Str.empty = true
  hd : PySem.W.hasDictIn K C = true
  po : PySem.W.plainOver K C = true
  sa : PySem.W.findIn K (.ref C) "__setattr__" = some (some (.builtin "object.__setattr__"))
theorem yM.get {K : PySem.W.Frag} {C : Addr} (c : yM K C) (f : Str) : PySem.W.plainGet K C f = true := c.pg
section
variable {X : Cx} {pins : List (Addr × Obj)} {σ : St} {H : Hp} {s : Shared} {A : Around} {E : Value -> Shared -> Prop} {Q : Value -> Shared -> Prop} {c : Value} {b : Bool}
inductive gX (K : PySem.W.Frag) (H : Hp) : V -> Value -> Prop where
  | aM : gX K H .aM (.type "NoneType")
  | bl (x : Bool) : gX K H (.bl x) (.type "bool")
  | int (i : Int) : gX K H (.int i) (.type "int")
  | str (x : Str) : gX K H (.str x) (.type "str")
  | kN (x : UInt64) : gX K H (.kN x) (.type "float")
  | lst {a : Addr} {xs : List V} (e : H a = some (.lst xs)) : gX K H (.ref a) (.type "list")
  | cX {a : Addr} {o : Obj} {xs : List V} (e : H a = some (.cX o (.lst xs))) : gX K H (.ref a) (.type "list")
  | tup {a : Addr} {xs : List V} (e : H a = some (.tup xs)) : gX K H (.ref a) (.type "tuple")
  | dK {a : Addr} {ah : List (Key × V)} (e : H a = some (.dK ah)) : gX K H (.ref a) (.type "dict")
  | dT {a : Addr} {ah : List (List Key × V)} (e : H a = some (.dT ah)) : gX K H (.ref a) (.type "dict")
  | ins {a C dx : Addr} {fs : List (Str × V)} (e : H a = some (.ins C dx fs)) (cl : yM K C) (ha : PySem.W.findIn K (.ref C) "__class__" = some (some (.builtin "object.__class__")))
      (hn : PySem.W.specialIn K (.builtin "object.__class__") "__get__" = some (some (.builtin "getset_descriptor.__get__"))) (Je : PySem.W.takesIn K (.builtin "object.__class__") = some true)
      (hm : PySem.W.mroIn K C (.type "object") = some true) : gX K H (.ref a) (.ref C)
theorem rA {x : V} {u t : Value} (I : Inv X pins σ H s) (rx : RelV x u) (ty : gX X.K H x t) (e : PySem.W.kitOne X.K t c = some b) (h : ∀ tk,Q (.bool b) { s with toks := tk }) :
    wpAny (model X.prog X.w) A (call (.builtin "isinstance") [u,c]) Q E s := by
  cases ty with
  | aM => cases (show u = Value.none from rx); exact PySem.W.kia_one PySem.W.kitx_none I.dC True.intro e (fun z => nomatch z) h
  | bl y => cases (show u = Value.bool y from rx); exact PySem.W.kia_one PySem.W.kitx_bool I.dC True.intro e (fun z => nomatch z) h
  | int i => obtain ⟨t,q⟩ := (show ∃ t,u = Value.int i t from rx); cases q; exact PySem.W.kia_one PySem.W.kitx_int I.dC True.intro e (fun z => nomatch z) h
  | str y => obtain ⟨t,q⟩ := (show ∃ t,u = Value.str y t from rx); cases q; exact PySem.W.kia_one PySem.W.kitx_str I.dC True.intro e (fun z => nomatch z) h
  | kN y => obtain ⟨t,q⟩ := (show ∃ t,u = Value.float y t from rx); cases q; exact PySem.W.kia_one PySem.W.kitx_float I.dC True.intro e (fun z => nomatch z) h
  | @lst a xs ea =>
    cases (show u = Value.ref a from rx)
    obtain ⟨_,_,n,_,h1⟩ := (show bM X.prog X.w H s.heap a (.lst xs) from I.ay a _ ea)
    exact PySem.W.kia_one PySem.W.kitx_list I.dC ⟨_,h1,rfl⟩ e (fun z => nomatch z) h
  | @cX a ob xs ea =>
    cases (show u = Value.ref a from rx)
    obtain ⟨_,_,_,n,_,h1⟩ := (show bM X.prog X.w H s.heap a (.cX ob (.lst xs)) from I.ay a _ ea)
    exact PySem.W.kia_one PySem.W.kitx_list I.dC ⟨_,h1,rfl⟩ e (fun z => nomatch z) h
  | @tup a xs ea =>
    cases (show u = Value.ref a from rx)
    obtain ⟨_,_,_,p⟩ := (show bM X.prog X.w H s.heap a (.tup xs) from I.ay a _ ea)
    obtain ⟨o,h1,h2,_⟩ := p
    exact PySem.W.kia_one PySem.W.kitx_tuple I.dC ⟨o,h1,h2⟩ e (fun z => nomatch z) h
  | @dK a ah ea =>
    cases (show u = Value.ref a from rx)
    obtain ⟨_,_,vs,_,p⟩ := (show bM X.prog X.w H s.heap a (.dK ah) from I.ay a _ ea)
    obtain ⟨o,es,ep,h1,h2,_⟩ := p
    exact PySem.W.kia_one PySem.W.kitx_dict I.dC ⟨o,h1,h2.1⟩ e (fun z => nomatch z) h
  | @dT a ah ea =>
    cases (show u = Value.ref a from rx)
    obtain ⟨_,_,xs,_,o,es,ep,h1,h2,_⟩ := (show bM X.prog X.w H s.heap a (.dT ah) from I.ay a _ ea)
    exact PySem.W.kia_one PySem.W.kitx_dict I.dC ⟨o,h1,h2.1⟩ e (fun z => nomatch z) h
  | @ins a C dx fs ea cl ha hn Je hm =>
    cases (show u = Value.ref a from rx)
    obtain ⟨mA,O,_⟩ := O4 I.ay ea
    obtain ⟨od,J,_⟩ := O.look
    exact PySem.W.kia_one (PySem.W.kitx_own (cl.get _) cl.hd ha hn Je hm) I.dC J e (fun z => nomatch z) h
end
end L2
namespace L2
open PySem PySem.Spec PyProof.Rows
structure cW (k : Nat) (A : Around) : Prop where
  hd : A.handled = none
  dp : A.depth + 3 * k + 5 < recursionLimit
  un : A.units + 16 * k + 200 < cLine
theorem cW.mono {j k : Nat} {A : Around} (r : cW k A) (h : j <= k) : cW j A := ⟨r.hd,by have := r.dp; omega,by have := r.un; omega⟩
theorem cW.deeper {k : Nat} {A : Around} (r : cW (k + 1) A) (env : Env) : cW k (A.deeper env) :=
  ⟨r.hd,by have := r.dp; show A.depth + 1 + 3 * k + 5 < _; omega,by have := r.un; show A.units + 3 + 16 * k + 200 < _; omega⟩
theorem cW.depth {k : Nat} {A : Around} (r : cW k A) : A.depth < recursionLimit := by have := r.dp; omega
theorem cW.units {k : Nat} {A : Around} (r : cW k A) : A.units + 64 < cLine := by have := r.un; omega
def e9 : TA := fun _ H Q => Q [] H
def dw (ta : TE) (tr : TA) : TA := fun σ H Q => ta σ H fun x H1 => tr σ H1 fun xs H2 => Q (x :: xs) H2
section
variable {X : Cx} {e : Expr} {es : List Expr} {te : TE} {t : TA} {pos : Pos}
theorem eZ : PA X [] e9 := fun _ _ _ _ H Q I h => Calls.spliced_nil ⟨[],H,I,.nil,h⟩
theorem du (ha : PE X e te) (hr : PA X es t) (hs : starEach (e :: es) X.env = (false,eval e X.env) :: starEach es X.env := by rfl) : PA X (e :: es) (dw te t) := by
  intro pos pins s σ H Q I h
  rw [hs]
  show wpAny _ _ (spliced ((false,eval e X.env) :: backTo pos (starEach es X.env))) _ _ s
  refine Calls.spliced_cons (az (ha pins s σ H _ I h) fun u s1 ⟨x,H1,I1,r1,q1⟩ => ?_)
  exact az (hr pos pins s1 σ H1 _ I1 q1) fun us s2 ⟨xs,H2,I2,r2,q2⟩ => ⟨x :: xs,H2,I2,.cons r1 r2,q2⟩
def pU (t : TA) : TE := fun σ H Q => t σ H fun xs H1 => xs.length <= sizeLine /\ ∀ p,H1 p = none -> Q (.ref p) (upd H1 p (.tup xs))
def Hz (t : TA) : TE := fun σ H Q => t σ H fun xs H1 => xs.length <= sizeLine /\ ∀ p,H1 p = none -> Q (.ref p) (upd H1 p (.lst xs))
theorem EZ {x1} (h : PA X es t) : PE X (.Tuple es x1 pos) (pU t) := by
  intro pins s σ H Q I hq
  refine wpAny_Tuple_spliced (az (h pos pins s σ H _ I hq) fun us s1 ⟨xs,H1,I1,r,z,q⟩ => ⟨by rw [<- r.length]; exact z,?_⟩)
  have hf : H1 s1.heap.objs.size = none := I1.ay.fresh (Nat.le_refl _)
  refine ⟨.ref s1.heap.objs.size,upd H1 s1.heap.objs.size (.tup xs),I1.laid (t' := s1.toks) (fun b u e => Heap.get?_push_of_some _ e) (Nat.le_refl _) ?_,rfl,q _ hf⟩
  exact ⟨z,us,r,⟨_,Heap.get?_push_size _ rfl,rfl,_,rfl⟩⟩
theorem QU (h : PA X es t) : PE X (.List es pos) (Hz t) := by
  intro pins s σ H Q I hq
  refine wpAny_List_spliced (az (h pos pins s σ H _ I hq) fun us s1 ⟨xs,H1,I1,r,z,q⟩ => ⟨by rw [<- r.length]; exact z,?_⟩)
  have hf : H1 s1.heap.objs.size = none := I1.ay.fresh (Nat.le_refl _)
  refine ⟨.ref s1.heap.objs.size,upd H1 s1.heap.objs.size (.lst xs),I1.laid (t' := s1.toks) (fun b u e => Heap.get?_push_of_some _ e) (Nat.le_refl _) ?_,rfl,q _ hf⟩
  exact ⟨z,us,0,r,Heap.get?_push_size _ rfl⟩
end
abbrev Sp := List V -> Hp -> VK -> XK -> Prop
abbrev fS := List Env -> Hp -> Shared -> XK -> Value -> Shared -> Prop
structure sV (P : Program) (w : World) (K : PySem.W.Frag) (mg : Str -> Option Value) (base : Heap) (A : Around) (outer : List Env) (s : Shared) (H : Hp) : Prop where
  frames : A.frames = some outer
  mod : Mod K mg base
  bs : ∀ b o,base.get? b = some o -> s.heap.get? b = some o /\ H b = none
  kR : base.objs.size <= s.heap.objs.size
  ie : s.heap.FunFrames base outer
  nK : ∀ b ∈ cU outer,H b = none
  ay : bO P w H s.heap
  bare : AllBare s.gens
def CE (outer : List Env) (P : Program) (w : World) (H : Hp) (s : Shared) (Q : VK) (u : Value) (s' : Shared) : Prop :=
  ∃ v H',s'.os = s.os /\ AllBare s'.gens /\ Un (cU outer) [] H H' s.heap s'.heap /\ bO P w H' s'.heap /\ RelV v u /\ Q v H'
def CR (CX : fS) (outer : List Env) (P : Program) (w : World) (H : Hp) (s : Shared) (Q : VK) (E : XK) (r : Result) (s' : Shared) : Prop :=
  match r with
  | .ok (.ret u) => CE outer P w H s Q u s'
  | .ok _ => False
  | .error e => CX outer H s E e s'
structure aR (P : Program) (w : World) (K : PySem.W.Frag) (mg : Str -> Option Value) (base : Heap) (CX : fS) (k : Nat) (f : Addr) (fd : FuncData) (ps : List Str) (sp : Sp) : Prop where
  len : ∀ vs H Q E,sp vs H Q E -> vs.length = ps.length
  run : ∀ (A : Around) (outer : List Env) (s : Shared) (H : Hp) (args : Args) (us : List Value) (vs : List V) (Q : VK) (E : XK),cW k A -> sV P w K mg base A outer s H -> BindsTo s fd args (ps.zip us) -> Vals vs us -> sp vs H Q E ->
    codeAny (model P w) A (.call (.ref f) args) (CR CX outer P w H s Q E) s
theorem aR.imp {P : Program} {w : World} {K : PySem.W.Frag} {mg : Str -> Option Value} {base : Heap} {CX : fS} {k : Nat} {f : Addr} {fd : FuncData} {ps : List Str} {sp Jf : Sp} (F : aR P w K mg base CX k f fd ps sp)
    (h : ∀ vs H Q E,Jf vs H Q E -> sp vs H Q E) : aR P w K mg base CX k f fd ps Jf :=
  ⟨fun vs H Q E q => F.len vs H Q E (h _ _ _ _ q),fun A outer s H args us vs Q E hr he hb hv hs => F.run A outer s H args us vs Q E hr he hb hv (h _ _ _ _ hs)⟩
section
variable {X : Cx} {pins : List (Addr × Obj)} {σ : St} {H : Hp} {s s' : Shared}
theorem Inv.SY (I : Inv X pins σ H s) : sV X.prog X.w X.K X.mg X.base X.A X.stack s H :=
  ⟨I.ok.frames,I.ok.mod,I.bs,Nat.le_trans I.ok.kR I.sz,I.stack,I.DY,I.ay,I.bare⟩
theorem Inv.after {Q : VK} {u : Value} (I : Inv X pins σ H s) (h : CE X.stack X.prog X.w H s Q u s') : EP X pins σ Q u s' := by
  obtain ⟨v,H',os,bare,un,ay,r,q⟩ := h
  obtain ⟨hh,g,d,t,XM⟩ := s'
  obtain rfl : XM = s.os := os
  exact ⟨v,H',I.call (h' := hh) (g' := g) (d' := d) (t' := t) (ch := []) un ay bare (fun b z => absurd z (by simp)),r,q⟩
end
def ng (sp : Sp) (jY : List V) (E : XK) (t : TA) : TE := fun σ H Q => t σ H fun vs H1 => sp (vs ++ jY) H1 Q E
def Binds (K : PySem.W.Frag) (fd : FuncData) (ps : List Str) (ds : List Value) : Prop :=
  ∀ (s : Shared) (us : List Value),K.In s.heap -> (us ++ ds).length = ps.length -> BindsTo s fd ⟨us,[]⟩ (ps.zip (us ++ ds))
theorem Binds.all {K : PySem.W.Frag} {fd : FuncData} {ps : List Str} (h : ∀ us : List Value,us.length = ps.length -> bindArgs fd ⟨us,[]⟩ = pure (ps.zip us)) : Binds K fd ps [] := fun s us _ hl => by
  rw [List.append_nil] at hl ⊢
  exact .of_eq (h us hl)
def Passes (CX : fS) (X : Cx) (E : XK) : Prop := ∀ (pins : List (Addr × Obj)) (σ : St) (H : Hp) (s : Shared) (e : Value) (s' : Shared),Inv X pins σ H s -> CX X.stack H s E e s' -> X.xe e s'
section
variable {X : Cx} {CX : fS} {k : Nat} {f C : Addr} {fd : FuncData} {ps : List Str} {sp : Sp} {jY : List V} {ds : List Value} {E : XK} {x m : Str} {p pos apos : Pos} {e o : Expr} {es : List Expr} {ta : TE} {t : TA}
theorem QV {pins : List (Addr × Obj)} {σ : St} {H : Hp} {s : Shared} {Q : VK} {us : List Value} {vs : List V} (F : aR X.prog X.w X.K X.mg X.base CX k f fd ps sp) (hr : cW k X.A) (hb : Binds X.K fd ps ds) (hd : Vals jY ds) (hx : Passes CX X E)
    (I : Inv X pins σ H s) (r : Vals vs us) (h : sp (vs ++ jY) H Q E) : wpAny (model X.prog X.w) X.A (call (.ref f) us) (EP X pins σ Q) X.xe s := by
  have r2 : Vals (vs ++ jY) (us ++ ds) := r.append hd
  have hl : (us ++ ds).length = ps.length := by rw [<- r2.length]; exact F.len _ _ _ _ h
  refine wpAny_call (codeAny_mono (F.run X.A X.stack s H ⟨us,[]⟩ (us ++ ds) (vs ++ jY) Q E hr I.SY (hb s us I.dC hl) r2 h) fun r s' hq => ?_)
  cases r with
  | error e => exact hx pins σ H s e s' I hq
  | ok fl =>
    cases fl with
    | ret u => exact I.after hq
    | next => exact False.elim hq
    | brk => exact False.elim hq
    | cont => exact False.elim hq
theorem D6 (F : aR X.prog X.w X.K X.mg X.base CX k f fd ps sp) (hr : cW k X.A) (hg : Gl X x) (hm : X.mg x = some (.ref f)) (hk : PySem.W.keepIn X.K (.ref f) = true) (hb : Binds X.K fd ps ds) (hd : Vals jY ds) (hx : Passes CX X E)
    (ha : PA X (e :: es) t) (fH : (x == ("__debug__" : Str)) = false := by decide) (he : starEach (e :: es) X.env = (false,eval e X.env) :: starEach es X.env := by rfl) (fh : (backTo pos (starEach es X.env)).any (·.1) = false := by rfl) :
    PE X (.Call (.Name x p) (e :: es) [] pos) (ng sp jY E t) := by
  intro pins s σ H Q I h
  refine wpAny_Call_Name_kw (D1 I hg hm ?_ fH)
  refine PySem.W.callWith_K (h₀ := X.base) I.ok.mod.yF hk (az (ha pos pins s σ H _ I h) fun us s1 ⟨vs,H1,I1,r,q⟩ => ⟨I1.dC,?_⟩) he fh
  exact QV F hr hb hd hx I1 r q
end
structure bq (N P : List Str) (sc : Scope) : Prop where
  kind : sc.kind = .function
  co : sc.isCoroutine = false
  gen : sc.isGenerator = false
  nd : N.Nodup
  pre : N.take P.length = P
  par : ∀ x ∈ P,sc.names.lookup x = some .local \/ sc.names.lookup x = some .cell
  QW : ∀ y ∈ sc.names,y.2 ≠ .free
theorem CI {kindOf : Str -> Option NameKind} {x : Str} : ∀ {binds : List (Str × Value)} {m : Str -> Option Value},(∀ v,(x,v) ∉ binds) -> bindL kindOf binds m x = m x
  | [],_,_ => rfl
  | (n,v) :: r,m,h => by
    unfold bindL
    rw [CI fun w hw => h w (List.mem_cons_of_mem _ hw)]
    split
    · have : x ≠ n := by rintro rfl; exact h v List.mem_cons_self
      simp [this]
    · rfl
theorem CJ {kindOf : Str -> Option NameKind} {x : Str} : ∀ {binds : List (Str × Value)} {m : Str -> Option Value},(∀ v,(x,v) ∉ binds) -> bindC kindOf binds m x = m x
  | [],_,_ => rfl
  | (n,v) :: r,m,h => by
    unfold bindC
    rw [CJ fun w hw => h w (List.mem_cons_of_mem _ hw)]
    split
    · rfl
    · have : x ≠ n := by rintro rfl; exact h v List.mem_cons_self
      simp [this]
theorem CK {kindOf : Str -> Option NameKind} {x : Str} {v : Value} : ∀ {P : List Str} {vs : List Value} {i : Nat} {m : Str -> Option Value},P.Nodup -> P[i]? = some x -> vs[i]? = some v -> kindOf x = some .local ->
    bindL kindOf (P.zip vs) m x = some v
  | [],_,_,_,_,h,_,_ => by simp at h
  | _ :: _,[],_,_,_,_,h,_ => by simp at h
  | p :: P,w :: vs,0,m,nd,h1,h2,hk => by
    simp at h1 h2; subst h1; subst h2
    show bindL kindOf ((p,w) :: P.zip vs) m p = _
    unfold bindL
    rw [CI fun v hv => (List.nodup_cons.mp nd).1 (List.of_mem_zip hv).1,if_pos hk]
    simp
  | p :: P,w :: vs,i + 1,m,nd,h1,h2,hk => by
    show bindL kindOf ((p,w) :: P.zip vs) m x = _
    unfold bindL
    exact CK (i := i) (List.nodup_cons.mp nd).2 (by simpa using h1) (by simpa using h2) hk
theorem CL {kindOf : Str -> Option NameKind} {x : Str} {v : Value} : ∀ {P : List Str} {vs : List Value} {i : Nat} {m : Str -> Option Value},P.Nodup -> P[i]? = some x -> vs[i]? = some v -> kindOf x ≠ some .local ->
    bindC kindOf (P.zip vs) m x = some v
  | [],_,_,_,_,h,_,_ => by simp at h
  | _ :: _,[],_,_,_,_,h,_ => by simp at h
  | p :: P,w :: vs,0,m,nd,h1,h2,hk => by
    simp at h1 h2; subst h1; subst h2
    show bindC kindOf ((p,w) :: P.zip vs) m p = _
    unfold bindC
    rw [CJ fun v hv => (List.nodup_cons.mp nd).1 (List.of_mem_zip hv).1,if_neg hk]
    simp
  | p :: P,w :: vs,i + 1,m,nd,h1,h2,hk => by
    show bindC kindOf ((p,w) :: P.zip vs) m x = _
    unfold bindC
    exact CL (i := i) (List.nodup_cons.mp nd).2 (by simpa using h1) (by simpa using h2) hk
def start (N : List Str) (vs : List V) : St := vs.map some ++ List.replicate (N.length - vs.length) none
def jh (CX : fS) (P : Program) (w : World) (K : PySem.W.Frag) (mg : Str -> Option Value) (base : Heap) (N : List Str) (qual : Str) (scope : Scope) (f : Addr) (cd : Value) (A : Around) (outer : List Env) (s : Shared) (H : Hp) (E : XK) : Cx where
  prog := P
  w := w
  K := K
  mg := mg
  base := base
  A := A.deeper (envOfC qual scope s.heap.objs.size f cd)
  N := N
  cO := s
  pR := H
  env := envOfC qual scope s.heap.objs.size f cd
  outer := outer
  stack := envOfC qual scope s.heap.objs.size f cd :: outer
  ex := []
  calm := true
  fn := fun _ => true
  pn := []
  xe := fun e s' => wpAny (model P w) (A.deeper (envOfC qual scope s.heap.objs.size f cd)) (leaving (envOfC qual scope s.heap.objs.size f cd) e) (fun _ yN => CX outer H s E e yN) (fun e' yN => CX outer H s E e' yN) s'
theorem vE {sc : Scope} {n : Nat} {x : Str} (h : sc.names.lookup x = some .cell) : ∃ c,(cellsFrom n sc.names []).lookup x = some c := by
  have q := PySem.W.cellsFrom_some sc.names n [] (.inl h)
  exact Option.isSome_iff_exists.mp q
theorem M5 {CX : fS} {P : Program} {w : World} {K : PySem.W.Frag} {mg : Str -> Option Value} {base : Heap} {N ps : List Str} {qual : Str} {scope : Scope} {f : Addr} {cd : Value} {A : Around} {outer : List Env} {s s1 : Shared} {H : Hp} {E : XK} {us : List Value} {vs : List V}
    (S : bq N ps scope) (hd : A.handled = none) (e0 : sV P w K mg base A outer s H) (hl : vs.length = ps.length) (r : Vals vs us)
    (x : InCallC s s.heap.objs.size (bindL (envOfC qual scope s.heap.objs.size f cd).kindOf (ps.zip us) fun _ => none) (cellsFrom (s.heap.objs.size + 1) scope.names []) (bindC (envOfC qual scope s.heap.objs.size f cd).kindOf (ps.zip us) fun _ => none) s1) :
    Inv (jh CX P w K mg base N qual scope f cd A outer s H E) [] (start N vs) H s1 := by
  have fh : ps.length <= N.length := by have := congrArg List.length S.pre; rw [List.length_take] at this; omega
  obtain ⟨h1,tk,rfl,hk⟩ := x.done
  have ql : ∀ b : Addr,b ∉ (jh CX P w K mg base N qual scope f cd A outer s H E).ex := fun b z => absurd (show b ∈ ([] : List Addr) from z) (by simp)
  refine ⟨⟨e0.mod,S.kind,rfl,rfl,Nat.le_refl _,fun y z c h1 h2 => ?_,fun y hy => ?_,fun y c _ h => ?_,fun _ => hd,Around.frames_deeper e0.frames,.inr ⟨rfl,rfl⟩,fun b z => absurd z (ql b),e0.bs,e0.kR,fun b _ _ => ql b,fun b z => absurd z (ql b),e0.ie,e0.nK⟩,
    rfl,e0.bare,Un.kept hk,⟨_,x.toInCall.ns,fun i y v h1 h2 h3 => ?_⟩,fun y c h => ⟨_,x.cell y c h⟩,e0.ay.fresh (Nat.le_refl _),fun y c h => ?_,fun p hp => absurd (show p ∈ ([] : List (Addr × Obj)) from hp) (by simp),e0.ay.kept hk,?_⟩
  · exact name_of_addr x.apart (PySem.mem_of_lookup h1) (PySem.mem_of_lookup h2)
  · have hy : scope.names.lookup y = some .cell \/ scope.names.lookup y = some .free := hy
    rcases hy with hy | hy
    · exact vE hy
    · exact absurd rfl (S.QW _ (PySem.mem_of_lookup hy))
  · exact Nat.le_of_lt (x.above y c (PySem.mem_of_lookup h))
  · have hi : i < vs.length := by
      unfold start at h2
      by_cases hi : i < vs.length
      · exact hi
      · rw [List.getElem?_append_right (by simpa using hi)] at h2
        rw [List.getElem?_replicate] at h2
        split at h2 <;> cases h2
    have ha : vs[i]? = some v := by
      unfold start at h2
      rw [List.getElem?_append_left (by simpa using hi),List.getElem?_map] at h2
      cases e : vs[i]? with
      | none => rw [e] at h2; cases h2
      | some a => rw [e] at h2; cases h2; rfl
    obtain ⟨u,hu,rv⟩ := r.get ha
    have hp : ps[i]? = some y := by
      rw [<- S.pre,List.getElem?_take_of_lt (by omega)]; exact h1
    have Jg : ps.Nodup := by rw [<- S.pre]; exact S.nd.sublist (List.take_sublist _ _)
    refine ⟨u,rv,?_⟩
    rcases S.par y (List.mem_of_getElem? hp) with k | k
    · exact .inl ⟨k,CK Jg hp hu k⟩
    · obtain ⟨c,e⟩ := vE (n := s.heap.objs.size + 1) k
      refine .inr ⟨.inl k,c,e,?_⟩
      have q := x.cell y c e
      rw [CL Jg hp hu (by show scope.names.lookup y ≠ _; rw [k]; decide)] at q
      exact q
  · exact e0.ay.fresh (Nat.le_of_lt (x.above y c (PySem.mem_of_lookup h)))
  · unfold start
    show _ = N.length
    rw [List.length_append,List.length_map,List.length_replicate]
    omega
theorem Sa {CX : fS} {P : Program} {w : World} {K : PySem.W.Frag} {mg : Str -> Option Value} {base : Heap} {k : Nat} {f : Addr} {name qual : Str} {params : Arguments} {body : List Stmt} {scope : Scope} {dV kV doc pm bC ct oc : Value} {an od : Option Addr}
    {gE : Array (Option Value)} {N ps : List Str} {sp : Sp} (lk : K.lookup f = some ⟨oc,od,.func (PySem.W.fnOf name qual params body scope dV kV doc pm an bC ct),gE⟩) (fG : PySem.W.codeIn K bC qual = true) (S : bq N ps scope)
    (len : ∀ vs H Q E,sp vs H Q E -> vs.length = ps.length)
    (xu : ∀ (A : Around) (outer : List Env) (s : Shared) (H : Hp) (vs : List V) (Q : VK) (E : XK),cW k (A.deeper (envOfC qual scope s.heap.objs.size f bC)) -> sp vs H Q E ->
      ∃ t,eM (jh CX P w K mg base N qual scope f bC A outer s H E) body t /\ t { nx := fun _ H' => Q .aM H',rt := Q } (start N vs) H) :
    aR P w K mg base CX (k + 1) f (PySem.W.fnOf name qual params body scope dV kV doc pm an bC ct) ps sp := by
  refine ⟨len,fun A outer s H args us vs Q E hr e0 hb r jZ => ?_⟩
  have hl := len _ _ _ _ jZ
  have KX : K.In s.heap := e0.mod.yF.keeps fun b o e => (e0.bs b o e).1
  have lim : s.heap.NoLimit := e0.mod.nolimit.keeps fun b o e => (e0.bs b o e).1
  have Sb : ∀ y ∈ ps.zip us,scope.names.lookup y.1 = some .local \/ (scope.names.lookup y.1 = some .cell /\ ((cellsFrom (s.heap.objs.size + 1) scope.names []).lookup y.1).isSome = true) := fun ⟨n,v⟩ hy => by
    rcases S.par n (List.of_mem_zip hy).1 with q | q
    · exact .inl q
    · exact .inr ⟨q,PySem.W.cellsFrom_some _ _ _ (.inl q)⟩
  refine codeAny_call_function hr.depth (KX _ _ lk) rfl S.co S.gen rfl (PySem.W.codeRec_of KX fG) (hb _ _ _ _ ?_)
  refine wpAny_newFunctionEnv_cells S.kind Sb fun env he s1 x => ?_
  subst he
  refine ⟨lim.keeps x.toInCall.keep,codeAny_func ?_⟩
  obtain ⟨t,ht,hq⟩ := xu A outer s H vs Q E (hr.deeper _) jZ
  have I : Inv (jh CX P w K mg base N qual scope f bC A outer s H E) [] (start N vs) H s1 := M5 S hr.hd e0 hl r x
  refine wpAny_mono (ht [] s1 (start N vs) H _ I hq) (fun fl s' hs => ?_) fun e s' hs => hs
  have fin : ∀ {aD : St} {H' : Hp} {v : V} {u : Value},Inv (jh CX P w K mg base N qual scope f bC A outer s H E) [] aD H' s' -> RelV v u -> Q v H' -> CE outer P w H s Q u s' :=
    fun {aD H' v u} J rv q => ⟨v,H',J.os,J.bare,J.base,J.ay,rv,q⟩
  cases fl with
  | ret u =>
    obtain ⟨v,aD,H',J,rv,q⟩ := hs
    exact fin J rv q
  | next =>
    obtain ⟨aD,H',J,q⟩ := hs
    exact fin (v := V.aM) (u := Value.none) J rfl q
  | brk =>
    obtain ⟨_,_,_,q⟩ := hs
    exact False.elim q
  | cont =>
    obtain ⟨_,_,_,q⟩ := hs
    exact False.elim q
end L2
namespace L2
open PySem PySem.Spec PyProof.Rows
section
variable {X : Cx} {x : Str} {p pos : Pos} {e : Expr} {es : List Expr} {t : TA} {id T : String} {r : List V -> Hp -> VK -> Prop}
def iA (r : List V -> Hp -> VK -> Prop) (t : TA) : TE := fun σ H Q => t σ H fun vs H1 => r vs H1 Q
theorem oK (hc : eG X (.builtin id) r) (hg : Gl X x) (hm : X.mg x = none) (hv : bootBuiltins x = some (.builtin id)) (ha : PA X (e :: es) t) (hn : x ≠ "__name__" := by decide) (fH : (x == ("__debug__" : Str)) = false := by decide)
    (he : starEach (e :: es) X.env = (false,eval e X.env) :: starEach es X.env := by rfl) (fh : (backTo pos (starEach es X.env)).any (·.1) = false := by rfl) : PE X (.Call (.Name x p) (e :: es) [] pos) (iA r t) := by
  intro pins s σ H Q I h
  refine wpAny_Call_Name_kw (kq I hg hm hv ?_ hn fH)
  exact PyProof.Rows.callWith_builtin1 (az (ha pos pins s σ H _ I h) fun us s1 ⟨vs,H1,I1,r1,q1⟩ => hc pins s1 σ H1 vs us Q I1 r1 q1) he fh
theorem rB (hc : eG X (.type T) r) (hg : Gl X x) (hm : X.mg x = none) (hv : bootBuiltins x = some (.type T)) (ha : PA X (e :: es) t) (hn : x ≠ "__name__" := by decide) (fH : (x == ("__debug__" : Str)) = false := by decide)
    (he : starEach (e :: es) X.env = (false,eval e X.env) :: starEach es X.env := by rfl) (fh : (backTo pos (starEach es X.env)).any (·.1) = false := by rfl) : PE X (.Call (.Name x p) (e :: es) [] pos) (iA r t) := by
  intro pins s σ H Q I h
  refine wpAny_Call_Name_kw (kq I hg hm hv ?_ hn fH)
  exact PyProof.Rows.callWith_type1 (az (ha pos pins s σ H _ I h) fun us s1 ⟨vs,H1,I1,r1,q1⟩ => hc pins s1 σ H1 vs us Q I1 r1 q1) he fh
end
end L2
namespace HT
open PySem PyProof.Rows
section
variable {prog : Program} {w : World} {A : Around} {E : Value -> Shared -> Prop} {s : Shared}
def dD (n d : Nat) : Option Int -> Nat
  | none => d
  | some v => if v < 0 then (v + (n : Int)).toNat else min v.toNat n
theorem D7 (n d k : Nat) : dD n d (some (k : Int)) = min k n := by
  show (if (k : Int) < 0 then ((k : Int) + (n : Int)).toNat else min (k : Int).toNat n) = min k n
  rw [if_neg (by omega),Int.toNat_natCast]
end
end HT
namespace L2
open PySem PySem.Spec PyProof.Rows
abbrev TO := St -> Hp -> (Option Int -> Hp -> Prop) -> Prop
def PO (X : Cx) (e : Option Expr) (t : TO) : Prop :=
  ∀ (pins : List (Addr × Obj)) (s : Shared) (σ : St) (H : Hp) (Q : Option Int -> Hp -> Prop),Inv X pins σ H s -> t σ H Q ->
    wpAny (model X.prog X.w) X.A (evalPart e X.env) (fun u s' => ∃ o H',Inv X pins σ H' s' /\ IsPart u o /\ Q o H') X.xe s
def GA (t : TE) : TO := fun σ H Q => t σ H fun x H1 => ∃ i,x = .int i /\ Q (some i) H1
theorem intsAre_of {ns : List Int} : ∀ {us : List Value},Vals (ns.map V.int) us -> IntsAre us ns := by
  induction ns with
  | nil => intro us r; rw [List.map_nil] at r; cases r; exact .nil
  | cons n ns ih =>
    intro us r
    rw [List.map_cons] at r
    cases r with
    | cons r1 r2 =>
      obtain ⟨t,e⟩ := r1
      subst e
      exact .cons n t (ih r2)
section
variable {X : Cx} {e : Expr} {te : TE} {lo hi : Option Expr} {tl th : TO} {pos p2 : Pos}
theorem O5 (h : PE X e te) : PO X (some e) (GA te) := by
  intro pins s σ H Q I hw
  rw [evalPart_some]
  refine az (h pins s σ H _ I hw) fun u s1 ⟨x,H1,I1,r1,q1⟩ => ?_
  obtain ⟨i,rfl,q⟩ := q1
  obtain ⟨t,rfl⟩ := r1
  exact ⟨some i,H1,I1,.int i t,q⟩
def Jh (X : Cx) (r : V -> Option Int -> Option Int -> Hp -> VK -> Prop) : Prop :=
  ∀ (pins : List (Addr × Obj)) (s : Shared) (σ : St) (H : Hp) (x : V) (v vl vu : Value) (lo hi : Option Int) (sl : Addr) (Q : VK),Inv X pins σ H s -> RelV x v -> s.heap.IsSliceOf sl vl vu .none -> IsPart vl lo -> IsPart vu hi -> r x lo hi H Q ->
    ∃ T id,typeLookup (.type T) "__getitem__" = pure (some (.builtin id)) /\ s.TypeIs v T /\ wpAny (model X.prog X.w) X.A (getItem v (.ref sl)) (EP X pins σ Q) X.xe s
def Ji (r : V -> Option Int -> Option Int -> Hp -> VK -> Prop) (te : TE) (tl th : TO) : TE := fun σ H Q => te σ H fun x H1 => tl σ H1 fun l H2 => th σ H2 fun u H3 => r x l u H3 Q
theorem NR {r : V -> Option Int -> Option Int -> Hp -> VK -> Prop} (hr : Jh X r) (he : PE X e te) (hl : PO X lo tl) (hu : PO X hi th) : PE X (.Subscript e (.Slice lo hi none p2) pos) (Ji r te tl th) := by
  intro pins s σ H Q I h
  refine Subscript_ (az (he pins s σ H _ I h) fun v s1 ⟨x,H1,I1,r1,q1⟩ => ?_)
  refine wpAny_Slice (az (hl pins s1 σ H1 _ I1 q1) fun vl s2 ⟨l,H2,I2,pl,q2⟩ => az (hu pins s2 σ H2 _ I2 q2) fun vu s3 ⟨u,H3,I3,pu,q3⟩ => ?_)
  rw [evalPart_none]
  refine wpAny_pure ?_
  have I4 : Inv X pins σ H3 { s3 with heap := s3.heap.push { cls := .type "slice",data := .fields #[vl,vu,.none] } } := I3.kept (t' := s3.toks) fun b ob q => Heap.get?_push_of_some _ q
  obtain ⟨T,id,hT,ht,hg⟩ := hr pins { s3 with heap := s3.heap.push { cls := .type "slice",data := .fields #[vl,vu,.none] } } σ H3 x v vl vu l u s3.heap.objs.size Q I4 r1 (Heap.IsSliceOf.new ..) pl pu q3
  show wpAny (model X.prog X.w) X.A (subscriptTail e (.Slice lo hi none p2) v (.ref s3.heap.objs.size)) (EP X pins σ Q) X.xe { s3 with heap := s3.heap.push { cls := .type "slice",data := .fields #[vl,vu,.none] } }
  exact tail_any (ops := [.ref s3.heap.objs.size,v]) ht hT hg (by with_unfolding_all rfl)
def nB (xs : List V) (lo hi : Option Int) : List V := (xs.drop (HT.dD xs.length 0 lo)).take (HT.dD xs.length xs.length hi - HT.dD xs.length 0 lo)
theorem Mf (xs : List V) (lo hi : Option Int) : (nB xs lo hi).length <= xs.length := by
  unfold nB
  rw [List.length_take,List.length_drop]
  omega
end
end L2
namespace L2
open PySem PySem.Spec PyProof.Rows
def fI (n : Nat) (i : Int) : Option Nat := if 0 <= i then (if i < n then some i.toNat else none) else if -(n : Int) <= i then some (i + n).toNat else none
def aY {α : Type} (xs : List α) (i : Int) : Option α := (fI xs.length i).bind fun j => xs[j]?
theorem rR {n : Nat} {i : Int} {j : Nat} (h : fI n i = some j) : seqIndex? i n = some j /\ j < n /\ -(n : Int) <= i /\ i < n := by
  unfold fI at h
  by_cases h0 : 0 <= i
  · rw [if_pos h0] at h
    by_cases h1 : i < n
    · rw [if_pos h1] at h
      have e : i.toNat = j := Option.some.inj h
      exact ⟨by rw [seqIndex_of h0 h1,e],by omega,by omega,h1⟩
    · rw [if_neg h1] at h; cases h
  · rw [if_neg h0] at h
    by_cases h1 : -(n : Int) <= i
    · rw [if_pos h1] at h
      have e : (i + n).toNat = j := Option.some.inj h
      exact ⟨by rw [seqIndex_neg (by omega) h1,e],by omega,h1,by omega⟩
    · rw [if_neg h1] at h; cases h
theorem D8 {α : Type} {xs : List α} {i : Int} {v : α} (h : aY xs i = some v) : ∃ j,seqIndex? i xs.length = some j /\ xs[j]? = some v /\ j < xs.length /\ -(xs.length : Int) <= i /\ i < xs.length := by
  unfold aY at h
  cases e : fI xs.length i with
  | none => rw [e] at h; cases h
  | some j =>
    rw [e] at h
    obtain ⟨h1,h2,h3,h4⟩ := rR e
    exact ⟨j,h1,h,h2,h3,h4⟩
theorem gg {α : Type} {xs : List α} {j : Nat} {v : α} (h : xs[j]? = some v) : aY xs (j : Int) = some v := by
  have hj : j < xs.length := (List.getElem?_eq_some_iff.mp h).1
  have e : fI xs.length (j : Int) = some j := by
    unfold fI
    rw [if_pos (by omega),if_pos (by omega)]; simp
  unfold aY; rw [e]; exact h
def vY (b : Expr) : Prop := ∀ o i,subscripted b false o i = operate [o,i] (getItem o i)
def qm (X : Cx) (r : R2) : Prop :=
  ∀ (value slice : Expr) (pins : List (Addr × Obj)) (s : Shared) (σ : St) (H : Hp) (x y : V) (v u : Value) (Q : VK),Inv X pins σ H s -> RelV x v -> RelV y u -> r x y H Q ->
    subscripted slice false v u = operate [v,u] (getItem v u) -> wpAny (model X.prog X.w) X.A (subscriptTail value slice v u) (EP X pins σ Q) X.xe s
def Jj (X : Cx) (id : String) (r : V -> List V -> Hp -> VK -> Prop) : Prop :=
  ∀ (pins : List (Addr × Obj)) (s : Shared) (σ : St) (H : Hp) (x : V) (xs : List V) (v : Value) (us : List Value) (Q : VK),Inv X pins σ H s -> RelV x v -> Vals xs us -> r x xs H Q ->
    wpAny (model X.prog X.w) X.A (call (.builtin id) (v :: us)) (EP X pins σ Q) X.xe s
section
variable {X : Cx} {a b : Expr} {ta tb : TE} {pos : Pos}
theorem GB {r : R2} (hr : qm X r) (ha : PE X a ta) (hb : PE X b tb) (hs : vY b) : PE X (.Subscript a b pos) (iz r ta tb) := by
  intro pins s σ H Q I h
  exact Subscript_ (yb ha hb I h fun v u s2 x y H2 I2 rx ry q => hr a b pins s2 σ H2 x y v u Q I2 rx ry q (hs _ _))
def yf (K : PySem.W.Frag) : R2 := fun x y H Q => ∃ p xs i v,x = .ref p /\ y = .int i /\ aN K H p xs /\ aY xs i = some v /\ Q v H
def yg (K : PySem.W.Frag) : R2 := fun x y H Q => ∃ p xs i v,x = .ref p /\ y = .int i /\ cH K H p xs /\ aY xs i = some v /\ Q v H
theorem O6 : qm X (yf X.K) := by
  intro value slice pins s σ H x y v u Q I rx ry h hs
  obtain ⟨p,xs,i,z,rfl,rfl,hq,he,q⟩ := h
  cases rx
  obtain ⟨t,rfl⟩ := ry
  obtain ⟨its,r,pl,hz⟩ := I.list hq
  obtain ⟨j,h1,h2,h3,h4,h5⟩ := D8 he
  obtain ⟨w,ew,gF⟩ := r.get h2
  have hl := r.length
  have hn := sk
  have fin : EP X pins σ Q w s := ⟨z,H,I,gF,q⟩
  by_cases h0 : 0 <= i
  · have hj : i.toNat = j := by
      rw [seqIndex_of h0 h5] at h1
      exact Option.some.inj h1
    exact item_listR pl.isList h0 (by omega) (by rw [hj]; simpa using ew) fin hs
  · have hj : (i + (its.toArray.size : Int)).toNat = j := by
      rw [seqIndex_neg (by omega) h4] at h1
      rw [List.size_toArray,<- hl]
      exact Option.some.inj h1
    exact subscriptTail_builtinR (x := w) pl.isList.typeIs slot_list_getitem.lookup
      (wpAny_getItem_list_neg (Q := fun r s' => r = w /\ EP X pins σ Q r s') pl.isList (by omega) (by rw [List.size_toArray] <;> omega) (by omega) (by rw [hj]; simpa using ew) ⟨rfl,fin⟩) hs
theorem QX : qm X (yg X.K) := by
  intro value slice pins s σ H x y v u Q I rx ry h hs
  obtain ⟨p,xs,i,z,rfl,rfl,hq,he,q⟩ := h
  cases rx
  obtain ⟨t,rfl⟩ := ry
  obtain ⟨its,r,pl,hz⟩ := I.tuple hq
  obtain ⟨j,h1,h2,h3,h4,h5⟩ := D8 he
  obtain ⟨w,ew,gF⟩ := r.get h2
  have hl := r.length
  have hn := sk
  have fin : EP X pins σ Q w s := ⟨z,H,I,gF,q⟩
  exact subscriptTail_builtinR (x := w) pl.typeIs slot_tuple_getitem.lookup
    (getItem_tuple (j := j) (Q := fun r s' => r = w /\ EP X pins σ Q r s') pl (by omega) (by omega) (by rw [List.size_toArray,<- hl]; exact h1) (by simpa using ew) ⟨rfl,fin⟩) hs
theorem MD (its : List Value) (n j : Nat) (u : Value) : Obj.mapSeq (·.setIfInBounds j u) { cls := .type "list",data := .seq its.toArray n } = { cls := .type "list",data := .seq (its.set j u).toArray n } := by
  simp [Obj.mapSeq]
theorem Inv.lst {pins : List (Addr × Obj)} {σ : St} {H : Hp} {s : Shared} {p : Addr} {xs : List V} (I : Inv X pins σ H s) (h : H p = some (.lst xs)) :
    ∃ (its : List Value) (n : Nat),Vals xs its /\ s.heap.get? p = some { cls := .type "list",data := .seq its.toArray n } /\ xs.length <= sizeLine := by
  obtain ⟨z,its,n,r,e⟩ := I.ay p _ h
  exact ⟨its,n,r,e,z⟩
theorem Inv.QY {pins : List (Addr × Obj)} {σ : St} {H : Hp} {s : Shared} {p : Addr} {xs ys : List V} {its its' : List Value} {n n' : Nat} {f : Obj -> Obj} (I : Inv X pins σ H s) (h : H p = some (.lst xs))
    (ho : s.heap.get? p = some { cls := .type "list",data := .seq its.toArray n }) (hf : f { cls := .type "list",data := .seq its.toArray n } = { cls := .type "list",data := .seq its'.toArray n' }) (r : Vals ys its') (hz : ys.length <= sizeLine) (t : Nat) :
    Inv X pins σ (upd H p (.lst ys)) { s with heap := s.heap.update p f,toks := t } := by
  have e : (s.heap.update p f).get? p = some { cls := .type "list",data := .seq its'.toArray n' } := by
    rw [Heap.get?_update_self f ho (by rw [hf] <;> rfl),hf]
  refine I.write (x := p) (e := p) (by rw [h]; trivial) (.inl rfl) (fun b u hb q => (Heap.get?_update_other _ _ (Ne.symm hb)).trans q) ⟨_,e⟩ ?_
  exact ⟨hz,its',n',r,e⟩
def xv : V -> V -> V -> Hp -> (Hp -> Prop) -> Prop := fun o i v H Q => ∃ p xs k j,o = .ref p /\ i = .int k /\ H p = some (.lst xs) /\ fI xs.length k = some j /\ Q (upd H p (.lst (xs.set j v)))
theorem set_list : Hw X xv := by
  intro pins s σ H o i v ov iv u Q I ro ri rv h
  obtain ⟨p,xs,k,j,rfl,rfl,hp,hj,q⟩ := h
  cases ro
  obtain ⟨t,rfl⟩ := ri
  obtain ⟨its,n,r,ho,hz⟩ := I.lst hp
  obtain ⟨h1,h2,h3,h4⟩ := rR hj
  have hl := r.length
  have hn := sk
  have I' : Inv X pins σ (upd H p (.lst (xs.set j v))) { s with heap := s.heap.update p (Obj.mapSeq (·.setIfInBounds j u)) } :=
    I.QY hp ho (MD its n j u) (r.set rv j) (by rw [List.length_set]; exact hz) s.toks
  by_cases h0 : 0 <= k
  · have hk : k.toNat = j := by
      rw [seqIndex_of h0 h4] at h1
      exact Option.some.inj h1
    exact PySem.W.ki_setAt ho h0 (by omega) (by rw [List.size_toArray,<- hl]; exact h4) (by rw [hk]; exact ⟨_,I',q⟩)
  · have hk : (k + (its.toArray.size : Int)).toNat = j := by
      rw [seqIndex_neg (by omega) h3] at h1
      rw [List.size_toArray,<- hl]
      exact Option.some.inj h1
    exact PySem.W.ki_setBack ho (by omega) (by rw [List.size_toArray,<- hl]; exact h3) (by omega) (by rw [hk]; exact ⟨_,I',q⟩)
theorem LN (lo hi : Option Int) (n : Nat) : (sliceBounds lo hi none n).1 = ((HT.dD n 0 lo : Nat) : Int) /\ (sliceBounds lo hi none n).2.1 = ((HT.dD n n hi : Nat) : Int) /\ (sliceBounds lo hi none n).2.2 = 1 := by
  refine ⟨?_,?_,rfl⟩
  · cases lo with
    | none => simp [sliceBounds,HT.dD]
    | some i =>
      simp only [sliceBounds,HT.dD,Option.getD_none,show (1 : Int) > 0 by decide,if_true]
      by_cases h : i < 0
      · simp only [h,if_true] <;> omega
      · simp only [h,if_false] <;> omega
  · cases hi with
    | none => simp [sliceBounds,HT.dD]
    | some i =>
      simp only [sliceBounds,HT.dD,Option.getD_none,show (1 : Int) > 0 by decide,if_true]
      by_cases h : i < 0
      · simp only [h,if_true] <;> omega
      · simp only [h,if_false] <;> omega
theorem Li (its : List Value) (lo hi : Option Int) : slicePick its.toArray lo hi none = ((its.drop (HT.dD its.length 0 lo)).take (HT.dD its.length its.length hi - HT.dD its.length 0 lo)).toArray := by
  obtain ⟨h1,h2,h3⟩ := LN lo hi its.toArray.size
  unfold slicePick
  rw [h1,h2,h3]
  simp only [sliceRange_one,pick_run,List.size_toArray] <;> rfl
def HA (K : PySem.W.Frag) : V -> Option Int -> Option Int -> Hp -> VK -> Prop := fun x lo hi H Q => ∃ a xs,x = .ref a /\ aN K H a xs /\ ∀ p,H p = none -> Q (.ref p) (upd H p (.lst (nB xs lo hi)))
theorem O7 : Jh X (HA X.K) := by
  intro pins s σ H x v vl vu lo hi sl Q I rx hs pl pu h
  obtain ⟨a,xs,rfl,hx,q⟩ := h
  cases rx
  obtain ⟨its,r,ht,hz⟩ := I.list hx
  have hlen := r.length
  refine ⟨"list",_,slot_list_getitem.lookup,ht.isList.typeIs,?_⟩
  refine wpAny_getItem_list_slice ht.isList hs pl pu .none (by simp) ?_ (by rw [List.size_toArray] <;> omega)
  rw [Li,<- hlen]
  refine ⟨.ref s.heap.objs.size,_,I.laid (t' := s.toks) (o := .lst (nB xs lo hi)) (fun b ob q => Heap.get?_push_of_some _ q) (Nat.le_refl _) ?_,rfl,q _ (I.ay.fresh (Nat.le_refl _))⟩
  exact ⟨Nat.le_trans (Mf xs lo hi) hz,_,0,(r.drop (HT.dD xs.length 0 lo)).take (HT.dD xs.length xs.length hi - HT.dD xs.length 0 lo),Heap.get?_push_size _ rfl⟩
def dR : V -> Bool
  | .aM => true
  | .bl _ => true
  | .int _ => true
  | .str _ => true
  | _ => false
def eQ : V -> V -> Bool
  | .aM,.aM => true
  | .bl a,.bl b => a == b
  | .bl a,.int b => (if a then 1 else 0) == b
  | .int a,.bl b => a == (if b then 1 else 0)
  | .int a,.int b => a == b
  | .str a,.str b => a == b
  | _,_ => false
theorem E1 {A : Around} {s : Shared} {y x : V} {u v : Value} (ry : RelV y u) (rx : RelV x v) (fy : dR y = true) (fx : dR x = true) : SeqAt.EqAt A s u v (eQ y x) := by
  cases y with
  | aM =>
    cases ry
    cases x with
    | aM => cases rx; exact SeqAt.EqAt.same _
    | bl b => cases rx; exact SeqAt.EqAt.none_bool b
    | int b => obtain ⟨t,rfl⟩ := rx; exact SeqAt.EqAt.none_int b t
    | str b => obtain ⟨t,rfl⟩ := rx; exact SeqAt.EqAt.none_str b t
    | _ => exact absurd (show false = true from fx) Bool.false_ne_true
  | bl a =>
    cases ry
    cases x with
    | aM => cases rx; exact SeqAt.EqAt.bool_none a
    | bl b => cases rx; exact SeqAt.EqAt.bool_bool a b
    | int b => obtain ⟨t,rfl⟩ := rx; exact SeqAt.EqAt.bool_int a b t
    | str b => obtain ⟨t,rfl⟩ := rx; exact SeqAt.EqAt.bool_str a b t
    | _ => exact absurd (show false = true from fx) Bool.false_ne_true
  | int a =>
    obtain ⟨t',rfl⟩ := ry
    cases x with
    | aM => cases rx; exact SeqAt.EqAt.int_none a t'
    | bl b => cases rx; exact SeqAt.EqAt.int_bool a t' b
    | int b => obtain ⟨t,rfl⟩ := rx; exact SeqAt.EqAt.int_int a t' b t
    | str b => obtain ⟨t,rfl⟩ := rx; exact SeqAt.EqAt.int_str a t' b t
    | _ => exact absurd (show false = true from fx) Bool.false_ne_true
  | str a =>
    obtain ⟨t',rfl⟩ := ry
    cases x with
    | aM => cases rx; exact SeqAt.EqAt.str_none a t'
    | bl b => cases rx; exact SeqAt.EqAt.str_bool a t' b
    | int b => obtain ⟨t,rfl⟩ := rx; exact SeqAt.EqAt.str_int a t' b t
    | str b => obtain ⟨t,rfl⟩ := rx; exact SeqAt.EqAt.str_str a t' b t
    | _ => exact absurd (show false = true from fx) Bool.false_ne_true
  | _ => exact absurd (show false = true from fy) Bool.false_ne_true
def eU (x : V) (u : Value) : Bool := match u with
  | .none => eQ .aM x
  | .bool b => eQ (.bl b) x
  | .int i _ => eQ (.int i) x
  | .str z _ => eQ (.str z) x
  | _ => false
theorem wH {x y : V} {u : Value} (r : RelV y u) (f : dR y = true) : eU x u = eQ y x := by
  cases y with
  | aM => cases r; rfl
  | bl b => cases r; rfl
  | int i => obtain ⟨t,rfl⟩ := r; rfl
  | str z => obtain ⟨t,rfl⟩ := r; rfl
  | _ => exact absurd (show false = true from f) Bool.false_ne_true
theorem oP {x : V} : ∀ {xs : List V} {us : List Value},Vals xs us -> xs.all dR = true -> us.any (eU x) = xs.any fun y => eQ y x
  | _,_,.nil,_ => rfl
  | y :: xs,u :: us,.cons r t,f => by
    rw [List.all_cons,Bool.and_eq_true] at f
    rw [List.any_cons,List.any_cons,wH r f.1,oP t f.2]
theorem mE {A : Around} {s : Shared} {x : V} {v : Value} (rx : RelV x v) (fx : dR x = true) : ∀ {xs : List V} {us : List Value},Vals xs us -> xs.all dR = true -> ∀ u ∈ us,SeqAt.EqAt A s u v (eU x u)
  | _,_,.nil,_ => fun u hu => by cases hu
  | y :: xs,u :: us,.cons r t,f => fun u' hu => by
    rw [List.all_cons,Bool.and_eq_true] at f
    rcases List.mem_cons.mp hu with rfl | hu
    · rw [wH r f.1]; exact E1 r rx f.1 fx
    · exact mE rx fx t f.2 u' hu
def tJ (x : V) (xs : List V) : Bool := xs.any fun y => eQ y x
def nM (K : PySem.W.Frag) (neg : Bool) : R2 := fun x y H Q => ∃ p xs,y = .ref p /\ (aN K H p xs \/ cH K H p xs) /\ dR x = true /\ xs.all dR = true /\ Q (.bl (if neg then !tJ x xs else tJ x xs)) H
theorem M6 : cI X (compareOp .In) (nM X.K false) := by
  intro pins s σ H x y v u Q I rx ry h
  obtain ⟨p,xs,rfl,hq,fx,fs,q⟩ := h
  cases ry
  rcases hq with hq | hq
  · obtain ⟨its,r,pl,hz⟩ := I.list hq
    refine SeqAt.in_listAt (eU x) pl.isList (fun w hw => mE rx fx r fs w (by simpa using hw)) ⟨.bl _,H,I,rfl,?_⟩
    rw [show its.toArray.any (eU x) = its.any (eU x) by simp,oP r fs]
    exact q
  · obtain ⟨its,r,pl,hz⟩ := I.tuple hq
    refine SeqAt.in_tupleAt (eU x) pl (fun w hw => mE rx fx r fs w (by simpa using hw)) ⟨.bl _,H,I,rfl,?_⟩
    rw [show its.toArray.any (eU x) = its.any (eU x) by simp,oP r fs]
    exact q
theorem B9 : cI X (compareOp .NotIn) (nM X.K true) := by
  intro pins s σ H x y v u Q I rx ry h
  obtain ⟨p,xs,rfl,hq,fx,fs,q⟩ := h
  cases ry
  rcases hq with hq | hq
  · obtain ⟨its,r,pl,hz⟩ := I.list hq
    refine SeqAt.notIn_listAt (eU x) pl.isList (fun w hw => mE rx fx r fs w (by simpa using hw)) ⟨.bl _,H,I,rfl,?_⟩
    rw [show its.toArray.any (eU x) = its.any (eU x) by simp,oP r fs]
    exact q
  · obtain ⟨its,r,pl,hz⟩ := I.tuple hq
    refine SeqAt.notIn_tupleAt (eU x) pl (fun w hw => mE rx fx r fs w (by simpa using hw)) ⟨.bl _,H,I,rfl,?_⟩
    rw [show its.toArray.any (eU x) = its.any (eU x) by simp,oP r fs]
    exact q
theorem Ca : eG X (.builtin "len") (fun xs H Q => ∃ p ys,xs = [.ref p] /\ (aN X.K H p ys \/ cH X.K H p ys) /\ Q (.int ys.length) H) := by
  intro pins s σ H xs us Q I r h
  obtain ⟨p,ys,rfl,hq,q⟩ := h
  obtain ⟨u,rfl,rx⟩ := vals1 r
  cases rx
  have hn := sk
  rcases hq with hq | hq
  · obtain ⟨its,r',pl,hz⟩ := I.list hq
    have hlen := r'.length
    exact Calls.call_len_list pl.isList (by simp only [List.size_toArray] <;> omega) ⟨.int ys.length,H,I.tok _,⟨s.toks + 1,by rw [List.size_toArray,hlen]⟩,q⟩
  · obtain ⟨its,r',pl,hz⟩ := I.tuple hq
    have hlen := r'.length
    exact len_tuple pl (by simp only [List.size_toArray] <;> omega) ⟨.int ys.length,H,I.tok _,⟨s.toks + 1,by rw [List.size_toArray,hlen]⟩,q⟩
theorem Cb : eG X (.type "list") (fun xs H Q => ∃ p ys,xs = [.ref p] /\ (aN X.K H p ys \/ cH X.K H p ys) /\ ∀ l,H l = none -> Q (.ref l) (upd H l (.lst ys))) := by
  intro pins s σ H xs us Q I r h
  obtain ⟨p,ys,rfl,hq,q⟩ := h
  obtain ⟨u,rfl,rx⟩ := vals1 r
  cases rx
  have fin : ∀ (its : List Value),Vals ys its -> ys.length <= sizeLine -> ∀ (h' : Heap) (c' : Nat),(∀ b o',s.heap.get? b = some o' -> h'.get? b = some o') ->
      h'.get? s.heap.objs.size = some { cls := .type "list",dict := none,data := .seq its.toArray c',slots := #[] } -> EP X pins σ Q (.ref s.heap.objs.size) { s with heap := h' } := fun its r' hz h' c' kp e =>
    ⟨.ref s.heap.objs.size,_,I.laid (t' := s.toks) kp (Nat.le_refl _) (show bM X.prog X.w _ h' _ (.lst ys) from ⟨hz,its,c',r',e⟩),rfl,q _ (I.ay.fresh (Nat.le_refl _))⟩
  rcases hq with hq | hq
  · obtain ⟨its,r',pl,hz⟩ := I.list hq
    have hlen := r'.length
    obtain ⟨o,ho,hc,n,hd⟩ := pl.isList
    exact call_list_seq p (.inl rfl) ho hc hd (fun h' c' kp e => fin its r' hz h' c' kp e) (by simp only [List.size_toArray] <;> omega)
  · obtain ⟨its,r',pl,hz⟩ := I.tuple hq
    have hlen := r'.length
    obtain ⟨o,ho,hc,n,hd⟩ := pl
    exact call_list_seq p (.inr rfl) ho hc hd (fun h' c' kp e => fin its r' hz h' c' kp e) (by simp only [List.size_toArray] <;> omega)
theorem Lj : eG X (.type "tuple") (fun xs H Q => ∃ p ys,xs = [.ref p] /\ ((aN X.K H p ys /\ ∀ l,H l = none -> Q (.ref l) (upd H l (.tup ys))) \/ (cH X.K H p ys /\ Q (.ref p) H))) := by
  intro pins s σ H xs us Q I r h
  obtain ⟨p,ys,rfl,h⟩ := h
  obtain ⟨u,rfl,rx⟩ := vals1 r
  cases rx
  rcases h with ⟨hq,q⟩ | ⟨hq,q⟩
  · obtain ⟨its,r',pl,hz⟩ := I.list hq
    have hlen := r'.length
    refine call_tuple_list pl.isList (fun h' kp => ?_) (by simp only [List.size_toArray] <;> omega)
    have I1 : Inv X pins σ H { s with heap := h' } := I.kept (t' := s.toks) kp
    have I2 : Inv X pins σ (upd H h'.objs.size (.tup ys)) { s with heap := h'.push { cls := .type "tuple",data := .seq its.toArray } } :=
      I1.laid (t' := s.toks) (fun b o e => Heap.get?_push_of_some _ e) (Nat.le_refl _) (show bM X.prog X.w _ _ _ (.tup ys) from ⟨hz,its,r',IsTup.new _ _⟩)
    exact ⟨.ref h'.objs.size,_,I2,rfl,q _ (I1.ay.fresh (Nat.le_refl _))⟩
  · obtain ⟨its,r',pl,hz⟩ := I.tuple hq
    exact call_tuple_same pl ⟨.ref p,H,I,rfl,q⟩
def Jk (K : PySem.W.Frag) (T : String) (x : V) (H : Hp) : Prop := match x with
  | .str _ => T = "str"
  | .int _ => T = "int"
  | .ref p => (T = "list" /\ ∃ xs,aN K H p xs) \/ (T = "tuple" /\ ∃ o,K.lookup p = some o /\ o.cls = .type "tuple" /\ o.dict = none) \/
      (T = "dict" /\ ((∃ ah,H p = some (.dK ah)) \/ ∃ ah,H p = some (.dT ah))) \/ (T = "set" /\ ∃ S n,H p = some (.set S n))
  | _ => False
theorem QZ {pins : List (Addr × Obj)} {σ : St} {H : Hp} {s : Shared} {T : String} {x : V} {v : Value} (I : Inv X pins σ H s) (r : RelV x v) (ty : Jk X.K T x H) :
    s.TypeIs v T /\ ∀ a,v = .ref a -> ∃ ob,s.heap.get? a = some ob /\ ob.dict = none := by
  cases x with
  | str z =>
    obtain ⟨t,rfl⟩ := r
    cases (show T = "str" from ty)
    exact ⟨typeIs_str s z t,fun _ e => nomatch e⟩
  | int i =>
    obtain ⟨t,rfl⟩ := r
    cases (show T = "int" from ty)
    exact ⟨typeIs_int s i t,fun _ e => nomatch e⟩
  | ref p =>
    cases r
    rcases ty with ⟨rfl,xs,hq⟩ | ⟨rfl,o,hk,hc,hd⟩ | ⟨rfl,hk⟩ | ⟨rfl,S,n,hk⟩
    · obtain ⟨its,_,pl,_⟩ := I.list hq
      refine ⟨pl.isList.typeIs,fun a e => ?_⟩
      cases e
      obtain ⟨o,n,e,c,hd,_⟩ := pl
      exact ⟨o,e,hd⟩
    · refine ⟨⟨o,I.dC p o hk,hc⟩,fun a e => ?_⟩
      cases e
      exact ⟨o,I.dC _ o hk,hd⟩
    · have z : ∃ o,s.heap.get? p = some o /\ o.ExactDict := by
        rcases hk with ⟨ah,hk⟩ | ⟨ah,hk⟩
        · obtain ⟨_,_,_,_,o,_,_,e,ex,_⟩ := I.ay p _ hk
          exact ⟨o,e,ex⟩
        · obtain ⟨_,_,_,_,o,_,_,e,ex,_⟩ := I.ay p _ hk
          exact ⟨o,e,ex⟩
      obtain ⟨o,e,ex⟩ := z
      refine ⟨⟨o,e,ex.1⟩,fun a e2 => ?_⟩
      cases e2
      exact ⟨o,e,ex.2.1⟩
    · obtain ⟨o,_,_,_,e,ex,_⟩ := I.ay p _ hk
      refine ⟨⟨o,e,ex.1⟩,fun a e2 => ?_⟩
      cases e2
      exact ⟨o,e,ex.2.1⟩
  | _ => exact False.elim ty
def nO (K : PySem.W.Frag) (T : String) (r : V -> List V -> Hp -> VK -> Prop) (to : TE) (t : TA) : TE := fun σ H Q => to σ H fun x H1 => Jk K T x H1 /\ t σ H1 fun xs H2 => r x xs H2 Q
variable {o e : Expr} {es : List Expr} {to : TE} {t : TA} {name : Str} {apos dU : Pos} {T id : String} {r : V -> List V -> Hp -> VK -> Prop}
theorem pF (pa : PlainAttrs T) (slot : Slot T name id) (yO : typeOf (.builtin id) = pure (.type "method_descriptor")) (hm : Jj X id r) (ho : PE X o to) (ha : PA X (e :: es) t)
    (gk : attributeBase o name X.env (eval o X.env) = eval o X.env := by rfl)
    (gC : ((backTo dU (starEach (e :: es) X.env)).all (fun x => !x.1) && (backToKw dU (keywordEach [] X.env)).all (fun x => x.1.isSome)
      && decide ((e :: es).length + ([] : List Keyword).length + (if ([] : List Keyword).isEmpty then 0 else 1) < 30)) = true := by rfl)
    (hline : (apos.endLine == dU.line) = true := by rfl) (hs : starEach (e :: es) X.env = (false,eval e X.env) :: starEach es X.env := by rfl) (wI : (backTo dU (starEach es X.env)).any (·.1) = false := by rfl) :
    PE X (.Call (.Attribute o name apos) (e :: es) [] dU) (nO X.K T r to t) := by
  intro pins s σ H Q I h
  refine wpAny_Call_method_late gk gC hline rfl (az (ho pins s σ H _ I h) fun v s1 ⟨x,H1,I1,r1,ty,q1⟩ => ?_)
  obtain ⟨h1,h2⟩ := QZ I1 r1 ty
  refine ⟨T,id,pa,slot,yO,h1,h2,?_⟩
  have hA := ha dU pins s1 σ H1 _ I1 q1
  rw [hs] at hA ⊢
  refine Calls.callWith_builtin (by show (false || (backTo dU (starEach es X.env)).any (·.1)) = false; rw [wI] <;> rfl) (Calls.evalArgs_plain ?_)
  exact az hA fun us s2 ⟨vs,H2,I2,r2,q2⟩ => hm pins s2 σ H2 x vs v us Q I2 r1 r2 q2
end
end L2
namespace L2
open PySem PySem.Spec PyProof.Rows
def tK (X : Cx) (id : String) (r : V -> List V -> Hp -> VK -> Prop) : Prop :=
  ∀ (pins : List (Addr × Obj)) (s : Shared) (σ : St) (H : Hp) (x : V) (xs : List V) (v : Value) (us : List Value) (Q : VK),Inv X pins σ H s -> RelV x v -> Vals xs us -> r x xs H Q ->
    wpAny (model X.prog X.w) X.A (call (.builtin id) (v :: us)) (EP X pins σ Q) X.xe s
theorem Vals.one : ∀ {x : V} {us : List Value},Vals [x] us -> ∃ u,us = [u] /\ RelV x u
  | _,_,.cons r .nil => ⟨_,rfl,r⟩
theorem Vals.two : ∀ {x y : V} {us : List Value},Vals [x,y] us -> ∃ u v,us = [u,v] /\ RelV x u /\ RelV y v
  | _,_,_,.cons r (.cons q .nil) => ⟨_,_,rfl,r,q⟩
theorem Vals.eraseIdx : ∀ {xs : List V} {us : List Value} (i : Nat),Vals xs us -> Vals (xs.eraseIdx i) (us.eraseIdx i)
  | _,_,_,.nil => .nil
  | _,_,0,.cons _ t => t
  | _,_,i + 1,.cons r t => .cons r (Vals.eraseIdx i t)
theorem CM {α : Type} : ∀ (l : List α) (i : Nat),(l.eraseIdx i).length <= l.length
  | [],_ => Nat.le_refl _
  | _ :: _,0 => Nat.le_succ _
  | _ :: r,i + 1 => Nat.succ_le_succ (CM r i)
section
variable {X : Cx} {pins : List (Addr × Obj)} {σ : St} {H : Hp} {s : Shared} {l b : Addr} {xs ys zs : List V}
theorem Inv.yh {its its' : List Value} {n : Nat} {f : Array Value -> Array Value} {t' : Nat} (I : Inv X pins σ H s) (hH : H l = some (.lst xs))
    (e : s.heap.get? l = some { cls := .type "list",data := .seq its.toArray n }) (hf : f its.toArray = its'.toArray) (hv : Vals ys its') (hz : ys.length <= sizeLine) :
    Inv X pins σ (upd H l (.lst ys)) { s with heap := s.heap.update l (Obj.mapSeq f),toks := t' } := by
  have q := PySem.IsL.update e f
  rw [hf] at q
  refine I.write (x := l) (e := l) (by rw [hH]; exact trivial) (.inl rfl) (fun b' u hb hu => (Heap.get?_update_other s.heap (Obj.mapSeq f) (Ne.symm hb)).trans hu) ⟨_,q⟩ ?_
  exact ⟨hz,its',_,hv,q⟩
theorem Inv.yi {its : List Value} {t' : Nat} (I : Inv X pins σ H s) (hv : Vals ys its) (hz : ys.length <= sizeLine) :
    Inv X pins σ (upd H s.heap.objs.size (.lst ys)) { s with heap := s.heap.push { cls := .type "list",data := .seq its.toArray },toks := t' } :=
  I.laid (fun _ _ q => Heap.get?_push_of_some _ q) (Nat.le_refl _) ⟨hz,its,0,hv,Heap.get?_push_size _ rfl⟩
theorem Inv.fresh (I : Inv X pins σ H s) : H s.heap.objs.size = none := I.ay.fresh (Nat.le_refl _)
theorem Inv.sW (I : Inv X pins σ H s) (hH : H l = some (.lst xs)) : xs.length <= sizeLine /\ ∃ (its : List Value) (n : Nat),Vals xs its /\ xs.length = its.length /\ s.heap.get? l = some { cls := .type "list",data := .seq its.toArray n } := by
  obtain ⟨z,its,n,r,e⟩ := I.ay l _ hH
  exact ⟨z,its,n,r,r.length,e⟩
theorem NS {n : Nat} (h : n <= sizeLine) : Builtin.List.listTooLong n = false := by
  unfold Builtin.List.listTooLong
  exact decide_eq_false (by omega)
end
section
variable {X : Cx}
def vZ : V -> List V -> Hp -> VK -> Prop := fun x vs H Q => ∃ l xs y,x = .ref l /\ vs = [y] /\ H l = some (.lst xs) /\ xs.length < sizeLine /\ Q .aM (upd H l (.lst (xs ++ [y])))
theorem rC : tK X "list.append" vZ := by
  intro pins s σ H x vs v us Q I rx rv h
  obtain ⟨l,xs,y,rfl,rfl,hH,hz,q⟩ := h
  cases rx
  obtain ⟨u,rfl,ru⟩ := rv.one
  obtain ⟨z,its,n,r,hl,e⟩ := I.sW hH
  refine call_meets F.slot_list_append ⟨_,e,rfl⟩ F.entry_list_append (F.args_list_append_2 _ _) (PySem.list_append l its.toArray n u (by rw [List.size_toArray]; omega)) ⟨e,?_⟩
  refine ⟨.aM,_,I.yh (its' := its ++ [u]) hH e (by simp) (r.append (.cons ru .nil)) ?_,rfl,q⟩
  rw [List.length_append,List.length_singleton]
  omega
def D9 : V -> List V -> Hp -> VK -> Prop := fun x vs H Q => ∃ l b xs zs,x = .ref l /\ vs = [.ref b] /\ H l = some (.lst xs) /\ H b = some (.lst zs) /\ xs.length + zs.length <= sizeLine /\ Q .aM (upd H l (.lst (xs ++ zs)))
theorem M7 : tK X "list.extend" D9 := by
  intro pins s σ H x vs v us Q I rx rv h
  obtain ⟨l,b,xs,zs,rfl,rfl,hH,hB,hz,q⟩ := h
  cases rx
  obtain ⟨u,rfl,ru⟩ := rv.one
  cases ru
  obtain ⟨z,its,n,r,hl,e⟩ := I.sW hH
  obtain ⟨z2,fD,n2,r2,iV,e2⟩ := I.sW hB
  have hsz : its.toArray.size + fD.toArray.size <= sizeLine := by rw [List.size_toArray,List.size_toArray]; omega
  have Sd : ¬ (!its.toArray.isEmpty && Builtin.List.listTooLong (its.toArray.size + fD.toArray.size)) = true := by
    rw [NS hsz,Bool.and_false]
    exact Bool.false_ne_true
  refine call_meets F.slot_list_extend ⟨_,e,rfl⟩ F.entry_list_extend (F.args_list_extend_2 _ _)
    (AutoSeq1.list_extend_list_list_0 l its.toArray n b fD.toArray n2 Sd (by rw [List.size_toArray]; omega) (by omega)) ⟨e,e2,?_⟩
  refine ⟨.aM,_,I.yh (its' := its ++ fD) hH e (by simp) (r.append r2) ?_,rfl,q⟩
  rw [List.length_append]
  omega
def E2 : V -> List V -> Hp -> VK -> Prop := fun x vs H Q => ∃ l xs i k y,x = .ref l /\ vs = [.int i] /\ H l = some (.lst xs) /\ -(2 ^ 63) <= i /\ i < 2 ^ 63 /\ seqIndex? i xs.length = some k /\ xs[k]? = some y /\ Q y (upd H l (.lst (xs.eraseIdx k)))
theorem NT : tK X "list.pop" E2 := by
  intro pins s σ H x vs v us Q I rx rv h
  obtain ⟨l,xs,i,k,y,rfl,rfl,hH,h1,h2,hk,hy,q⟩ := h
  cases rx
  obtain ⟨u,rfl,ru⟩ := rv.one
  obtain ⟨t,rfl⟩ := ru
  obtain ⟨z,its,n,r,hl,e⟩ := I.sW hH
  obtain ⟨w,hw,gF⟩ := r.get hy
  refine call_meets F.slot_list_pop ⟨_,e,rfl⟩ F.entry_list_pop (F.args_list_pop_2 _ _)
    (MeetsSeq.list_pop_at l its.toArray n i t k w (fitsIndex_both h1 h2) (by rw [List.size_toArray,<- hl]; exact hk) (by rw [<- Array.getElem?_toList]; exact hw) (by rw [List.size_toArray]; omega)) ⟨e,?_⟩
  refine ⟨y,_,I.yh (its' := its.eraseIdx k) hH e ?_ (r.eraseIdx k) ?_,gF,q⟩
  · show its.toArray.eraseIdxIfInBounds k = (its.eraseIdx k).toArray
    rw [List.eraseIdxIfInBounds_toArray]
  · have := CM xs k
    omega
end
end L2
namespace Jl
open PySem PySem.W PySem.Calls PyProof.Rows
theorem KP {P : Params} {h : Heap} : ∀ (ns : List Int) (vs : List Value),WellAll P h vs (ns.map WData.int) -> IntsAre vs ns := by
  intro ns
  induction ns with
  | nil =>
    intro vs w
    rw [List.map_nil] at w
    cases w
    exact .nil
  | cons n ns ih =>
    intro vs w
    rw [List.map_cons] at w
    cases w with
    | cons a b =>
      cases a
      exact .cons _ _ (ih _ b)
theorem M8 {l : OpenLaw} {n : Nat} (hn : l.most = some n) {P : Params} {h : Heap} {args : List WData} {vals : List Value}
    (sX : l.row.toRowW.claim.pre args = true) (yP : WellAll P h vals args) :
    ∃ a vs ns,vals = [Value.ref a] /\ args = [WData.list (ns.map WData.int)] /\ h.get? a = some { cls := .type "list",data := .seq vs.toArray } /\ IntsAre vs ns /\ ns.length <= n := by
  have XN : WShape.hasAll [] args [.list .int] = true := (pre_splitW sX).1
  have hc : l.pre.holds [] { args := args } = true := (pre_splitW sX).2
  obtain ⟨d,r,rfl,h1,h2⟩ := hasAllW_cons XN
  obtain rfl := hasAllW_nil h2
  obtain ⟨xs,rfl,h3⟩ := hasW_list h1
  obtain ⟨ns,rfl⟩ := items_int h3
  have hlen : ns.length <= n := by
    unfold OpenLaw.pre at hc
    have h4 : (WTm.not (.lt (.lit (.int (n : Int))) (.len (.arg 0)))).holds [] { args := [.list (ns.map .int)] } = true := by
      have h4 := (holds_andW hc).1
      rw [hn] at h4
      exact h4
    have h5 := condW_of h4 (w_not (w_lt w_lit (w_len_list (w_arg rfl))))
    rw [List.length_map] at h5
    refine Nat.le_of_not_lt fun q => ?_
    have q' : (n : Int) < ((ns.length : Nat) : Int) := by omega
    first
      | (rw [decide_eq_true q'] at h5; exact absurd h5 (by decide))
      | (simp at h5; omega)
  cases yP with
  | cons w1 w2 =>
    cases w2
    cases w1 with
    | list ho yj => exact ⟨_,_,ns,rfl,rfl,ho,KP ns _ yj,hlen⟩
theorem M9 (l : OpenLaw) (args : List WData) : l.row.toRowW.claim.post args (.bool true) args = true :=
  postW_of (r := l.row.toRowW) (X := (true == true))
    (show WShape.has [] (.bool true) .bool = true by first | rfl | decide | simp [WShape.has,WShape.arms,WShape.armsAll])
    (show (WTm.eq .res (.lit (.bool true))).value [] { args := args,res := some (.bool true),after := args } = some (.bool (true == true)) from w_eq_bool (w_res rfl) w_lit) rfl
theorem Mg {l : OpenLaw} {n : Nat} {q : Program} {loose : List Str} {XP : (Str -> Option Value) -> Heap -> Prop} {YP : World -> Heap -> Prop} {d : DefRec}
    (hn : l.most = some n) (qo : d.params.defaults = [])
    (call : ∀ (w : World) (cO bf : Shared) (mg mb : Str -> Option Value) (fa : Addr) (o : Obj) (pm cd doc : Value) (a : Addr) (vs : List Value) (ns : List Int),
      Ground q loose [] XP w cO mg mb bf.heap -> YP w bf.heap ->
      bf.heap.get? fa = some o -> o.data = .func (docDef d.name d.params d.body d.scope pm cd doc) -> bf.heap.CodeRec cd d.name -> mg d.name = some (.ref fa) ->
      bf.heap.get? a = some { cls := .type "list",data := .seq vs.toArray } -> IntsAre vs ns -> ns.length <= n -> bf.gens = #[] ->
      codeAny (model l.prog w) callerA (.call (.ref fa) ⟨[.ref a],[]⟩) (fun r s' => r = .ok (.ret (.bool true)) /\ OldK bf.heap s'.heap /\ s'.os = bf.os /\ AllBare s'.gens) bf) :
    WalkO q loose XP YP l.row.toRowW d [] (fun f vs => PySem.call f vs) := by
  intro w cO bf mg mb G Y fa o pm cd doc dV kV ho hd fG hD qu hg args vals as sX aai hrd yP hlo
  obtain rfl : dV = .none := Dflts.none hD qo
  obtain rfl : kV = .none := Dflts.noKw hD
  obtain ⟨a,vs,ns,rfl,rfl,yk,hints,hlen⟩ := M8 hn sX yP
  refine enter_call (codeAny_mono (call w cO bf mg mb fa o pm cd doc a vs ns G Y ho (fd_plain hd) fG qu yk hints hlen hg) fun r s' hq => ?_)
  obtain ⟨rfl,h2,h3,h4⟩ := hq
  exact ⟨.inl ⟨.bool true,.bool true,[],rfl,fun _ => rfl,.bool true,M9 l _,fun _ => ⟨List.Pairwise.nil,fun _ hm => (nomatch hm)⟩⟩,h2,h3,h4⟩
end Jl
namespace L2
open PySem PySem.Spec PyProof.Rows
theorem vj : ∀ {vs : List Value} {ns : List Int},IntsAre vs ns -> Vals (ns.map V.int) vs
  | _,_,.nil => .nil
  | _,_,.cons n t h => .cons ⟨t,rfl⟩ (vj h)
def yl (H : Hp) : Prop := ∀ b,H b = none \/ ∃ o xs,H b = some (.cX o (.lst xs))
theorem NU {P : Program} {w : World} {K : PySem.W.Frag} {mg mb : Str -> Option Value} {CX : fS} {k : Nat} {fa a : Addr} {fd : FuncData} {x : Str} {sp : Sp} {bf : Shared} {vs : List Value} {ns : List Int}
    (KX : K.In bf.heap) (iB : bf.heap.Ns mainGlobals mg) (hb : bf.heap.Ns builtinsNs mb) (XO : ∀ x : Str,x ≠ "__name__" -> mb x = bootBuiltins x) (S0 : bf.heap.NoLimit) (hg : bf.gens = #[])
    (ha : bf.heap.get? a = some { cls := .type "list",data := .seq vs.toArray }) (hi : IntsAre vs ns) (hl : ns.length <= sizeLine) (hr : cW k callerA)
    (F : ∀ base : Heap,K.In base -> base.Ns mainGlobals mg -> aR P w K mg base CX k fa fd [x] sp) (Se : ∀ (s : Shared) (u : Value),BindsTo s fd ⟨[u],[]⟩ [(x,u)])
    (jZ : ∀ H : Hp,yl H -> aN K H a (ns.map V.int) -> sp [.ref a] H (fun v _ => v = .bl true) fun _ _ _ => False)
    (yQ : ∀ H e s',CX [] H bf (fun _ _ _ => False) e s' -> False) :
    codeAny (model P w) callerA (.call (.ref fa) ⟨[.ref a],[]⟩) (fun r s' => r = .ok (.ret (.bool true)) /\ OldK bf.heap s'.heap /\ s'.os = bf.os /\ AllBare s'.gens) bf := by
  have rv := vj hi
  have S3 := hi.length
  have core : ∀ H : Hp,yl H -> aN K H a (ns.map V.int) -> bO P w H bf.heap -> (∀ b,H b ≠ none -> b = a) -> (H a ≠ none -> K.lookup a = none) ->
      codeAny (model P w) callerA (.call (.ref fa) ⟨[.ref a],[]⟩) (fun r s' => r = .ok (.ret (.bool true)) /\ OldK bf.heap s'.heap /\ s'.os = bf.os /\ AllBare s'.gens) bf := by
    intro H hO hS ay hA hK
    have Ea : ∀ {b : Addr} {o : Obj},bf.heap.get? b = some o -> H b = none -> (jg bf.heap H).get? b = some o := fun e n => NK e n
    have ql : ∀ {b : Addr} {o : Obj} {es : Array DictEntry} {ep : Nat},bf.heap.get? b = some o -> o.data = .dict es ep -> H b = none := fun {b o es ep} e d => by
      cases q : H b with
      | none => rfl
      | some u =>
        have e' : b = a := hA b (by rw [q]; simp)
        subst e'
        rw [ha] at e; cases e
        have d' : Data.seq vs.toArray _ = Data.dict es ep := d
        cases d'
    have tM : ∀ {b : Addr} {m : Str -> Option Value},bf.heap.Ns b m -> (jg bf.heap H).Ns b m := fun {b m} ⟨o,es,ep,e,d,r⟩ => ⟨o,es,ep,Ea e (ql e d),d,r⟩
    have Jm : K.In (jg bf.heap H) := fun b o e => Ea (KX b o e) (by
      cases q : H b with
      | none => rfl
      | some u =>
        have e' : b = a := hA b (by rw [q]; simp)
        subst e'
        rw [hK (by rw [q]; simp)] at e; cases e)
    have hM : Mod K mg (jg bf.heap H) := ⟨Jm,tM iB,⟨mb,tM hb,XO⟩,let ⟨mc,h1,h2⟩ := S0; ⟨mc,tM h1,h2⟩⟩
    have e0 : sV P w K mg (jg bf.heap H) callerA [] bf H := ⟨rfl,hM,fun b o e => OV e,Nat.le_of_eq (MX _ _),trivial,fun b hb => absurd (show b ∈ ([] : List Addr) from hb) (by simp),ay,.of_eq hg⟩
    refine codeAny_mono ((F _ Jm (tM iB)).run callerA [] bf H ⟨[.ref a],[]⟩ [.ref a] [.ref a] _ _ hr e0 (Se bf (.ref a)) (.cons rfl .nil) (jZ H hO hS)) fun r s' h => ?_
    cases r with
    | error e => exact (yQ H e s' h).elim
    | ok fl =>
      cases fl with
      | next => exact False.elim h
      | brk => exact False.elim h
      | cont => exact False.elim h
      | ret u =>
        obtain ⟨v,H',os,bare,un,S4,r',q⟩ := h
        have q' : v = .bl true := q
        subst q'
        obtain rfl : u = Value.bool true := r'
        refine ⟨rfl,OldK.of_keep fun b o e => ?_,os,bare⟩
        cases q : H b with
        | none => exact un.keep b o e q (by intro z; exact absurd (show b ∈ ([] : List Addr) from z) (by simp)) (by simp)
        | some u =>
          rcases hO b with z | ⟨ob,xs,z⟩
          · rw [q] at z; cases z
          · have z2 := un.ic b ob _ z
            obtain ⟨e1,_⟩ := ay b _ z
            obtain ⟨e2,_⟩ := S4 b _ z2
            rw [e] at e1; cases e1
            exact e2
  cases hk : K.lookup a with
  | some o =>
    have e := KX a o hk
    rw [ha] at e
    cases e
    refine core (fun _ => none) (fun _ => .inl rfl) (.inr ⟨_,vs.toArray,_,hk,rfl,rfl,rfl,by rw [List.size_toArray,S3]; exact hl,by simpa using rv⟩) (fun b u z => by have z' : (none : Option HO) = some u := z; cases z') (fun b z => absurd rfl z) fun z => absurd rfl z
  | none =>
    refine core (fun b => if b = a then some (.cX { cls := .type "list",data := .seq vs.toArray } (.lst (ns.map V.int))) else none) (fun b => ?_) (.inl (.inr ⟨{ cls := .type "list",data := .seq vs.toArray },if_pos rfl⟩)) (fun b u z => ?_) (fun b z => ?_) fun _ => hk
    · by_cases hb : b = a
      · exact .inr ⟨_,_,if_pos hb⟩
      · exact .inl (if_neg hb)
    · by_cases hb : b = a
      · have z' := (if_pos hb).symm.trans z
        cases z'
        subst hb
        exact ⟨ha,by rw [List.length_map]; exact hl,vs,_,rv,ha⟩
      · have z' := (if_neg hb).symm.trans z
        cases z'
    · by_cases hb : b = a
      · exact hb
      · exact absurd (if_neg hb) z
end L2
namespace L2
open PySem PySem.Spec PyProof.Rows
theorem O8 {l : PySem.W.OpenLaw} {n k : Nat} {q : Program} {loose : List Str} {XP : (Str -> Option Value) -> Heap -> Prop} {YP : World -> Heap -> Prop} {d : DefRec} {K : Params -> PySem.W.Frag} {CX : World -> fS} {sp : World -> Sp} {x : Str}
    (hn : l.most = some n) (XQ : n <= sizeLine) (qo : d.params.defaults = []) (hr : cW k callerA)
    (hY : ∀ (w : World) (h : Heap),YP w h -> (K w.params).In h)
    (F : ∀ (w : World) (mg : Str -> Option Value) (fa : Addr) (h : Heap),(K w.params).In h -> h.Ns mainGlobals mg -> mg d.name = some (.ref fa) ->
      ∃ fd : FuncData,(∀ (s : Shared) (u : Value),BindsTo s fd ⟨[u],[]⟩ [(x,u)]) /\
        ∀ base : Heap,(K w.params).In base -> base.Ns mainGlobals mg -> aR l.prog w (K w.params) mg base (CX w) k fa fd [x] (sp w))
    (jZ : ∀ (w : World) (H : Hp) (a : Addr) (ns : List Int),ns.length <= n -> yl H -> aN (K w.params) H a (ns.map V.int) -> sp w [.ref a] H (fun v _ => v = .bl true) fun _ _ _ => False)
    (yQ : ∀ (w : World) (H : Hp) (s : Shared) (e : Value) (s' : Shared),CX w [] H s (fun _ _ _ => False) e s' -> False) :
    PySem.W.WalkO q loose XP YP l.row.toRowW d [] (fun f vs => PySem.call f vs) := by
  refine Jl.Mg hn qo fun w cO bf mg mb fa o pm cd doc a vs ns G Y ho hd fG qu yk hints hlen hg => ?_
  have KX := hY w _ Y
  obtain ⟨fd,hb,hF⟩ := F w mg fa _ KX G.T.g qu
  exact NU KX G.T.g G.T.b G.T.builtins G.T.nolimit hg yk hints (Nat.le_trans hlen XQ) hr hF hb (fun H hO hS => jZ w H a ns hlen hO hS) fun H e s' => yQ w H bf e s'
end L2
namespace L2
open PySem PySem.Spec PyProof.Rows
def aX (s : Stmt) : Arguments := match s with
  | .FunctionDef _ a _ _ _ _ _ _ _ _ => a
  | _ => { posonlyargs := [],args := [],vararg := none,kwonlyargs := [],kw_defaults := [],kwarg := none,defaults := [] }
def aI (s : Stmt) : List Stmt := match s with
  | .FunctionDef _ _ b _ _ _ _ _ _ _ => b
  | _ => []
def ak (s : Stmt) : Scope := match s with
  | .FunctionDef _ _ _ _ _ _ sc _ _ _ => sc
  | _ => { kind := .function,names := [],isGenerator := false,isCoroutine := false }
abbrev au : fS := fun _ _ _ _ _ _ => False
abbrev E0 : XK := fun _ _ _ => False
theorem GD {X : Cx} : Passes au X E0 := fun _ _ _ _ _ _ _ h => h.elim
structure bt (K : PySem.W.Frag) (x qual : Str) (st : Stmt) (f : Addr) (fd : FuncData) : Prop where
  ex : ∃ (oc : Value) (od : Option Addr) (kV doc pm : Value) (an : Option Addr) (bC ct : Value) (gE : Array (Option Value)),
    fd = PySem.W.fnOf x qual (aX st) (aI st) (ak st) .none kV doc pm an bC ct /\ K.lookup f = some ⟨oc,od,.func fd,gE⟩ /\ PySem.W.codeIn K bC qual = true
  kp : PySem.W.keepIn K (.ref f) = true
section
variable {P : Program} {w : World} {K : PySem.W.Frag} {mg : Str -> Option Value} {base : Heap}
theorem bt.binds {x qual : Str} {st : Stmt} {f : Addr} {fd : FuncData} {ps : List Str} (F : bt K x qual st f fd)
    (h : ∀ (kV doc pm : Value) (an : Option Addr) (bC ct : Value) (us : List Value),us.length = ps.length -> bindArgs (PySem.W.fnOf x qual (aX st) (aI st) (ak st) .none kV doc pm an bC ct) ⟨us,[]⟩ = pure (ps.zip us)) : Binds K fd ps [] := by
  obtain ⟨oc,od,kV,doc,pm,an,bC,ct,gE,rfl,lk,fG⟩ := F.ex
  exact .all (h kV doc pm an bC ct)
theorem bE {x qual : Str} {st : Stmt} {f : Addr} {oc : Value} {od an : Option Addr} {gE : Array (Option Value)} {kV doc pm bC ct : Value} (l : K.lookup f = some ⟨oc,od,.func (PySem.W.fnOf x qual (aX st) (aI st) (ak st) .none kV doc pm an bC ct),gE⟩)
    (c : PySem.W.codeIn K bC qual = true) (k : PySem.W.keepIn K (.ref f) = true) : bt K x qual st f (PySem.W.fnOf x qual (aX st) (aI st) (ak st) .none kV doc pm an bC ct) := ⟨⟨oc,od,kV,doc,pm,an,bC,ct,gE,rfl,l,c⟩,k⟩
end
theorem xx {A : Around} {k : Nat} (hr : cW k A) : A.units + 1 < cLine := Nat.lt_of_le_of_lt (Nat.add_le_add_left (by decide : 1 <= 64) _) hr.units
section
variable {X : Cx}
theorem pv (i : Nat) {x : Str} {pos : Pos} (hN : X.N[i]? = some x := by rfl) (hv : ip X.env.scope x := by first | exact Or.inl rfl | exact Or.inr (Or.inl rfl) | exact Or.inr (Or.inr rfl)) (hd : (x == ("__debug__" : Str)) = false := by decide)
    (fG : (x == ("__classdict__" : Str)) = false := by decide) : PE X (.Name x pos) (cP i) := ko hN hv hd fG
end
theorem kH {A B : Prop} (h : B) : if false = true then A else B := by
  rw [if_neg Bool.false_ne_true]
  exact h
theorem kI {A B : Prop} (h : A) : if true = true then A else B := by
  rw [if_pos rfl]
  exact h
def ao (H H' : Hp) : Prop := ∀ b o,H b = some o -> H' b = some o
theorem ao.refl (H : Hp) : ao H H := fun _ _ h => h
theorem ao.trans {H H1 H2 : Hp} (a : ao H H1) (b : ao H1 H2) : ao H H2 := fun c o h => b c o (a c o h)
theorem ao.free {H H' : Hp} (e : ao H H') {l : Addr} (h : H' l = Option.none) : H l = Option.none := by
  cases q : H l with
  | none => rfl
  | some o =>
    rw [e l o q] at h
    cases h
theorem ao.seq {K : PySem.W.Frag} {H H' : Hp} {a : Addr} {xs : List V} (e : ao H H') (h : aN K H a xs) : aN K H' a xs := by
  rcases h with (h | ⟨o,h⟩) | h
  · exact .inl (.inl (e _ _ h))
  · exact .inl (.inr ⟨o,e _ _ h⟩)
  · exact .inr h
end L2
namespace L2
open PySem PySem.Spec PyProof.Rows
abbrev ck : Value -> Shared -> Prop := fun _ _ => False
theorem yR {α : Type} {M : Model} {A : Around} {m : Sem α} {Q : α -> Shared -> Prop} {E : Value -> Shared -> Prop} {s : Shared} (h : wpAny M A m Q ck s) : wpAny M A m Q E s :=
  wpAny_mono h (fun _ _ q => q) fun _ _ z => z.elim
abbrev i9 (ifs : List Expr) (env : Env) : Sem Bool :=
  forIn ifs true fun c r => if r = true then do let ok <- isTrue c env (eval c env); pure (ForInStep.yield ok) else pure (ForInStep.yield r)
theorem E3 {P : Program} {w : World} {A : Around} {R : Result -> Shared -> Prop} {s : Shared} {elt tg iter : Expr} {ifs : List Expr} {sc : Scope} {pos : Pos} {it acc : Value} {env : Env} (I : Nat -> Shared -> Prop)
    (turn : ∀ n s,I n s -> wpAny (model P w) A (pyNext it) (fun r s1 => match r with
      | none => R (.ok .next) s1
      | some v => wpAny (model P w) A (letOwnedTupleGo tg it v) (fun _ s2 => wpAny (model P w) A (assign tg env v) (fun _ s3 =>
          wpAny (model P w) A (i9 ifs env) (fun ok s4 => if ok = true then wpAny (model P w) A (eval elt env) (fun x s5 =>
              wpAny (model P w) A (call (.builtin "list.append") [acc,x]) (fun _ s6 => ∃ m,m < n /\ I m s6) ck s5) ck s4
            else ∃ m,m < n /\ I m s4) ck s3) ck s2) ck s1) ck s)
    (n : Nat) (h : I n s) : codeAny (model P w) A (.compLoop (.ListComp elt [⟨tg,iter,ifs,0⟩] sc pos) 0 it acc env) R s := by
  refine codeAny_loop rfl I (fun n s hI => ?_) n h
  show wpAny (model P w) A ((compTurn (.ListComp elt [⟨tg,iter,ifs,0⟩] sc pos) 0 it acc env).onRaise (fun x => do noteFrame x env; theTreesLotGoes x)) _ _ s
  refine wpAny_noted (yR ?_)
  rw [compTurn_list]
  refine wpAny_bind (wpAny_standAt (wpAny_bind (az (turn n s hI) fun r s1 h1 => ?_)))
  cases r with
  | none => exact wpAny_pure h1
  | some v =>
    refine wpAny_bind (az h1 fun _ s2 h2 => wpAny_bind (az h2 fun _ s3 h3 => wpAny_bind (az h3 fun ok s4 h4 => ?_)))
    cases ok with
    | false => exact wpAny_pure ⟨rfl,h4⟩
    | true => exact wpAny_bind (wpAny_bind (az h4 fun x s5 h5 => wpAny_bind (az h5 fun _ s6 h6 => wpAny_pure (wpAny_pure ⟨rfl,h6⟩))))
theorem oQ : ∀ (names : List (Str × NameKind)) (n : Nat) (acc : List (Str × Addr)) (y : Str),(∃ c,acc.lookup y = some c) -> ∃ c,(cellsFrom n names acc).lookup y = some c
  | [],_,_,_,h => h
  | (name,kind) :: r,n,acc,y,⟨c,h⟩ => by
    unfold cellsFrom
    split
    · refine oQ r _ _ y ?_
      rw [List.lookup_cons]
      split
      · exact ⟨_,rfl⟩
      · exact ⟨c,h⟩
    · exact oQ r _ _ y ⟨c,h⟩
theorem so : ∀ (names : List (Str × NameKind)) (n : Nat) (acc : List (Str × Addr)) (y : Str),(y,NameKind.cell) ∈ names -> ∃ c,(cellsFrom n names acc).lookup y = some c
  | [],_,_,_,h => nomatch h
  | (name,kind) :: r,n,acc,y,h => by
    unfold cellsFrom
    rcases List.mem_cons.mp h with e | h
    · cases e
      rw [if_pos (by decide)]
      exact oQ r _ _ _ ⟨n,by rw [List.lookup_cons_self]⟩
    · split
      · exact so r _ _ y h
      · exact so r _ _ y h
theorem oA : ∀ (names : List (Str × NameKind)) (n : Nat) (acc : List (Str × Addr)) (y : Str) (c : Addr),(cellsFrom n names acc).lookup y = some c -> acc.lookup y = some c \/ (n <= c /\ (y,NameKind.cell) ∈ names)
  | [],_,_,_,_,h => .inl h
  | (name,kind) :: r,n,acc,y,c,h => by
    unfold cellsFrom at h
    split at h
    · rename_i hk
      rcases oA r _ _ y c h with q | ⟨q1,q2⟩
      · rw [List.lookup_cons] at q
        split at q
        · rename_i hy
          cases q
          rw [beq_iff_eq.mp hy,<- beq_iff_eq.mp hk]
          exact .inr ⟨Nat.le_refl _,.head _⟩
        · exact .inl q
      · exact .inr ⟨Nat.le_of_succ_le q1,.tail _ q2⟩
    · rcases oA r _ _ y c h with q | ⟨q1,q2⟩
      · exact .inl q
      · exact .inr ⟨q1,.tail _ q2⟩
theorem wJ : ∀ (names : List (Str × NameKind)) (n : Nat) (acc : List (Str × Addr)) (y : Str),(y,NameKind.cell) ∉ names -> (cellsFrom n names acc).lookup y = acc.lookup y
  | [],_,_,_,_ => rfl
  | (name,kind) :: r,n,acc,y,h => by
    unfold cellsFrom
    have hr : (y,NameKind.cell) ∉ r := fun z => h (.tail _ z)
    split
    · rename_i hk
      rw [wJ r _ _ y hr,List.lookup_cons]
      split
      · rename_i hy
        exact absurd (show (y,NameKind.cell) ∈ (name,kind) :: r by rw [beq_iff_eq.mp hy,<- beq_iff_eq.mp hk]; exact .head _) h
      · rfl
    · exact wJ r _ _ y hr
theorem wK : ∀ (names : List (Str × NameKind)) (n : Nat) (acc : List (Str × Addr)),(∀ y c,acc.lookup y = some c -> c < n) -> (∀ y z c,acc.lookup y = some c -> acc.lookup z = some c -> y = z) ->
    ∀ y z c,(cellsFrom n names acc).lookup y = some c -> (cellsFrom n names acc).lookup z = some c -> y = z
  | [],_,_,_,h => h
  | (name,kind) :: r,n,acc,h1,h2 => by
    unfold cellsFrom
    split
    · refine wK r _ _ (fun y c e => ?_) fun y z c e e' => ?_
      · rw [List.lookup_cons] at e
        split at e
        · cases e; exact Nat.lt_succ_self _
        · exact Nat.lt_succ_of_lt (h1 y c e)
      · rw [List.lookup_cons] at e e'
        split at e
        · rename_i hy
          cases e
          split at e'
          · rename_i hz
            rw [beq_iff_eq.mp hy,beq_iff_eq.mp hz]
          · exact absurd (h1 z _ e') (Nat.lt_irrefl _)
        · split at e'
          · cases e'
            exact absurd (h1 y _ e) (Nat.lt_irrefl _)
          · exact h2 y z c e e'
    · exact wK r _ _ h1 h2
theorem rS : ∀ (names : List (Str × NameKind)) (h : Heap) (acc : List (Str × Addr)) (y : Str) (c : Addr),(cellsFrom h.objs.size names acc).lookup y = some c -> acc.lookup y = some c \/ (pushCells h names).IsCell c none
  | [],_,_,_,_,e => .inl e
  | (name,kind) :: r,h,acc,y,c,e => by
    unfold cellsFrom at e
    unfold pushCells
    split
    · rename_i hk
      rw [if_pos hk] at e
      rw [show h.objs.size + 1 = (h.push { cls := .type "cell",data := .cell none }).objs.size from (Heap.size_push ..).symm] at e
      rcases rS r _ _ y c e with q | q
      · rw [List.lookup_cons] at q
        split at q
        · cases q
          exact .inr (Heap.IsCell.keeps ⟨_,Heap.get?_push_size _ rfl,rfl⟩ (pushCells_keeps r _))
        · exact .inl q
      · exact .inr q
    · rename_i hk
      rw [if_neg hk] at e
      exact rS r _ _ y c e
theorem Cd {M : Model} {A : Around} {E : Value -> Shared -> Prop} {s : Shared} {scope : Scope} {globals : Addr} {cl : List (Str × Addr)} {qual : Str} {func : Option Addr} {code : Value} {env : Env} {builtins : Addr} {Q : Env -> Shared -> Prop}
    (hQ : Q (newEnv scope s.heap.objs.size globals (cellsFrom (s.heap.objs.size + 1) scope.names cl) qual func code (some env) builtins) { s with heap := pushCells (s.heap.push { cls := .type "dict",data := .dict #[] }) scope.names }) :
    wpAny M A (newFunctionEnv scope globals cl [] qual func code (some env) builtins) Q E s := by
  simp only [newFunctionEnv,Option.isSome_some,if_true]
  refine wpAny_bind (wpAny_alloc ?_)
  refine wpAny_bind (wpAny_layCells _ (fun name kind cells => by cases XR : kind == NameKind.cell <;> simp [XR]) _ _ _ _ ?_)
  rw [show ({ s with heap := s.heap.push { cls := .type "dict",data := .dict #[] } } : Shared).heap.objs.size = s.heap.objs.size + 1 from Heap.size_push ..]
  rw [List.forIn_nil]
  exact wpAny_bind (wpAny_pure (wpAny_pure hQ))
def cB (X : Cx) (own : List Str) (fr : List Nat) (sc : Scope) (cl : List (Str × Addr)) (C : Addr) (s : Shared) (H : Hp) (ex : List Addr) (pn : List (Addr × Obj)) : Cx where
  prog := X.prog
  w := X.w
  K := X.K
  mg := X.mg
  base := X.base
  A := X.A
  N := own ++ fr.map fun j => X.N.getD j ""
  cO := s
  pR := H
  env := compEnvC sc (cellsFrom (C + 1) sc.names cl) C X.env
  outer := X.stack
  stack := X.stack
  ex := ex
  fn := fun y => (cl.lookup y).isNone
  calm := X.calm
  pn := pn
  xe := ck
def oR (own : List Str) (fr : List Nat) (σ : St) : St := own.map (fun _ => none) ++ fr.map fun j => (σ[j]?).join
structure hG (X : Cx) (sc : Scope) (cl : List (Str × Addr)) (fr : List Nat) : Prop where
  HB : closureFor sc X.env = pure cl
  kind : sc.kind = .function
  cells : ∀ y,(y,NameKind.cell) ∈ sc.names -> cl.lookup y = none
  names : ∀ y ∈ sc.names,y.2 = .local -> sc.names.lookup y.1 = some .local
  sub : ∀ y c,cl.lookup y = some c -> X.env.cells.lookup y = some c
  has : ∀ y,((relabel sc X.env).names.lookup y = some .cell \/ (relabel sc X.env).names.lookup y = some .free) -> (∃ c,cl.lookup y = some c) \/ (y,NameKind.cell) ∈ sc.names
  XS : ∀ j ∈ fr,∃ y,X.N[j]? = some y /\ ((relabel sc X.env).names.lookup y = some .cell \/ (relabel sc X.env).names.lookup y = some .free) /\ ip X.env.scope y /\ X.env.scope.names.lookup y ≠ some .local /\ ∃ c,cl.lookup y = some c
def tO (wi : TI) (g : TG) (tt : TT) (te : TE) (own : List Str) (fr : List Nat) : TE := fun σ H Q => wi σ H fun J H1 => ∀ acc,H1 acc = none ->
  ∃ W : Nat -> Nat -> List V -> St -> Hp -> Prop,(∃ m,W 0 m [] (oR own fr σ) (upd H1 acc (.lst []))) /\ ∀ i m ys aE H2,W i m ys aE H2 -> H2 acc = some (.lst ys) /\ ys.length < sizeLine /\
    ((J.stop i H2 /\ Q (.ref acc) H2) \/ (J.go i H2 /\ ∃ N : List V -> St -> Hp -> Prop,(∀ zs bG H3,N zs bG H3 -> ∃ m',m' < m /\ W (i + 1) m' zs bG H3) /\
      ∀ x H3,J.nL i H2 x H3 -> g x aE H3 fun bG H4 => tt bG H4 fun b H5 => if b = true then te bG H5 (fun y H6 => H6 acc = some (.lst ys) /\ N (ys ++ [y]) bG (upd H6 acc (.lst (ys ++ [y])))) else N ys bG H5))
theorem O9 {N : List Str} {j : Nat} {y : Str} (h : N[j]? = some y) : N.getD j "" = y := by rw [List.getD_eq_getElem?_getD,h]; rfl
theorem lcInv {X : Cx} {pins : List (Addr × Obj)} {σ : St} {H : Hp} {s : Shared} {sc : Scope} {cl : List (Str × Addr)} {own : List Str} {fr : List Nat} {fp : List Addr} {h4 : Heap} {tk : Nat}
    (L : hG X sc cl fr) (I : Inv X pins σ H s) (tP : ∀ b ∈ fp,gy X pins H b) (aZ : ∀ b ∈ fp,b < s.heap.objs.size) (iB : h4.Ns s.heap.objs.size fun _ => none)
    (kp : ∀ b o,s.heap.get? b = some o -> h4.get? b = some o) (kW : ∀ y c,(cellsFrom (s.heap.objs.size + 1) sc.names cl).lookup y = some c -> cl.lookup y = some c \/ h4.IsCell c none) : Inv (cB X own fr sc cl s.heap.objs.size s H fp (X.pn ++ pins)) [] (oR own fr σ) H { s with heap := h4,toks := tk } := by
  have XT : ∀ {b : Addr} {o : Obj},s.heap.get? b = some o -> b ≠ s.heap.objs.size := fun e => Nat.ne_of_lt (Heap.lt_size e)
  have hex : ∀ b ∈ (cB X own fr sc cl s.heap.objs.size s H fp (X.pn ++ pins)).ex,b ∈ fp := fun b z => z
  have kQ : ∀ b,b ≠ X.env.locals -> b ∉ X.fs -> b ∉ cU X.stack := fun b h1 h2 z => (List.mem_cons.mp (I.o9 b z)).elim h1 h2
  have E4 : ∀ y c,cl.lookup y = some c -> ∃ v,s.heap.IsCell c v := fun y c e => I.cell y c (L.sub y c e)
  have split : ∀ y c,(cellsFrom (s.heap.objs.size + 1) sc.names cl).lookup y = some c -> cl.lookup y = some c \/ s.heap.objs.size + 1 <= c := fun y c e => (oA _ _ _ y c e).imp id And.left
  refine ⟨⟨I.ok.mod,L.kind,I.ok.glob,I.ok.blt,Nat.le_refl _,wK _ _ _ (fun y c e => by obtain ⟨v,q⟩ := E4 y c e; exact Nat.lt_succ_of_lt q.lt) (fun y z c h1 h2 => I.ok.inj y z c (L.sub y c h1) (L.sub z c h2)),fun y hy => (L.has y hy).elim (oQ _ _ _ y) (so _ _ _ y),fun y c hy e => ?_,I.ok.hd,I.ok.frames,.inl rfl,
      fun b hb => ⟨Nat.ne_of_lt (aZ b (hex b hb)),fun y c e => (split y c e).elim (fun q => (tP b (hex b hb)).2.2.2.2.1 y c (L.sub y c q)) fun q => Nat.ne_of_gt (Nat.lt_of_lt_of_le (aZ b (hex b hb)) (Nat.le_of_succ_le q))⟩,I.bs,Nat.le_trans I.ok.kR I.sz,fun b o e z => ?_,fun b z => ?_,I.stack,I.DY⟩,
    rfl,I.bare,Un.kept kp,⟨_,iB,fun i y v h1 h2 h3 => ?_⟩,fun y c e => ?_,I.ay.fresh (Nat.le_refl _),fun y c e => (split y c e).elim (fun q => I.iP y c (L.sub y c q)) fun q => I.ay.fresh (Nat.le_of_succ_le q),fun p hp => ?_,I.ay.kept kp,?_⟩
  · have cD : (cl.lookup y).isNone = true := hy
    rcases split y c e with q | q
    · rw [q] at cD
      cases cD
    · exact Nat.le_of_succ_le q
  · rcases (tP b (hex b z)).2.2.2.1 with q | q
    · exact I.ok.pS b o e q
    · exact absurd (Nat.lt_of_lt_of_le (Heap.lt_size (I.ok.bs b o e).1) q) (Nat.lt_irrefl _)
  · exact kQ b (tP b (hex b z)).2.1 (tP b (hex b z)).2.2.1
  · have nP : (own ++ fr.map fun j => X.N.getD j "")[i]? = some y := h1
    have ju : (own.map (fun _ => none) ++ fr.map fun j => (σ[j]?).join)[i]? = some (some v) := h2
    by_cases hi : i < own.length
    · rw [List.getElem?_append_left (by simpa using hi),List.getElem?_map] at ju
      cases q : own[i]? with
      | none => rw [q] at ju; cases ju
      | some z => rw [q] at ju; cases ju
    · rw [List.getElem?_append_right (by omega),List.getElem?_map] at nP
      rw [List.getElem?_append_right (by simpa using hi),List.getElem?_map,List.length_map] at ju
      cases q : fr[i - own.length]? with
      | none => rw [q] at nP; cases nP
      | some j =>
        rw [q] at nP ju
        obtain ⟨y',n1,n2,n3,n4,c',e'⟩ := L.XS j (List.mem_of_getElem? q)
        have ey : y' = y := by
          have this : X.N.getD j "" = y := Option.some.inj nP
          rw [O9 n1] at this
          exact this
        subst ey
        have ev : σ[j]? = some (some v) := by
          have z : (σ[j]?).join = some v := Option.some.inj ju
          cases q2 : σ[j]? with
          | none => rw [q2] at z; cases z
          | some o => rw [q2] at z; exact congrArg some z
        obtain ⟨m,_,hl⟩ := I.loc
        obtain ⟨u,r,l⟩ := hl j y' v n1 ev n3
        refine ⟨u,r,.inr ⟨n2,?_⟩⟩
        rcases l with ⟨k,_⟩ | ⟨_,c,e,z⟩
        · exact absurd k n4
        · have := L.sub y' c' e'
          rw [e] at this
          cases this
          obtain ⟨o,ho,hd⟩ := z
          exact ⟨_,(wJ _ _ _ y' fun z => by rw [L.cells y' z] at e'; cases e').trans e',o,kp _ o ho,hd⟩
  · rcases kW y c e with q | q
    · obtain ⟨v,o,ho,hd⟩ := E4 y c q
      exact ⟨v,o,kp c o ho,hd⟩
    · exact ⟨none,q⟩
  · have XU : p ∈ X.pn ++ pins := by
      have z : p ∈ (X.pn ++ pins) ++ [] := hp
      simpa using z
    obtain ⟨e,n,ne,nf,d⟩ := I.pin p XU
    exact ⟨kp _ _ e,n,XT e,kQ _ ne nf,d⟩
  · show (own.map (fun _ => (none : Option V)) ++ fr.map fun j => (σ[j]?).join).length = (own ++ fr.map fun j => X.N.getD j "").length
    simp
theorem GF {X : Cx} {elt tg iter : Expr} {ifs : List Expr} {sc : Scope} {cl : List (Str × Addr)} {own : List Str} {fr : List Nat} {pos : Pos} {wi : TI} {g : TG} {tt : TT} {te : TE}
    (L : hG X sc cl fr) (hc : X.calm = true) (hi : PI X tg iter wi)
    (hg : ∀ C s H ex pn,PG (cB X own fr sc cl C s H ex pn) tg g)
    (ht : ∀ C s H ex pn (pins : List (Addr × Obj)) (s1 : Shared) (aE : St) (H1 : Hp) (Q : Bool -> Hp -> Prop),Inv (cB X own fr sc cl C s H ex pn) pins aE H1 s1 -> tt aE H1 Q ->
      wpAny (model X.prog X.w) X.A (i9 ifs (compEnvC sc (cellsFrom (C + 1) sc.names cl) C X.env)) (TP (cB X own fr sc cl C s H ex pn) pins aE Q) ck s1)
    (he : ∀ C s H ex pn,PE (cB X own fr sc cl C s H ex pn) elt te) (hs : ∀ x,foldedSetIterable iter X.env x = pure x := by intro _; rfl) :
    PE X (.ListComp elt [⟨tg,iter,ifs,0⟩] sc pos) (tO wi g tt te own fr) := by
  intro pins s σ H Q I h
  rw [eval_ListComp]
  refine wpAny_comprehension_free (use := none) rfl hs L.HB L.kind L.names (az (hi pins s σ H _ I h) fun v s1 h1 => az h1 fun tH s2 h2 => ?_)
  obtain ⟨it,fp,tn,J,H2,e,I2,T,aG,f2,h2⟩ := h2
  subst e
  refine wpAny_newObj_type ?_
  have I3 : Inv X pins σ (upd H2 s2.heap.objs.size (.lst [])) { s2 with heap := s2.heap.push { cls := .type "list",data := .seq ([] : List Value).toArray } } := I2.yi (t' := s2.toks) .nil (Nat.zero_le _)
  have n2 : H2 s2.heap.objs.size = none := I2.fresh
  obtain ⟨W,⟨m0,w0⟩,turn⟩ := h2 _ n2
  have qv : ∀ b ∈ fp,b < s2.heap.objs.size := fun b hb => by
    obtain ⟨o,eo,_⟩ := T.obj 0 _ aG b hb
    exact Heap.lt_size eo
  have cR : ∀ b ∈ fp,gy X pins (upd H2 s2.heap.objs.size (.lst [])) b := fun b hb => ⟨by rw [bh (Nat.ne_of_lt (qv b hb))]; exact (f2 b hb).1,(f2 b hb).2⟩
  generalize gG : ({ s2 with heap := s2.heap.push { cls := .type "list",data := .seq ([] : List Value).toArray } } : Shared) = s3 at I3
  have cY : tn 0 s3.heap := by
    rw [<- gG]
    exact T.keep 0 _ _ aG fun b hb o eo => Heap.get?_push_of_some _ eo
  have kX : ∀ b ∈ fp,b < s3.heap.objs.size := fun b hb => by
    obtain ⟨o,eo,_⟩ := T.obj 0 _ cY b hb
    exact Heap.lt_size eo
  generalize yS : upd H2 s2.heap.objs.size (.lst []) = H3 at I3 cR w0
  generalize s2.heap.objs.size = acc at turn w0 yS ⊢
  refine Cd ?_
  have iB : (pushCells (s3.heap.push { cls := .type "dict",data := .dict #[] }) sc.names).Ns s3.heap.objs.size fun _ => none := (Heap.Ns.new s3.heap (.type "dict")).keeps (pushCells_keeps _ _)
  have kp : ∀ b o,s3.heap.get? b = some o -> (pushCells (s3.heap.push { cls := .type "dict",data := .dict #[] }) sc.names).get? b = some o := fun b o eo => pushCells_keeps _ _ b o (Heap.get?_push_of_some _ eo)
  have kW : ∀ y c,(cellsFrom (s3.heap.objs.size + 1) sc.names cl).lookup y = some c -> cl.lookup y = some c \/ (pushCells (s3.heap.push { cls := .type "dict",data := .dict #[] }) sc.names).IsCell c none := fun y c e =>
    rS sc.names (s3.heap.push { cls := .type "dict",data := .dict #[] }) cl y c (by rw [Heap.size_push]; exact e)
  generalize XW : pushCells (s3.heap.push { cls := .type "dict",data := .dict #[] }) sc.names = h4 at iB kp kW
  have I4 := lcInv (own := own) (tk := s3.toks) L I3 cR kX iB kp kW
  have qw : tn 0 h4 := T.keep 0 _ _ cY fun b hb o eo => kp b o eo
  have stat : ∀ {H' : Hp},(∀ b ∈ fp,H' b = none) -> ∀ b ∈ fp,gy (cB X own fr sc cl s3.heap.objs.size s3 H3 fp (X.pn ++ pins)) [] H' b := fun {H'} hn b hb =>
    ⟨hn b hb,Nat.ne_of_lt (kX b hb),fun z => (List.mem_cons.mp (I3.o9 b z)).elim (cR b hb).2.1 (cR b hb).2.2.1,.inl hb,fun y c e => (oA _ _ _ y c e).elim (fun q => (cR b hb).2.2.2.2.1 y c (L.sub y c q)) fun q => Nat.ne_of_gt (Nat.lt_of_lt_of_le (kX b hb) (Nat.le_of_succ_le q.1)),fun p hp => (cR b hb).2.2.2.2.2 p (by
      have z : p ∈ (X.pn ++ pins) ++ [] := hp
      simpa using z)⟩
  have loop : codeAny (model X.prog X.w) X.A (.compLoop (.ListComp elt [⟨tg,iter,ifs,0⟩] sc pos) 0 (.ref it) (.ref acc) (compEnvC sc (cellsFrom (s3.heap.objs.size + 1) sc.names cl) s3.heap.objs.size X.env))
      (compPost (model X.prog X.w) X.A X.xe none (EP X pins σ Q) (.ref acc) s3.heap.objs.size) { s3 with heap := h4,toks := s3.toks } := by
    refine E3 (fun n s' => ∃ i ys aE H1,Inv (cB X own fr sc cl s3.heap.objs.size s3 H3 fp (X.pn ++ pins)) [] aE H1 s' /\ tn i s'.heap /\ (∀ b ∈ fp,H1 b = none) /\ W i n ys aE H1) ?_ m0 ⟨0,[],_,H3,I4,qw,fun b hb => (cR b hb).1,w0⟩
    rintro n s5 ⟨i,ys,jv,H5,I5,jt,kU,w5⟩
    obtain ⟨eJ,hlen,hh⟩ := turn i n ys jv H5 w5
    rcases hh with ⟨stop,qn⟩ | ⟨go,N,hN,step⟩
    · refine az (T.done (cB X own fr sc cl s3.heap.objs.size s3 H3 fp (X.pn ++ pins)) rfl rfl rfl hc i [] s5 jv H5 ck I5 (stat kU) jt stop) fun r s6 ⟨hr,I6⟩ => ?_
      subst hr
      obtain ⟨m6,yT,_⟩ := id I6.loc
      refine ⟨m6,yT,fun h7 jw => ⟨.ref acc,H5,?_,rfl,qn⟩⟩
      have old : ∀ b o,s3.heap.get? b = some o -> b ≠ s3.heap.objs.size := fun b o eo => Nat.ne_of_lt (Heap.lt_size eo)
      have u6 : Un (cU X.stack) fp H3 H5 s3.heap s6.heap := I6.base
      have u7 : Un (cU X.stack) fp H3 H5 s3.heap h7 :=
        ⟨fun b o eo nn hb hx => (jw.2 b (old b o eo)).trans (u6.keep b o eo nn hb hx),fun b o eo nn hb hx => by
          obtain ⟨sl,q⟩ := u6.slot b o eo nn hb hx
          exact ⟨sl,(jw.2 b (old b o eo)).trans q⟩,u6.free,fun b o eo hx => by
          obtain ⟨o',q⟩ := u6.there b o eo hx
          exact ⟨o',(jw.2 b (old b o eo)).trans q⟩,u6.iR,u6.ic,u6.iS⟩
      have fC : H5 s3.heap.objs.size = none := I6.free
      have yo : bO X.prog X.w H5 h7 := fun b ob eb => by
        refine (I6.ay b ob eb).jf (fun c w' g9 q => (jw.2 c ?_).trans q) (fun _ q => q) fun _ _ q => q
        rintro rfl
        rcases g9 with z | z
        · rw [<- z,fC] at eb; cases eb
        · rw [fC] at z; cases z
      exact I3.Gi (s' := { s6 with heap := h7 }) I6.os u7 yo I6.bare fun b hb => ⟨(cR b hb).2.2.2.1,(cR b hb).2.1,(cR b hb).2.2.2.2.1,(cR b hb).2.2.2.2.2⟩
    · refine az (T.item (cB X own fr sc cl s3.heap.objs.size s3 H3 fp (X.pn ++ pins)) rfl rfl rfl hc i [] s5 jv H5 ck I5 (stat kU) jt go) fun r s6 ⟨u,hr,h6⟩ => ?_
      subst hr
      refine az h6 fun _ s7 ⟨x,H7,I7,r7,y7,kY,yU⟩ => ?_
      have yV := I7.pinned (stat yU) (T.obj _ _ kY)
      refine az (hg _ _ _ _ _ _ s7 jv H7 x u _ yV r7 (step x H7 y7)) fun _ s8 ⟨jx,H8,I8,q8⟩ => ?_
      have again : ∀ {zs : List V} {iC : St} {H9 : Hp} {s9 : Shared},Inv (cB X own fr sc cl s3.heap.objs.size s3 H3 fp (X.pn ++ pins)) ([] ++ mS fp s7.heap) iC H9 s9 -> N zs iC H9 ->
          ∃ m,m < n /\ ∃ i ys aE H1,Inv (cB X own fr sc cl s3.heap.objs.size s3 H3 fp (X.pn ++ pins)) [] aE H1 s9 /\ tn i s9.heap /\ (∀ b ∈ fp,H1 b = none) /\ W i m ys aE H1 := fun {zs iC H9 s9} I9 n9 => by
        obtain ⟨m',hm,w9⟩ := hN zs iC H9 n9
        refine ⟨m',hm,i + 1,zs,iC,H9,I9.oJ,T.keep _ _ _ kY fun b hb o e => (I9.pin (b,o) (List.mem_append_right _ (List.mem_append_right _ (mj hb e)))).1,fun b hb => ?_,w9⟩
        obtain ⟨o,e,d⟩ := T.obj _ _ kY b hb
        exact (I9.pin (b,o) (List.mem_append_right _ (List.mem_append_right _ (mj hb e)))).2.1
      refine az (ht _ _ _ _ _ _ s8 jx H8 _ I8 q8) fun ok s9 ⟨H9,I9,q9⟩ => ?_
      cases ok with
      | false => exact again I9 (by simpa using q9)
      | true =>
        refine az (he _ _ _ _ _ _ s9 jx H9 _ I9 q9) fun z yW ⟨y,yX,yY,yZ,kZ,y3⟩ => ?_
        refine az (rC _ yW jx yX (.ref acc) [y] (.ref acc) [z] (fun _ H' => N (ys ++ [y]) jx H') yY rfl (.cons yZ .nil) ⟨acc,ys,y,rfl,rfl,kZ,hlen,y3⟩) fun _ XX ⟨_,XY,y4,_,y6⟩ => again y4 y6
  rw [<- gG] at loop ⊢
  exact codeAny_compStart_list loop (yR (T.self _ 0 _ _ _ qw (by rw [gG]; rw [gG] at loop; exact loop)))
end L2
namespace L2
open PySem PySem.Spec PyProof.Rows
theorem Pa {n : Int} {k : Nat} (h : n.natAbs < 2 ^ k) (hk : 0 < k) : n.natAbs.log2 < k := by
  by_cases z : n.natAbs = 0
  · rw [z]
    show Nat.log2 0 < k
    rw [Nat.log2_zero]
    exact hk
  · exact (Nat.log2_lt z).mpr h
section
variable {X : Cx}
def GH (i j : Int) : Prop := i.natAbs < 2 ^ 8000 /\ j.natAbs < 2 ^ 8000
theorem Pb : cI X (binaryOp .Mult) (rI GH fun i j => .int (i * j)) := yL fun _ _ _ _ _ _ _ hc q =>
  mul_int q (IntMulOk.of_le (intBits_le_iff.mpr hc.1) (intBits_le_iff.mpr hc.2) (by decide))
def pG (_ j : Int) : Prop := 0 < j /\ j.natAbs < 2 ^ 8000
theorem NV : cI X (binaryOp .FloorDiv) (rI pG fun i j => .int (i / j)) := yL fun i j _ _ _ _ _ hc q => by
  have h1 : (0 : Int) < j := hc.1
  refine floordiv_int (by omega) (by rw [Int.fdiv_eq_ediv_of_nonneg i (by omega)]; exact q) (.inl (PyProof.noPylong_of_log2 ?_))
  exact Nat.lt_trans (Pa hc.2 (by decide)) (by decide)
theorem ME {hi c : Int} (h0 : 0 <= hi) (h1 : hi < 2 ^ 30) (c0 : 0 < c) (c1 : c < 2 ^ 30) : Builtin.Range.small 0 hi c = true := by
  unfold Builtin.Range.small
  rw [rangeSize_pos (by omega) h0]
  have a0 : 0 <= (hi + c - 1) / c := Int.ediv_nonneg (by omega) (by omega)
  have a1 : (hi + c - 1) / c * c <= hi + c - 1 := Int.ediv_mul_le _ (by omega)
  have a2 : (hi + c - 1) / c <= hi + c - 1 := Int.ediv_le_self _ (by omega)
  have a3 : (0 : Int) <= (hi + c - 1) / c * c := Int.mul_nonneg a0 (by omega)
  have cc : c > 0 := c0
  simp only [Builtin.Range.rangeFitsLong,Bool.and_eq_true,Bool.or_eq_true,decide_eq_true_eq,beq_iff_eq,cc,if_true]
  generalize (hi + c - 1) / c * c = p at *
  generalize (hi + c - 1) / c = q at *
  omega
end
end L2
namespace L2
open PySem PySem.Spec PyProof.Rows
inductive Dv where
  | fl (v : V)
  | lst (ds : List Dv)
  | tup (ds : List Dv)
mutual
def cE : Dv -> Dv -> Bool
  | .fl x,.fl y => eQ x y
  | .lst a,.lst b => fc a b
  | .tup a,.tup b => fc a b
  | _,_ => false
def fc : List Dv -> List Dv -> Bool
  | [],[] => true
  | x :: r,y :: q => cE x y && fc r q
  | _,_ => false
end
mutual
def fJ : Dv -> Nat
  | .fl _ => 0
  | .lst a => cQ a + 1
  | .tup a => cQ a + 1
def cQ : List Dv -> Nat
  | [] => 0
  | x :: r => max (fJ x) (cQ r)
end
mutual
def Hv (K : PySem.W.Frag) (H : Hp) : Dv -> V -> Prop
  | .fl v,x => x = v /\ dR v = true
  | .lst ds,x => ∃ a xs,x = .ref a /\ aN K H a xs /\ aP K H ds xs
  | .tup ds,x => ∃ a xs,x = .ref a /\ cH K H a xs /\ aP K H ds xs
def aP (K : PySem.W.Frag) (H : Hp) : List Dv -> List V -> Prop
  | [],xs => xs = []
  | d :: ds,xs => ∃ x r,xs = x :: r /\ Hv K H d x /\ aP K H ds r
end
theorem Dc {v : V} (h : dR v = true) : eQ v v = true := by
  cases v <;> first | rfl | (simp [eQ]; done) | (exact absurd h (by decide)) | (cases h)
section
variable {X : Cx} {pins : List (Addr × Obj)} {σ : St} {H : Hp} {s : Shared}
theorem Dd (I : Inv X pins σ H s) {a : Addr} {xs ys : List V} (h1 : aN X.K H a xs) (h2 : cH X.K H a ys) : False := by
  obtain ⟨i1,_,p1,_⟩ := I.list h1
  obtain ⟨i2,_,p2,_⟩ := I.tuple h2
  exact SeqAt.ne_of_list_tuple p1.isList p2 rfl
mutual
theorem v5 (I : Inv X pins σ H s) : ∀ (d e : Dv) (x : V),Hv X.K H d x -> Hv X.K H e x -> cE d e = true
  | .fl v,.fl w,x,h1,h2 => by
    obtain ⟨rfl,f⟩ := h1
    obtain ⟨rfl,_⟩ := h2
    exact Dc f
  | .fl v,.lst es,x,h1,h2 => by
    obtain ⟨rfl,f⟩ := h1
    obtain ⟨a,xs,rfl,_⟩ := h2
    cases f
  | .fl v,.tup es,x,h1,h2 => by
    obtain ⟨rfl,f⟩ := h1
    obtain ⟨a,xs,rfl,_⟩ := h2
    cases f
  | .lst ds,.fl v,x,h2,h1 => by
    obtain ⟨rfl,f⟩ := h1
    obtain ⟨a,xs,rfl,_⟩ := h2
    cases f
  | .tup ds,.fl v,x,h2,h1 => by
    obtain ⟨rfl,f⟩ := h1
    obtain ⟨a,xs,rfl,_⟩ := h2
    cases f
  | .lst ds,.lst es,x,h1,h2 => by
    obtain ⟨a,xs,rfl,q,r⟩ := h1
    obtain ⟨b,ys,e,q',r'⟩ := h2
    cases e
    have := I.C9 q q'
    subst this
    exact vF I ds es xs r r'
  | .tup ds,.tup es,x,h1,h2 => by
    obtain ⟨a,xs,rfl,q,r⟩ := h1
    obtain ⟨b,ys,e,q',r'⟩ := h2
    cases e
    have := I.MY q q'
    subst this
    exact vF I ds es xs r r'
  | .lst ds,.tup es,x,h1,h2 => by
    obtain ⟨a,xs,rfl,q,r⟩ := h1
    obtain ⟨b,ys,e,q',r'⟩ := h2
    cases e
    exact (Dd I q q').elim
  | .tup ds,.lst es,x,h1,h2 => by
    obtain ⟨a,xs,rfl,q,r⟩ := h1
    obtain ⟨b,ys,e,q',r'⟩ := h2
    cases e
    exact (Dd I q' q).elim
theorem vF (I : Inv X pins σ H s) : ∀ (ds es : List Dv) (xs : List V),aP X.K H ds xs -> aP X.K H es xs -> fc ds es = true
  | [],[],_,_,_ => rfl
  | [],e :: es,xs,h1,h2 => by
    obtain rfl : xs = [] := h1
    obtain ⟨x,r,z,_⟩ := h2
    cases z
  | d :: ds,[],xs,h1,h2 => by
    obtain rfl : xs = [] := h2
    obtain ⟨x,r,z,_⟩ := h1
    cases z
  | d :: ds,e :: es,xs,h1,h2 => by
    obtain ⟨x,r,rfl,a,b⟩ := h1
    obtain ⟨x',r',z,a',b'⟩ := h2
    cases z
    show (cE d e && fc ds es) = true
    rw [v5 I d e x a a',vF I ds es r b b']
    rfl
end
theorem aP.length {K : PySem.W.Frag} {H : Hp} : ∀ {ds : List Dv} {xs : List V},aP K H ds xs -> ds.length = xs.length
  | [],xs,h => by
    obtain rfl : xs = [] := h
    rfl
  | d :: ds,xs,h => by
    obtain ⟨x,r,rfl,_,b⟩ := h
    rw [List.length_cons,List.length_cons,aP.length b]
theorem kc : ∀ {ds es : List Dv},ds.length ≠ es.length -> fc ds es = false
  | [],[],h => absurd rfl h
  | [],_ :: _,_ => rfl
  | _ :: _,[],_ => rfl
  | d :: ds,e :: es,h => by
    show (cE d e && fc ds es) = false
    rw [kc (ds := ds) (es := es) (by simpa using h),Bool.and_false]
def gS (ds es : List Dv) (j : Nat) : Bool := match ds[j]?,es[j]? with
  | some d,some e => cE d e
  | _,_ => false
theorem j8 : ∀ {ds es : List Dv},ds.length = es.length -> (List.range ds.length).all (gS ds es) = fc ds es
  | [],[],_ => rfl
  | [],_ :: _,h => by cases h
  | _ :: _,[],h => by cases h
  | d :: ds,e :: es,h => by
    rw [List.length_cons,List.range_succ_eq_map,List.all_cons,List.all_map]
    show (cE d e && (List.range ds.length).all (gS (d :: ds) (e :: es) ∘ Nat.succ)) = (cE d e && fc ds es)
    congr 1
    exact j8 (ds := ds) (es := es) (by simpa using h)
mutual
theorem Q0 (I : Inv X pins σ H s) : ∀ (d e : Dv) (A : Around) (x y : V) (u v : Value),A.units + fJ d < cLine -> Hv X.K H d x -> Hv X.K H e y -> RelV x u -> RelV y v -> SeqAt.EqAt A s u v (cE d e)
  | .fl a,.fl b,A,x,y,u,v,hu,h1,h2,rx,ry => by
    obtain ⟨rfl,f1⟩ := h1
    obtain ⟨rfl,f2⟩ := h2
    exact E1 rx ry f1 f2
  | .fl a,.lst es,A,x,y,u,v,hu,h1,h2,rx,ry => by
    obtain ⟨rfl,f1⟩ := h1
    obtain ⟨b,ys,rfl,q,r⟩ := h2
    cases ry
    obtain ⟨its,_,pl,_⟩ := I.list q
    have aW : A.units < cLine := hu
    cases x with
    | aM => cases rx; exact SeqAt.EqAt.none_list pl.isList aW
    | bl c => cases rx; exact SeqAt.EqAt.bool_list c pl.isList aW
    | int c => obtain ⟨t,rfl⟩ := rx; exact SeqAt.EqAt.int_list c t pl.isList aW
    | str c => obtain ⟨t,rfl⟩ := rx; exact SeqAt.EqAt.str_list c t pl.isList aW
    | _ => cases f1
  | .fl a,.tup es,A,x,y,u,v,hu,h1,h2,rx,ry => by
    obtain ⟨rfl,f1⟩ := h1
    obtain ⟨b,ys,rfl,q,r⟩ := h2
    cases ry
    obtain ⟨its,_,pl,_⟩ := I.tuple q
    have aW : A.units < cLine := hu
    cases x with
    | aM => cases rx; exact SeqAt.EqAt.none_tuple pl aW
    | bl c => cases rx; exact SeqAt.EqAt.bool_tuple c pl aW
    | int c => obtain ⟨t,rfl⟩ := rx; exact SeqAt.EqAt.int_tuple c t pl aW
    | str c => obtain ⟨t,rfl⟩ := rx; exact SeqAt.EqAt.str_tuple c t pl aW
    | _ => cases f1
  | .lst ds,.fl b,A,x,y,u,v,hu,h1,h2,rx,ry => by
    obtain ⟨rfl,f2⟩ := h2
    obtain ⟨a,xs,rfl,q,r⟩ := h1
    cases rx
    obtain ⟨its,_,pl,_⟩ := I.list q
    have aW : A.units < cLine := Nat.lt_of_le_of_lt (Nat.le_add_right _ _) hu
    cases y with
    | aM => cases ry; exact SeqAt.EqAt.list_none pl.isList aW
    | bl c => cases ry; exact SeqAt.EqAt.list_bool c pl.isList aW
    | int c => obtain ⟨t,rfl⟩ := ry; exact SeqAt.EqAt.list_int c t pl.isList aW
    | str c => obtain ⟨t,rfl⟩ := ry; exact SeqAt.EqAt.list_str c t pl.isList aW
    | _ => cases f2
  | .tup ds,.fl b,A,x,y,u,v,hu,h1,h2,rx,ry => by
    obtain ⟨rfl,f2⟩ := h2
    obtain ⟨a,xs,rfl,q,r⟩ := h1
    cases rx
    obtain ⟨its,_,pl,_⟩ := I.tuple q
    have aW : A.units < cLine := Nat.lt_of_le_of_lt (Nat.le_add_right _ _) hu
    cases y with
    | aM => cases ry; exact SeqAt.EqAt.tuple_none pl aW
    | bl c => cases ry; exact SeqAt.EqAt.tuple_bool c pl aW
    | int c => obtain ⟨t,rfl⟩ := ry; exact SeqAt.EqAt.tuple_int c t pl aW
    | str c => obtain ⟨t,rfl⟩ := ry; exact SeqAt.EqAt.tuple_str c t pl aW
    | _ => cases f2
  | .lst ds,.tup es,A,x,y,u,v,hu,h1,h2,rx,ry => by
    obtain ⟨a,xs,rfl,q,r⟩ := h1
    obtain ⟨b,ys,rfl,q',r'⟩ := h2
    cases rx
    cases ry
    obtain ⟨_,_,p1,_⟩ := I.list q
    obtain ⟨_,_,p2,_⟩ := I.tuple q'
    exact SeqAt.EqAt.list_tuple p1.isList p2 (Nat.lt_of_le_of_lt (Nat.le_add_right _ _) hu)
  | .tup ds,.lst es,A,x,y,u,v,hu,h1,h2,rx,ry => by
    obtain ⟨a,xs,rfl,q,r⟩ := h1
    obtain ⟨b,ys,rfl,q',r'⟩ := h2
    cases rx
    cases ry
    obtain ⟨_,_,p1,_⟩ := I.tuple q
    obtain ⟨_,_,p2,_⟩ := I.list q'
    exact SeqAt.EqAt.tuple_list p1 p2.isList (Nat.lt_of_le_of_lt (Nat.le_add_right _ _) hu)
  | .lst ds,.lst es,A,x,y,u,v,hu,h1,h2,rx,ry => by
    obtain ⟨a,xs,rfl,q,r⟩ := id h1
    obtain ⟨b,ys,rfl,q',r'⟩ := id h2
    cases rx
    cases ry
    by_cases nQ : a = b
    · subst nQ
      rw [v5 I _ _ _ h1 h2]
      exact SeqAt.EqAt.same _
    obtain ⟨i1,v1,p1,_⟩ := I.list q
    obtain ⟨i2,v2,p2,_⟩ := I.list q'
    have aW : A.units < cLine := Nat.lt_of_le_of_lt (Nat.le_add_right _ _) hu
    have l1 := r.length
    have l2 := r'.length
    have m1 := v1.length
    have m2 := v2.length
    refine .of_refs nQ ?_
    show SeqAt.RcAt A s (.ref a) (.ref b) (fc ds es)
    by_cases hl : ds.length = es.length
    · have z := SeqAt.RcAt.lists (e := gS ds es) p1.isList p2.isList (by simp; omega) aW (fun j g1 g2 => ki I ds es A.in1 xs ys i1 i2 (by show A.units + 1 + cQ ds < cLine; have : A.units + (cQ ds + 1) < cLine := hu; omega) r r' v1 v2 j (by simpa using g1) (by simpa using g2))
      rw [List.size_toArray,<- m1,<- l1,j8 hl] at z
      exact z
    · rw [kc hl]
      exact .lists_lengths p1.isList p2.isList (by simp; omega) aW
  | .tup ds,.tup es,A,x,y,u,v,hu,h1,h2,rx,ry => by
    obtain ⟨a,xs,rfl,q,r⟩ := id h1
    obtain ⟨b,ys,rfl,q',r'⟩ := id h2
    cases rx
    cases ry
    by_cases nQ : a = b
    · subst nQ
      rw [v5 I _ _ _ h1 h2]
      exact SeqAt.EqAt.same _
    obtain ⟨i1,v1,p1,_⟩ := I.tuple q
    obtain ⟨i2,v2,p2,_⟩ := I.tuple q'
    have aW : A.units < cLine := Nat.lt_of_le_of_lt (Nat.le_add_right _ _) hu
    have l1 := r.length
    have l2 := r'.length
    have m1 := v1.length
    have m2 := v2.length
    refine .of_refs nQ ?_
    show SeqAt.RcAt A s (.ref a) (.ref b) (fc ds es)
    have z := SeqAt.RcAt.tuples (e := gS ds es) p1 p2 aW (fun j g1 g2 => ki I ds es A.in1 xs ys i1 i2 (by show A.units + 1 + cQ ds < cLine; have : A.units + (cQ ds + 1) < cLine := hu; omega) r r' v1 v2 j (by simpa using g1) (by simpa using g2))
    have zz : ((List.range (min i1.toArray.size i2.toArray.size)).all (gS ds es) && i1.toArray.size == i2.toArray.size) = fc ds es := by
      rw [List.size_toArray,List.size_toArray,<- m1,<- m2,<- l1,<- l2]
      by_cases hl : ds.length = es.length
      · rw [hl,Nat.min_self,<- hl,j8 hl]; simp [hl]
      · rw [kc hl,beq_eq_false_iff_ne.mpr hl,Bool.and_false]
    rw [zz] at z
    exact z
theorem ki (I : Inv X pins σ H s) : ∀ (ds es : List Dv) (A : Around) (xs ys : List V) (us vs : List Value),A.units + cQ ds < cLine -> aP X.K H ds xs -> aP X.K H es ys -> Vals xs us -> Vals ys vs ->
    ∀ (j : Nat) (h1 : j < us.length) (h2 : j < vs.length),SeqAt.EqAt A s us[j] vs[j] (gS ds es j)
  | [],es,A,xs,ys,us,vs,hu,h1,h2,r1,r2,j,g1,g2 => by
    obtain rfl : xs = [] := h1
    cases r1
    exact absurd g1 (Nat.not_lt_zero _)
  | d :: ds,[],A,xs,ys,us,vs,hu,h1,h2,r1,r2,j,g1,g2 => by
    obtain rfl : ys = [] := h2
    cases r2
    exact absurd g2 (Nat.not_lt_zero _)
  | d :: ds,e :: es,A,xs,ys,us,vs,hu,h1,h2,r1,r2,j,g1,g2 => by
    obtain ⟨x,r,rfl,a,b⟩ := h1
    obtain ⟨y,q,rfl,a',b'⟩ := h2
    cases r1 with
    | cons c1 t1 => cases r2 with
      | cons c2 t2 =>
        have hm : cQ (d :: ds) = max (fJ d) (cQ ds) := rfl
        rw [hm] at hu
        cases j with
        | zero => exact Q0 I d e A x y _ _ (Nat.lt_of_le_of_lt (Nat.add_le_add_left (Nat.le_max_left _ _) _) hu) a a' c1 c2
        | succ j => exact ki I ds es A r q _ _ (Nat.lt_of_le_of_lt (Nat.add_le_add_left (Nat.le_max_right _ _) _) hu) b b' t1 t2 j (by simpa using g1) (by simpa using g2)
end
def pV (K : PySem.W.Frag) (neg : Bool) : R2 := fun x y H Q => ∃ d e,((∃ ds es,d = .lst ds /\ e = .lst es) \/ ∃ ds es,d = .tup ds /\ e = .tup es) /\ Hv K H d x /\ Hv K H e y /\ fJ d <= 50 /\ Q (.bl (if neg then !cE d e else cE d e)) H
theorem E5 (hr : X.A.units + 64 < cLine) : cI X (compareOp .Eq) (pV X.K false) := by
  intro pins s σ H x y v u Q I rx ry h
  obtain ⟨d,e,hk,h1,h2,hd,q⟩ := h
  have aW : X.A.units < cLine := by omega
  rcases hk with ⟨ds,es,rfl,rfl⟩ | ⟨ds,es,rfl,rfl⟩
  · obtain ⟨a,xs,rfl,q1,r⟩ := h1
    obtain ⟨b,ys,rfl,q2,r'⟩ := h2
    cases rx
    cases ry
    obtain ⟨i1,v1,p1,_⟩ := I.list q1
    obtain ⟨i2,v2,p2,_⟩ := I.list q2
    have l1 := r.length
    have l2 := r'.length
    have m1 := v1.length
    have m2 := v2.length
    have qf : cQ ds + 1 <= 50 := hd
    by_cases hl : ds.length = es.length
    · refine SeqAt.eq_listAt (e := gS ds es) p1.isList p2.isList (by simp; omega) aW (fun j g1 g2 => ki I ds es X.A.in1 xs ys i1 i2 (by show X.A.units + 1 + cQ ds < cLine; omega) r r' v1 v2 j (by simpa using g1) (by simpa using g2)) ?_
      rw [List.size_toArray,<- m1,<- l1,j8 hl]
      exact ⟨.bl _,H,I,rfl,q⟩
    · refine SeqAt.eq_list_lengthsAt p1.isList p2.isList (by simp; omega) aW ⟨.bl _,H,I,rfl,?_⟩
      have z : cE (.lst ds) (.lst es) = false := kc hl
      rw [z] at q
      exact q
  · obtain ⟨a,xs,rfl,q1,r⟩ := h1
    obtain ⟨b,ys,rfl,q2,r'⟩ := h2
    cases rx
    cases ry
    obtain ⟨i1,v1,p1,_⟩ := I.tuple q1
    obtain ⟨i2,v2,p2,_⟩ := I.tuple q2
    have l1 := r.length
    have l2 := r'.length
    have m1 := v1.length
    have m2 := v2.length
    have qf : cQ ds + 1 <= 50 := hd
    refine SeqAt.eq_tupleAt (e := gS ds es) p1 p2 aW (fun j g1 g2 => ki I ds es X.A.in1 xs ys i1 i2 (by show X.A.units + 1 + cQ ds < cLine; omega) r r' v1 v2 j (by simpa using g1) (by simpa using g2)) ⟨.bl _,H,I,rfl,?_⟩
    have zz : ((List.range (min i1.toArray.size i2.toArray.size)).all (gS ds es) && i1.toArray.size == i2.toArray.size) = fc ds es := by
      rw [List.size_toArray,List.size_toArray,<- m1,<- m2,<- l1,<- l2]
      by_cases hl : ds.length = es.length
      · rw [hl,Nat.min_self,<- hl,j8 hl]; simp [hl]
      · rw [kc hl,beq_eq_false_iff_ne.mpr hl,Bool.and_false]
    rw [zz]
    exact q
theorem Q1 (hr : X.A.units + 64 < cLine) : cI X (compareOp .NotEq) (pV X.K true) := by
  intro pins s σ H x y v u Q I rx ry h
  obtain ⟨d,e,hk,h1,h2,hd,q⟩ := h
  have aW : X.A.units < cLine := by omega
  rcases hk with ⟨ds,es,rfl,rfl⟩ | ⟨ds,es,rfl,rfl⟩
  · obtain ⟨a,xs,rfl,q1,r⟩ := h1
    obtain ⟨b,ys,rfl,q2,r'⟩ := h2
    cases rx
    cases ry
    obtain ⟨i1,v1,p1,_⟩ := I.list q1
    obtain ⟨i2,v2,p2,_⟩ := I.list q2
    have l1 := r.length
    have l2 := r'.length
    have m1 := v1.length
    have m2 := v2.length
    have qf : cQ ds + 1 <= 50 := hd
    by_cases hl : ds.length = es.length
    · refine SeqAt.RcNeAt.lists (e := gS ds es) p1.isList p2.isList (by simp; omega) aW (fun j g1 g2 => ki I ds es X.A.in1 xs ys i1 i2 (by show X.A.units + 1 + cQ ds < cLine; omega) r r' v1 v2 j (by simpa using g1) (by simpa using g2)) _ _ _ _ ?_
      rw [List.size_toArray,<- m1,<- l1,j8 hl]
      exact ⟨.bl _,H,I,rfl,q⟩
    · refine SeqAt.RcNeAt.lists_lengths p1.isList p2.isList (by simp; omega) aW _ _ _ _ ⟨.bl _,H,I,rfl,?_⟩
      have z : cE (.lst ds) (.lst es) = false := kc hl
      rw [z] at q
      exact q
  · obtain ⟨a,xs,rfl,q1,r⟩ := h1
    obtain ⟨b,ys,rfl,q2,r'⟩ := h2
    cases rx
    cases ry
    obtain ⟨i1,v1,p1,_⟩ := I.tuple q1
    obtain ⟨i2,v2,p2,_⟩ := I.tuple q2
    have l1 := r.length
    have l2 := r'.length
    have m1 := v1.length
    have m2 := v2.length
    have qf : cQ ds + 1 <= 50 := hd
    refine SeqAt.RcNeAt.tuples (e := gS ds es) p1 p2 aW (fun j g1 g2 => ki I ds es X.A.in1 xs ys i1 i2 (by show X.A.units + 1 + cQ ds < cLine; omega) r r' v1 v2 j (by simpa using g1) (by simpa using g2)) _ _ _ _ ⟨.bl _,H,I,rfl,?_⟩
    have zz : ((List.range (min i1.toArray.size i2.toArray.size)).all (gS ds es) && i1.toArray.size == i2.toArray.size) = fc ds es := by
      rw [List.size_toArray,List.size_toArray,<- m1,<- m2,<- l1,<- l2]
      by_cases hl : ds.length = es.length
      · rw [hl,Nat.min_self,<- hl,j8 hl]; simp [hl]
      · rw [kc hl,beq_eq_false_iff_ne.mpr hl,Bool.and_false]
    rw [zz]
    exact q
end
end L2
namespace L2
open PySem PySem.Spec PyProof.Rows
structure nC (K : PySem.W.Frag) (x qual : Str) (st : Stmt) (dV : Value) (f : Addr) (fd : FuncData) : Prop where
  ex : ∃ (oc : Value) (od : Option Addr) (kV doc pm : Value) (an : Option Addr) (bC ct : Value) (gE : Array (Option Value)),
    fd = PySem.W.fnOf x qual (aX st) (aI st) (ak st) dV kV doc pm an bC ct /\ K.lookup f = some ⟨oc,od,.func fd,gE⟩ /\ PySem.W.codeIn K bC qual = true
  kp : PySem.W.keepIn K (.ref f) = true
structure Kn (P : Program) (w : World) (K : PySem.W.Frag) (mg : Str -> Option Value) (base : Heap) (CX : fS) (k : Nat) (x : Str) (f : Addr) (fd : FuncData) (ps : List Str) (sp : Sp) : Prop where
  ok : aR P w K mg base CX k f fd ps sp
  Jn : mg x = some (.ref f)
  kp : PySem.W.keepIn K (.ref f) = true
  bd : Binds K fd ps []
section
variable {P : Program} {w : World} {K : PySem.W.Frag} {mg : Str -> Option Value} {base : Heap}
theorem nC.ok {x qual : Str} {st : Stmt} {dV : Value} {f : Addr} {fd : FuncData} {N ps : List Str} {k : Nat} {sp : Sp} (F : nC K x qual st dV f fd) (S : bq N ps (ak st)) (len : ∀ vs H Q E,sp vs H Q E -> vs.length = ps.length)
    (xu : ∀ (bC : Value) (A : Around) (outer : List Env) (s : Shared) (H : Hp) (vs : List V) (Q : VK) (E : XK),cW k (A.deeper (envOfC qual (ak st) s.heap.objs.size f bC)) -> sp vs H Q E ->
      ∃ t,eM (jh au P w K mg base N qual (ak st) f bC A outer s H E).qk (aI st) t /\ t { nx := fun _ H' => Q .aM H',rt := Q } (start N vs) H) : aR P w K mg base au (k + 1) f fd ps sp := by
  obtain ⟨oc,od,kV,doc,pm,an,bC,ct,gE,rfl,lk,fG⟩ := F.ex
  refine Sa lk fG S len fun A outer s H vs Q E hr jZ => ?_
  obtain ⟨t,h,q⟩ := xu bC A outer s H vs Q E hr jZ
  exact ⟨t,h.qk,q⟩
theorem Pg {x qual : Str} {st : Stmt} {dV : Value} {f : Addr} {oc : Value} {od an : Option Addr} {gE : Array (Option Value)} {kV doc pm bC ct : Value} (l : K.lookup f = some ⟨oc,od,.func (PySem.W.fnOf x qual (aX st) (aI st) (ak st) dV kV doc pm an bC ct),gE⟩)
    (c : PySem.W.codeIn K bC qual = true) (k : PySem.W.keepIn K (.ref f) = true) : nC K x qual st dV f (PySem.W.fnOf x qual (aX st) (aI st) (ak st) dV kV doc pm an bC ct) := ⟨⟨oc,od,kV,doc,pm,an,bC,ct,gE,rfl,l,c⟩,k⟩
end
section
variable {X : Cx} {CX : fS} {k : Nat} {f : Addr} {fd : FuncData} {ps : List Str} {sp : Sp} {E : XK} {x : Str} {p pos : Pos} {e : Expr} {es : List Expr} {t : TA}
theorem GI (F : Kn X.prog X.w X.K X.mg X.base au k x f fd ps sp) (hr : cW k X.A) (hg : Gl X x) (ha : PA X (e :: es) t) (fH : (x == ("__debug__" : Str)) = false := by decide)
    (he : starEach (e :: es) X.env = (false,eval e X.env) :: starEach es X.env := by rfl) (fh : (backTo pos (starEach es X.env)).any (·.1) = false := by rfl) :
    PE X (.Call (.Name x p) (e :: es) [] pos) (ng sp [] E0 t) := D6 F.ok hr hg F.Jn F.kp F.bd .nil GD ha fH he fh
end
section
variable {K : PySem.W.Frag} {g : TG} {tb : TS} {D : Ends} {σ : St} {H : Hp}
theorem Nb {j : Nat} {a : Addr} {xs : List V} (hj : σ[j]? = some (some (.ref a))) (hx : aN K H a xs) (Pv : Nat -> St -> Hp -> Prop) (h0 : Pv 0 σ H) (hk : ∀ i σ H,i <= xs.length -> Pv i σ H -> aN K H a xs)
    (hs : ∀ i x σ H,xs[i]? = some x -> Pv i σ H -> g x σ H fun bG H2 => tb { D with nx := Pv (i + 1),ct := Pv (i + 1),bk := D.nx } bG H2) (hd : ∀ σ H,Pv xs.length σ H -> D.nx σ H) : sU (pE K (cP j)) g tb D σ H :=
  ⟨_,hj,a,rfl,⟨xs,hx⟩,NP Pv h0 hk hs hd⟩
end
def GJ (K : PySem.W.Frag) : R2 := fun x y H Q => ∃ l b xs zs,x = .ref l /\ y = .ref b /\ aN K H l xs /\ aN K H b zs /\ xs.length + zs.length <= sizeLine /\ ∀ p,H p = none -> Q (.ref p) (upd H p (.lst (xs ++ zs)))
end L2
namespace L2
open PySem PySem.Spec PyProof.Rows
section
variable {Y : Cx} {c : Expr} {tt : TT}
theorem GK (pins : List (Addr × Obj)) (s1 : Shared) (aE : St) (H1 : Hp) (Q : Bool -> Hp -> Prop) (I : Inv Y pins aE H1 s1) (h : Q true H1) : wpAny (model Y.prog Y.w) Y.A (i9 [] Y.env) (TP Y pins aE Q) ck s1 :=
  wpAny_pure ⟨H1,I,h⟩
theorem Sf (ht : PT Y c tt) (hx : Y.xe = ck) (pins : List (Addr × Obj)) (s1 : Shared) (aE : St) (H1 : Hp) (Q : Bool -> Hp -> Prop) (I : Inv Y pins aE H1 s1) (h : tt aE H1 Q) : wpAny (model Y.prog Y.w) Y.A (i9 [c] Y.env) (TP Y pins aE Q) ck s1 := by
  have z := ht pins s1 aE H1 Q I h
  rw [hx] at z
  unfold i9
  rw [List.forIn_cons]
  simp only [if_true]
  refine wpAny_bind (wpAny_bind (az z fun b s2 q => wpAny_pure ?_))
  exact wpAny_pure q
end
def rT : TT := fun _ H Q => Q true H
section
variable {X : Cx}
theorem Ph : cI X (binaryOp .Add) (GJ X.K) := by
  intro pins s σ H x y v u Q I rx ry h
  obtain ⟨l,b,xs,zs,rfl,rfl,hH,hB,hz,q⟩ := h
  cases rx
  cases ry
  obtain ⟨its,r,⟨⟨cl,dd,da,sl⟩,n,e,c1,c2,d1⟩,z⟩ := I.list hH
  obtain ⟨fD,r2,⟨⟨cl2,XZ,da2,y8⟩,n2,e2,c3,c4,d2⟩,z2⟩ := I.list hB
  simp only at c1 d1 c3 d2
  subst c1 d1 c3 d2
  have l1 := r.length
  have l2 := r2.length
  refine concat_meets ⟨_,e,rfl⟩ ⟨_,e2,rfl⟩ noFill_list_add seq_list_add PySem.F.slot_list_add PySem.F.entry_list_add (PySem.F.args_list_add_2 _ _) (list_addW l b its.toArray fD.toArray n n2 dd XZ sl y8 (by simp; omega)) ⟨e,e2,?_⟩
  have ea : its.toArray ++ fD.toArray = (its ++ fD).toArray := by simp
  rw [ea]
  exact ⟨.ref _,_,I.yi (t' := s.toks) (r.append r2) (by rw [List.length_append]; omega),rfl,q _ I.fresh⟩
end
end L2
namespace L2
open PySem
theorem Lk : bootBuiltins "isinstance" = some (.builtin "isinstance") := by decide +kernel
theorem Q2 : bootBuiltins "abs" = some (.builtin "abs") := by decide +kernel
theorem wL : bootBuiltins "len" = some (.builtin "len") := by decide +kernel
theorem CN : bootBuiltins "sorted" = some (.builtin "sorted") := by decide +kernel
theorem Q3 : bootBuiltins "any" = some (.builtin "any") := by decide +kernel
theorem E6 : bootBuiltins "int" = some (.type "int") := by decide +kernel
theorem Pj : bootBuiltins "bool" = some (.type "bool") := by decide +kernel
theorem v7 : bootBuiltins "list" = some (.type "list") := by decide +kernel
theorem NW : bootBuiltins "tuple" = some (.type "tuple") := by decide +kernel
theorem Q4 : bootBuiltins "zip" = some (.type "zip") := by decide +kernel
theorem LO : bootBuiltins "enumerate" = some (.type "enumerate") := by decide +kernel
end L2
namespace L2
open PySem PySem.Spec PyProof.Rows
def eI (cells : List (Str × Addr)) : List (Str × NameKind) -> List (Str × Addr) -> List (Str × Addr)
  | [],cs => cs
  | (n,k) :: r,cs => eI cells r (if k == .free then (n,(cells.lookup n).getD 0) :: cs else cs)
theorem Eb {sc : Scope} {env : Env} (h : ∀ p ∈ sc.names,p.2 = .free -> ∃ c,env.cells.lookup p.1 = some c) : closureFor sc env = pure (eI env.cells sc.names []) := by
  have key : ∀ (names : List (Str × NameKind)) (cs : List (Str × Addr)),(∀ p ∈ names,p.2 = .free -> ∃ c,env.cells.lookup p.1 = some c) ->
      (forIn names cs fun x t => match x with
        | (name,kind) => if (kind == NameKind.free) = true then do
              let a <- cellOf env name
              pure (ForInStep.yield ((name,a) :: t))
            else pure (ForInStep.yield t)) = (pure (eI env.cells names cs) : Sem (List (Str × Addr))) := by
    intro names
    induction names with
    | nil => intro cs _; rfl
    | cons p r ih =>
      intro cs hp
      obtain ⟨n,k⟩ := p
      rw [List.forIn_cons]
      cases hk : k == NameKind.free with
      | true =>
        obtain ⟨c,hc⟩ := hp (n,k) (.head _) (beq_iff_eq.mp hk)
        have g9 : env.cells.lookup n = some c := hc
        have e1 : cellOf env n = pure c := by unfold cellOf; rw [g9]
        have e2 : eI env.cells ((n,k) :: r) cs = eI env.cells r ((n,c) :: cs) := by
          show eI env.cells r (if (k == NameKind.free) = true then _ else _) = _
          rw [hk,g9,if_pos rfl]
          rfl
        rw [e2,<- ih ((n,c) :: cs) fun q hq => hp q (.tail _ hq)]
        simp only [hk,if_true,e1]
        rfl
      | false =>
        have e2 : eI env.cells ((n,k) :: r) cs = eI env.cells r cs := by
          show eI env.cells r (if (k == NameKind.free) = true then _ else _) = _
          rw [hk,if_neg (by decide)]
        rw [e2,<- ih cs fun q hq => hp q (.tail _ hq)]
        simp only [hk,Bool.false_eq_true,if_false]
        rfl
  simp only [closureFor]
  rw [key sc.names [] h]
  rfl
theorem vk {cells : List (Str × Addr)} : ∀ (names : List (Str × NameKind)) (cs : List (Str × Addr)),(∀ p ∈ names,p.2 = .free -> ∃ c,cells.lookup p.1 = some c) -> (∀ y c,cs.lookup y = some c -> cells.lookup y = some c) ->
    ∀ y c,(eI cells names cs).lookup y = some c -> cells.lookup y = some c
  | [],_,_,h => h
  | (n,k) :: r,cs,hp,h => by
    refine vk r _ (fun q hq => hp q (.tail _ hq)) fun y c e => ?_
    split at e
    · rename_i hk
      obtain ⟨c0,hc⟩ := hp (n,k) (.head _) (beq_iff_eq.mp hk)
      have g9 : cells.lookup n = some c0 := hc
      rw [List.lookup_cons] at e
      split at e
      · rename_i hy
        have : y = n := beq_iff_eq.mp hy
        subst this
        rw [g9] at e
        cases e
        exact g9
      · exact h y c e
    · exact h y c e
theorem Cy {cells : List (Str × Addr)} : ∀ (names : List (Str × NameKind)) (cs : List (Str × Addr)) (y : Str),(∃ c,cs.lookup y = some c) -> ∃ c,(eI cells names cs).lookup y = some c
  | [],_,_,h => h
  | (n,k) :: r,cs,y,⟨c,h⟩ => by
    refine Cy r _ y ?_
    split
    · rw [List.lookup_cons]
      split
      · exact ⟨_,rfl⟩
      · exact ⟨c,h⟩
    · exact ⟨c,h⟩
theorem j9 {cells : List (Str × Addr)} : ∀ (names : List (Str × NameKind)) (cs : List (Str × Addr)) (y : Str),(y,NameKind.free) ∈ names -> ∃ c,(eI cells names cs).lookup y = some c
  | [],_,_,h => nomatch h
  | (n,k) :: r,cs,y,h => by
    rcases List.mem_cons.mp h with e | h
    · have e1 : y = n := congrArg (·.1) e
      have e2 : NameKind.free = k := congrArg (·.2) e
      subst e1 e2
      refine Cy r _ _ ?_
      rw [if_pos (by decide),List.lookup_cons_self]
      exact ⟨_,rfl⟩
    · exact j9 r _ y h
theorem mem_of_lookup {κ β : Type} [BEq κ] [LawfulBEq κ] {l : List (κ × β)} {y : κ} {k : β} (h : l.lookup y = some k) : (y,k) ∈ l := by
  induction l with
  | nil => cases h
  | cons p r ih =>
    obtain ⟨n,b⟩ := p
    rw [List.lookup_cons] at h
    split at h
    · rename_i hy
      have : y = n := beq_iff_eq.mp hy
      subst this
      cases h
      exact .head _
    · exact .tail _ (ih h)
section
variable {CX : fS} {P : Program} {w : World} {K : PySem.W.Frag} {mg : Str -> Option Value} {base : Heap} {N : List Str} {qual : Str} {bP : Scope} {f : Addr} {cd : Value} {A : Around} {outer : List Env} {s : Shared} {H : Hp} {E : XK} {XE : Value -> Shared -> Prop}
structure Pk (N : List Str) (bP sc : Scope) (fr : List Nat) : Prop where
  kind : sc.kind = .function
  GL : bP.kind = .function
  Q5 : ∀ y ∈ sc.names,y.2 ≠ .cell
  loc : ∀ y ∈ sc.names,y.2 = .local -> sc.names.lookup y.1 = some .local
  lg : ∀ y ∈ sc.names,y.2 = .free -> bP.names.lookup y.1 = some .cell
  cU : ∀ j ∈ fr,sc.names.lookup (N.getD j "") = some .free /\ j < N.length
theorem lI {env : Env} : ∀ {names : List (Str × NameKind)} {y : Str} {k : NameKind},(names.map fun (n,k) => if (k == NameKind.free && env.scope.kind == .function && env.kindOf n == some .cell) then (n,NameKind.cell) else (n,k)).lookup y = some k ->
    ∃ k0,names.lookup y = some k0 /\ (k = k0 \/ (k = .cell /\ k0 = .free))
  | [],_,_,h => by cases h
  | (n,k0) :: r,y,k,h => by
    rw [List.map_cons] at h
    simp only at h
    split at h
    · rename_i hc
      rw [List.lookup_cons] at h ⊢
      split at h
      · cases h
        simp only [Bool.and_eq_true,beq_iff_eq] at hc
        exact ⟨k0,rfl,.inr ⟨rfl,hc.1.1⟩⟩
      · exact lI h
    · rw [List.lookup_cons] at h ⊢
      split at h
      · cases h
        exact ⟨k0,rfl,.inl rfl⟩
      · exact lI h
theorem oe {env : Env} : ∀ {names : List (Str × NameKind)} {y : Str},names.lookup y = some .free ->
    (names.map fun (n,k) => if (k == NameKind.free && env.scope.kind == .function && env.kindOf n == some .cell) then (n,NameKind.cell) else (n,k)).lookup y = some .cell \/
    (names.map fun (n,k) => if (k == NameKind.free && env.scope.kind == .function && env.kindOf n == some .cell) then (n,NameKind.cell) else (n,k)).lookup y = some .free
  | [],_,h => by cases h
  | (n,k0) :: r,y,h => by
    rw [List.map_cons]
    rw [List.lookup_cons] at h
    simp only
    split at h
    · rename_i hy
      cases h
      split
      · left; rw [List.lookup_cons,hy]
      · right; rw [List.lookup_cons,hy]
    · rename_i hy
      split
      · rw [List.lookup_cons,hy]; exact oe h
      · rw [List.lookup_cons,hy]; exact oe h
structure NX (N : List Str) (bP sc : Scope) (fr : List Nat) : Prop where
  kind : sc.kind = .function
  GL : bP.kind = .function
  own : ∀ y ∈ sc.names,y.2 = .cell -> ∀ z ∈ sc.names,z.2 = .free -> z.1 ≠ y.1
  loc : ∀ y ∈ sc.names,y.2 = .local -> sc.names.lookup y.1 = some .local
  lg : ∀ y ∈ sc.names,y.2 = .free -> bP.names.lookup y.1 = some .cell
  cU : ∀ j ∈ fr,sc.names.lookup (N.getD j "") = some .free /\ j < N.length
theorem ve {cells : List (Str × Addr)} : ∀ (names : List (Str × NameKind)) (cs : List (Str × Addr)) (y : Str),(∀ z ∈ names,z.2 = .free -> z.1 ≠ y) -> cs.lookup y = none -> (eI cells names cs).lookup y = none
  | [],_,_,_,h => h
  | (n,k) :: r,cs,y,hn,h => by
    refine ve r _ y (fun z hz => hn z (.tail _ hz)) ?_
    split
    · rename_i hk
      have qz : n ≠ y := hn (n,k) (.head _) (beq_iff_eq.mp hk)
      have hb : (y == n) = false := beq_eq_false_iff_ne.mpr fun e => qz e.symm
      rw [List.lookup_cons,hb]
      exact h
    · exact h
theorem uV {env : Env} : ∀ {names : List (Str × NameKind)} {y : Str},names.lookup y = some .cell ->
    (names.map fun (n,k) => if (k == NameKind.free && env.scope.kind == .function && env.kindOf n == some .cell) then (n,NameKind.cell) else (n,k)).lookup y = some .cell
  | [],_,h => by cases h
  | (n,k0) :: r,y,h => by
    rw [List.map_cons]
    rw [List.lookup_cons] at h
    simp only
    split at h
    · rename_i hy
      cases h
      rw [if_neg (by intro z; rw [Bool.and_eq_true,Bool.and_eq_true] at z; exact absurd z.1.1 (by decide)),List.lookup_cons,hy]
    · rename_i hy
      split
      · rw [List.lookup_cons,hy]; exact uV h
      · rw [List.lookup_cons,hy]; exact uV h
theorem yp {sc : Scope} {fr : List Nat} (L : NX N bP sc fr) : hG ((jh CX P w K mg base N qual bP f cd A outer s H E).gW XE) sc (eI (cellsFrom (s.heap.objs.size + 1) bP.names []) sc.names []) fr := by
  have jP : ∀ p ∈ sc.names,p.2 = .free -> ∃ c,(cellsFrom (s.heap.objs.size + 1) bP.names []).lookup p.1 = some c := fun p hp e => vE (L.lg p hp e)
  refine ⟨Eb jP,L.kind,fun y hy => ve _ _ y (L.own _ hy rfl) rfl,L.loc,vk _ _ jP (fun _ _ e => nomatch e),fun y hy => ?_,fun j hj => ?_⟩
  · have hk : sc.names.lookup y = some .free \/ sc.names.lookup y = some .cell := by
      rcases hy with hy | hy
      · obtain ⟨k0,h1,h2⟩ := lI hy
        rcases h2 with h2 | ⟨_,h2⟩
        · rw [<- h2] at h1; exact .inr h1
        · rw [h2] at h1; exact .inl h1
      · obtain ⟨k0,h1,h2⟩ := lI hy
        rcases h2 with h2 | ⟨h2,_⟩
        · rw [<- h2] at h1; exact .inl h1
        · cases h2
    exact hk.imp (fun q => j9 _ _ y (mem_of_lookup q)) mem_of_lookup
  · obtain ⟨h1,h2⟩ := L.cU j hj
    have hm := mem_of_lookup h1
    have h3 := L.lg _ hm rfl
    refine ⟨N.getD j "",?_,?_,.inr (.inl h3),?_,j9 _ _ _ hm⟩
    · show N[j]? = some (N.getD j "")
      rw [List.getD_eq_getElem?_getD,List.getElem?_eq_getElem h2]
      rfl
    · exact oe h1
    · intro z
      have z' : bP.names.lookup (N.getD j "") = some .local := z
      have y9 : bP.names.lookup (N.getD j "") = some .cell := h3
      rw [y9] at z'
      cases z'
theorem lcs {sc : Scope} {fr : List Nat} (L : Pk N bP sc fr) : hG ((jh CX P w K mg base N qual bP f cd A outer s H E).gW XE) sc (eI (cellsFrom (s.heap.objs.size + 1) bP.names []) sc.names []) fr :=
  yp ⟨L.kind,L.GL,fun y hy e => absurd e (L.Q5 y hy),L.loc,L.lg,L.cU⟩
end
structure De (N : List Str) (bP sc : Scope) (fr : List Nat) : Prop where
  kind : sc.kind = .function
  own : ∀ y ∈ sc.names,y.2 = .cell -> ∀ z ∈ sc.names,z.2 = .free -> z.1 ≠ y.1
  loc : ∀ y ∈ sc.names,y.2 = .local -> sc.names.lookup y.1 = some .local
  lg : ∀ y ∈ sc.names,y.2 = .free -> bP.names.lookup y.1 = some .cell \/ bP.names.lookup y.1 = some .free
  cU : ∀ j ∈ fr,sc.names.lookup (N.getD j "") = some .free /\ j < N.length
theorem S5 {X : Cx} {jk : List Str} {jy : List Nat} {bP : Scope} {j4 : List (Str × Addr)} {C : Addr} {s : Shared} {H : Hp} {ex : List Addr} {pn : List (Addr × Obj)} {sc : Scope} {fr : List Nat}
    (L : De (jk ++ jy.map fun j => X.N.getD j "") bP sc fr) (za : ∀ y,(y,NameKind.free) ∈ bP.names -> ∃ c,j4.lookup y = some c) :
    hG (cB X jk jy bP j4 C s H ex pn) sc (eI (cellsFrom (C + 1) bP.names j4) sc.names []) fr := by
  have jP : ∀ p ∈ sc.names,p.2 = .free -> ∃ c,(cellsFrom (C + 1) bP.names j4).lookup p.1 = some c := fun p hp e => by
    rcases L.lg p hp e with q | q
    · exact so _ _ _ _ (mem_of_lookup q)
    · exact oQ _ _ _ _ (za _ (mem_of_lookup q))
  refine ⟨Eb jP,L.kind,fun y hy => ve _ _ y (L.own _ hy rfl) rfl,L.loc,vk _ _ jP (fun _ _ e => nomatch e),fun y hy => ?_,fun j hj => ?_⟩
  · have hk : sc.names.lookup y = some .free \/ sc.names.lookup y = some .cell := by
      rcases hy with hy | hy
      · obtain ⟨k0,h1,h2⟩ := lI hy
        rcases h2 with h2 | ⟨_,h2⟩
        · rw [<- h2] at h1; exact .inr h1
        · rw [h2] at h1; exact .inl h1
      · obtain ⟨k0,h1,h2⟩ := lI hy
        rcases h2 with h2 | ⟨h2,_⟩
        · rw [<- h2] at h1; exact .inl h1
        · cases h2
    exact hk.imp (fun q => j9 _ _ y (mem_of_lookup q)) mem_of_lookup
  · obtain ⟨h1,h2⟩ := L.cU j hj
    have hm := mem_of_lookup h1
    have hv : (relabel bP X.env).names.lookup ((jk ++ jy.map fun j => X.N.getD j "").getD j "") = some .cell \/ (relabel bP X.env).names.lookup ((jk ++ jy.map fun j => X.N.getD j "").getD j "") = some .free := by
      rcases L.lg _ hm rfl with q | q
      · exact .inl (uV q)
      · exact oe q
    refine ⟨_,?_,oe h1,.inr hv,fun z => ?_,j9 _ _ _ hm⟩
    · show (jk ++ jy.map fun j => X.N.getD j "")[j]? = some _
      rw [List.getD_eq_getElem?_getD,List.getElem?_eq_getElem h2]
      rfl
    · have z' : (relabel bP X.env).names.lookup ((jk ++ jy.map fun j => X.N.getD j "").getD j "") = some .local := z
      rcases hv with q | q <;> rw [q] at z' <;> cases z'
section
variable {X : Cx} {K : PySem.W.Frag}
theorem Pl (h : X.K = K) : qm X (yg K) := h ▸ QX
theorem NY (h : X.K = K) : qm X (yf K) := h ▸ O6
theorem Nc (h : X.K = K) : eG X (.builtin "len") (fun xs H Q => ∃ p ys,xs = [.ref p] /\ (aN K H p ys \/ cH K H p ys) /\ Q (.int ys.length) H) := h ▸ Ca
end
end L2
namespace L2
open PySem PySem.Spec PyProof.Rows
theorem ao.tup {K : PySem.W.Frag} {H H' : Hp} {a : Addr} {xs : List V} (e : ao H H') (h : cH K H a xs) : cH K H' a xs := by
  rcases h with (h | ⟨o,h⟩) | h
  · exact .inl (.inl (e _ _ h))
  · exact .inl (.inr ⟨o,e _ _ h⟩)
  · exact .inr h
theorem ao.upd {H H' : Hp} {p : Addr} {o : HO} (e : ao H H') (hp : H p = none) : ao H (L2.upd H' p o) := fun b u h => by
  rw [bh (hC h hp)]; exact e b u h
theorem ao.new {H : Hp} {p : Addr} {o : HO} (hp : H p = none) : ao H (L2.upd H p o) := (ao.refl H).upd hp
theorem iO {a : Int} (h0 : 0 <= a) (h : a < 2 ^ 60) : a.natAbs < 2 ^ 8000 := by
  have big : (2 : Nat) ^ 60 < 2 ^ 8000 := Nat.pow_lt_pow_right (by decide) (by decide)
  omega
section
variable {P : Program} {w : World} {K : PySem.W.Frag} {mg : Str -> Option Value} {base : Heap}
theorem bt.d {x qual : Str} {st : Stmt} {f : Addr} {fd : FuncData} (F : bt K x qual st f fd) : nC K x qual st .none f fd := ⟨F.ex,F.kp⟩
end
end L2
namespace L2
open PySem PySem.Spec PyProof.Rows
section
variable {X : Cx} {tg : Expr}
theorem NZ {bs : List Bool} {its : List Value} (r : Vals (bs.map V.bl) its) : PyProof.Rows.LSm.BoolsAre its bs := by
  induction bs generalizing its with
  | nil => cases r; exact .nil
  | cons y ys ih =>
    cases r with
    | cons r1 rr =>
      cases r1
      exact .cons _ (ih rr)
end
end L2
namespace L2
open PySem PySem.Spec PyProof.Rows
inductive Tr where
  | fz (d : Dv)
  | ow (ts : List Tr)
  | tp (ts : List Tr)
mutual
def Ow (K : PySem.W.Frag) (G H : Hp) : Tr -> V -> List Addr -> Prop
  | .fz d,v,fp => fp = [] /\ Hv K G d v
  | .ow ts,v,fp => ∃ a vs fq,v = .ref a /\ H a = some (.lst vs) /\ aK K G H ts vs fq /\ fp = a :: fq
  | .tp ts,v,fp => ∃ a vs fq,v = .ref a /\ H a = some (.tup vs) /\ aK K G H ts vs fq /\ fp = a :: fq
def aK (K : PySem.W.Frag) (G H : Hp) : List Tr -> List V -> List Addr -> Prop
  | [],vs,fp => vs = [] /\ fp = []
  | t :: ts,vs,fp => ∃ v r f1 f2,vs = v :: r /\ fp = f1 ++ f2 /\ Ow K G H t v f1 /\ aK K G H ts r f2
end
mutual
def er : Tr -> Dv
  | .fz d => d
  | .ow ts => .lst (dW ts)
  | .tp ts => .tup (dW ts)
def dW : List Tr -> List Dv
  | [] => []
  | t :: ts => er t :: dW ts
end
theorem ja : ∀ ts : List Tr,dW ts = ts.map er
  | [] => rfl
  | t :: ts => by rw [dW,ja ts]; rfl
mutual
theorem Hv.mono {K : PySem.W.Frag} {G G' : Hp} (e : ao G G') : ∀ {d : Dv} {v : V},Hv K G d v -> Hv K G' d v
  | .fl _,_,h => h
  | .lst ds,_,⟨a,xs,h1,h2,h3⟩ => ⟨a,xs,h1,e.seq h2,aP.mono e h3⟩
  | .tup ds,_,⟨a,xs,h1,h2,h3⟩ => ⟨a,xs,h1,e.tup h2,aP.mono e h3⟩
theorem aP.mono {K : PySem.W.Frag} {G G' : Hp} (e : ao G G') : ∀ {ds : List Dv} {vs : List V},aP K G ds vs -> aP K G' ds vs
  | [],_,h => h
  | _ :: _,_,⟨x,r,h1,h2,h3⟩ => ⟨x,r,h1,h2.mono e,aP.mono e h3⟩
end
mutual
theorem Ow.mono {K : PySem.W.Frag} {G G' H H' : Hp} (e : ao G G') (e' : ao H H') : ∀ {t : Tr} {v : V} {fp : List Addr},Ow K G H t v fp -> Ow K G' H' t v fp
  | .fz _,_,_,⟨h1,h2⟩ => ⟨h1,h2.mono e⟩
  | .ow _,_,_,⟨a,vs,fq,h1,h2,h3,h4⟩ => ⟨a,vs,fq,h1,e' _ _ h2,aK.mono e e' h3,h4⟩
  | .tp _,_,_,⟨a,vs,fq,h1,h2,h3,h4⟩ => ⟨a,vs,fq,h1,e' _ _ h2,aK.mono e e' h3,h4⟩
theorem aK.mono {K : PySem.W.Frag} {G G' H H' : Hp} (e : ao G G') (e' : ao H H') : ∀ {ts : List Tr} {vs : List V} {fp : List Addr},aK K G H ts vs fp -> aK K G' H' ts vs fp
  | [],_,_,h => h
  | _ :: _,_,_,⟨v,r,f1,f2,h1,h2,h3,h4⟩ => ⟨v,r,f1,f2,h1,h2,h3.mono e e',aK.mono e e' h4⟩
end
mutual
theorem Ow.frame {K : PySem.W.Frag} {G H : Hp} {a : Addr} {o : HO} : ∀ {t : Tr} {v : V} {fp : List Addr},Ow K G H t v fp -> a ∉ fp -> Ow K G (upd H a o) t v fp
  | .fz _,_,_,h,_ => h
  | .ow _,_,_,⟨b,vs,fq,h1,h2,h3,h4⟩,n => by
    subst h4
    refine ⟨b,vs,fq,h1,?_,aK.frame h3 fun z => n (.tail _ z),rfl⟩
    rw [bh fun z => n (by rw [z]; exact .head _)]
    exact h2
  | .tp _,_,_,⟨b,vs,fq,h1,h2,h3,h4⟩,n => by
    subst h4
    refine ⟨b,vs,fq,h1,?_,aK.frame h3 fun z => n (.tail _ z),rfl⟩
    rw [bh fun z => n (by rw [z]; exact .head _)]
    exact h2
theorem aK.frame {K : PySem.W.Frag} {G H : Hp} {a : Addr} {o : HO} : ∀ {ts : List Tr} {vs : List V} {fp : List Addr},aK K G H ts vs fp -> a ∉ fp -> aK K G (upd H a o) ts vs fp
  | [],_,_,h,_ => h
  | _ :: _,_,_,⟨v,r,f1,f2,h1,h2,h3,h4⟩,n => by
    subst h2
    exact ⟨v,r,f1,f2,h1,rfl,h3.frame fun z => n (List.mem_append_left _ z),aK.frame h4 fun z => n (List.mem_append_right _ z)⟩
end
mutual
theorem Ow.there {K : PySem.W.Frag} {G H : Hp} : ∀ {t : Tr} {v : V} {fp : List Addr},Ow K G H t v fp -> ∀ a ∈ fp,∃ o,H a = some o
  | .fz _,_,_,⟨h,_⟩,a,ha => by subst h; cases ha
  | .ow _,_,_,⟨b,vs,fq,h1,h2,h3,h4⟩,a,ha => by
    subst h4
    rcases List.mem_cons.mp ha with rfl | ha
    · exact ⟨_,h2⟩
    · exact aK.there h3 a ha
  | .tp _,_,_,⟨b,vs,fq,h1,h2,h3,h4⟩,a,ha => by
    subst h4
    rcases List.mem_cons.mp ha with rfl | ha
    · exact ⟨_,h2⟩
    · exact aK.there h3 a ha
theorem aK.there {K : PySem.W.Frag} {G H : Hp} : ∀ {ts : List Tr} {vs : List V} {fp : List Addr},aK K G H ts vs fp -> ∀ a ∈ fp,∃ o,H a = some o
  | [],_,_,⟨_,h⟩,a,ha => by subst h; cases ha
  | _ :: _,_,_,⟨v,r,f1,f2,h1,h2,h3,h4⟩,a,ha => by
    subst h2
    rcases List.mem_append.mp ha with ha | ha
    · exact h3.there a ha
    · exact aK.there h4 a ha
end
mutual
theorem Ow.hv {K : PySem.W.Frag} {G H G' : Hp} (e : ao G G') : ∀ {t : Tr} {v : V} {fp : List Addr},Ow K G H t v fp -> (∀ a ∈ fp,G' a = H a) -> Hv K G' (er t) v
  | .fz _,_,_,⟨_,h⟩,_ => h.mono e
  | .ow _,_,_,⟨b,vs,fq,h1,h2,h3,h4⟩,q => by
    subst h4
    exact ⟨b,vs,h1,aN.of ((q b (.head _)).trans h2),aK.hv e h3 fun a ha => q a (.tail _ ha)⟩
  | .tp _,_,_,⟨b,vs,fq,h1,h2,h3,h4⟩,q => by
    subst h4
    exact ⟨b,vs,h1,cH.of ((q b (.head _)).trans h2),aK.hv e h3 fun a ha => q a (.tail _ ha)⟩
theorem aK.hv {K : PySem.W.Frag} {G H G' : Hp} (e : ao G G') : ∀ {ts : List Tr} {vs : List V} {fp : List Addr},aK K G H ts vs fp -> (∀ a ∈ fp,G' a = H a) -> aP K G' (dW ts) vs
  | [],_,_,⟨h,_⟩,_ => h
  | _ :: _,_,_,⟨v,r,f1,f2,h1,h2,h3,h4⟩,q => by
    subst h2
    exact ⟨v,r,h1,h3.hv e fun a ha => q a (List.mem_append_left _ ha),aK.hv e h4 fun a ha => q a (List.mem_append_right _ ha)⟩
end
theorem aK.length {K : PySem.W.Frag} {G H : Hp} : ∀ {ts : List Tr} {vs : List V} {fp : List Addr},aK K G H ts vs fp -> ts.length = vs.length
  | [],_,_,⟨h,_⟩ => by subst h; rfl
  | _ :: _,_,_,⟨v,r,f1,f2,h1,h2,h3,h4⟩ => by subst h1; rw [List.length_cons,List.length_cons,aK.length h4]
theorem aK.append {K : PySem.W.Frag} {G H : Hp} : ∀ {ts us : List Tr} {vs ws : List V} {f1 f2 : List Addr},aK K G H ts vs f1 -> aK K G H us ws f2 -> aK K G H (ts ++ us) (vs ++ ws) (f1 ++ f2)
  | [],us,_,ws,_,f2,⟨h,h'⟩,q => by subst h h'; exact q
  | _ :: _,us,_,ws,_,f2,⟨v,r,g1,g2,h1,h2,h3,h4⟩,q => by
    subst h1 h2
    exact ⟨v,r ++ ws,g1,g2 ++ f2,rfl,by rw [List.append_assoc],h3,aK.append h4 q⟩
theorem aP.iD {K : PySem.W.Frag} {G H : Hp} : ∀ {ds : List Dv} {vs : List V},aP K G ds vs -> aK K G H (ds.map .fz) vs []
  | [],_,h => ⟨h,rfl⟩
  | _ :: _,_,⟨x,r,h1,h2,h3⟩ => ⟨x,r,[],[],h1,rfl,⟨rfl,h2⟩,aP.iD h3⟩
structure Step (G H G' H' : Hp) : Prop where
  g : ao G G'
  h : ao H H'
  s : ao G' H'
  n : ∀ a,G a = none -> G' a ≠ none -> H a = none
theorem Step.refl {G H : Hp} (s : ao G H) : Step G H G H := ⟨ao.refl _,ao.refl _,s,fun a h h' => absurd h h'⟩
theorem Step.trans {G H G1 H1 G2 H2 : Hp} (a : Step G H G1 H1) (b : Step G1 H1 G2 H2) : Step G H G2 H2 :=
  ⟨a.g.trans b.g,a.h.trans b.h,b.s,fun x h h' => by
    cases q : G1 x with
    | none => exact a.h.free (b.n x q h')
    | some o => exact a.n x h (by rw [q]; exact fun z => nomatch z)⟩
theorem ao.S6 {G H : Hp} {p : Addr} {o : HO} (s : ao G H) : ao (L2.upd G p o) (L2.upd H p o) := fun b u h => by
  unfold L2.upd at h ⊢
  split
  · rename_i e; rw [if_pos e] at h; exact h
  · rename_i e; rw [if_neg e] at h; exact s b u h
theorem Step.new {G H : Hp} {p : Addr} {o : HO} (s : ao G H) (hp : H p = none) : Step G H (upd G p o) (upd H p o) :=
  ⟨ao.new (s.free hp),ao.new hp,s.S6,fun a h h' => by
    by_cases e : a = p
    · subst e; exact hp
    · rw [bh e] at h'; exact absurd h h'⟩
theorem Step.gY {G H : Hp} {p : Addr} {o : HO} (s : ao G H) (hp : H p = none) : Step G H G (upd H p o) :=
  ⟨ao.refl _,ao.new hp,s.trans (ao.new hp),fun a h h' => absurd h h'⟩
structure Nw (H G' : Hp) (fq : List Addr) : Prop where
  n : ∀ a ∈ fq,H a = none
  g : ∀ a ∈ fq,G' a = none
  d : fq.Nodup
theorem Nw.nil {H G : Hp} : Nw H G [] := ⟨fun _ h => (nomatch h),fun _ h => (nomatch h),.nil⟩
def Kv (K : PySem.W.Frag) (G H : Hp) (t : Tr) (Q : VK) : Prop := ∀ v G' H' fq,Step G H G' H' -> Ow K G' H' t v fq -> Nw H G' fq -> Q v H'
theorem Kv.step {K : PySem.W.Frag} {G H G1 H1 : Hp} {t : Tr} {Q : VK} (k : Kv K G H t Q) (e : Step G H G1 H1) : Kv K G1 H1 t Q := fun v G' H' fq st o w =>
  k v G' H' fq (e.trans st) o ⟨fun a ha => e.h.free (w.n a ha),w.g,w.d⟩
def eK (G H : Hp) (fq : List Addr) : Hp := fun a => if a ∈ fq then H a else G a
theorem jJ {G H : Hp} {fq : List Addr} {a : Addr} (h : a ∈ fq) : eK G H fq a = H a := by unfold eK; rw [if_pos h]
theorem mF {G H : Hp} {fq : List Addr} {a : Addr} (h : a ∉ fq) : eK G H fq a = G a := by unfold eK; rw [if_neg h]
theorem i7 {G H : Hp} {fq : List Addr} (h : ∀ a ∈ fq,G a = none) : ao G (eK G H fq) := fun b o e => by
  by_cases q : b ∈ fq
  · rw [h b q] at e; cases e
  · rw [mF q]; exact e
theorem rH {G H : Hp} {fq : List Addr} (s : ao G H) : ao (eK G H fq) H := fun b o e => by
  by_cases q : b ∈ fq
  · rw [jJ q] at e; exact e
  · rw [mF q] at e; exact s b o e
theorem Step.cX {G H G' H' : Hp} {fq : List Addr} (e : Step G H G' H') (w : Nw H G' fq) : Step G H (eK G' H' fq) H' :=
  ⟨e.g.trans (i7 w.g),e.h,rH e.s,fun a h h' => by
    by_cases q : a ∈ fq
    · exact w.n a q
    · rw [mF q] at h'; exact e.n a h h'⟩
structure bb (ι : Type) where
  cx : ι -> Cx
  P : Program
  w : World
  K : PySem.W.Frag
  mg : Str -> Option Value
  base : Heap
  room : Nat
  hP : ∀ i,(cx i).prog = P
  hw : ∀ i,(cx i).w = w
  hK : ∀ i,(cx i).K = K
  hm : ∀ i,(cx i).mg = mg
  hb : ∀ i,(cx i).base = base
  hr : ∀ i,cW room (cx i).A
  calm : ∀ i,(cx i).calm = true
abbrev En := List (Option Tr)
def bQ (K : PySem.W.Frag) (G : Hp) (ρ : En) (σ : St) : Prop := ∀ (j : Nat) (d : Dv),ρ[j]? = some (some (Tr.fz d)) -> ∃ v,σ[j]? = some (some v) /\ Hv K G d v
theorem bQ.mono {K : PySem.W.Frag} {G G' : Hp} {ρ : En} {σ : St} (e : ao G G') (r : bQ K G ρ σ) : bQ K G' ρ σ := fun j d h => by
  obtain ⟨v,h1,h2⟩ := r j d h
  exact ⟨v,h1,h2.mono e⟩
section
variable {ι : Type}
def Ev (F : bb ι) (e : Expr) (ρ : En) (t : Tr) : Prop := ∃ τ : TE,(∀ i,PE (F.cx i) e τ) /\ ∀ σ G H Q,ao G H -> bQ F.K G ρ σ -> Kv F.K G H t Q -> τ σ H Q
def Et (F : bb ι) (e : Expr) (ρ : En) (b : Bool) : Prop := ∃ τ : TT,(∀ i,PT (F.cx i) e τ) /\ ∀ σ G H Q,ao G H -> bQ F.K G ρ σ -> (∀ G' H',Step G H G' H' -> Q b H') -> τ σ H Q
def gH (F : bb ι) (es : List Expr) (ρ : En) (ts : List Tr) : Prop := ∃ τ : TA,(∀ i,PA (F.cx i) es τ) /\ ∀ σ G H Q,ao G H -> bQ F.K G ρ σ ->
  (∀ vs G' H' fq,Step G H G' H' -> aK F.K G' H' ts vs fq -> Nw H G' fq -> Q vs H') -> τ σ H Q
variable {F : bb ι} {e a b : Expr} {es : List Expr} {ρ : En} {t ta tb : Tr} {ts : List Tr}
theorem Ev.use (h : Ev F e ρ t) : ∃ τ : TE,(∀ i,PE (F.cx i) e τ) /\ ∀ σ G H (Q : VK),ao G H -> bQ F.K G ρ σ -> (∀ v G' H',Step G H G' H' -> Hv F.K G' (er t) v -> Q v H') -> τ σ H Q := by
  obtain ⟨τ,p,q⟩ := h
  refine ⟨τ,p,fun σ G H Q s r k => q σ G H Q s r fun v G' H' fq st o w => ?_⟩
  exact k v (eK G' H' fq) H' (st.cX w) (o.hv (i7 w.g) fun a ha => jJ ha)
theorem Ev.fz (h : Ev F e ρ t) : Ev F e ρ (.fz (er t)) := by
  obtain ⟨τ,p,q⟩ := h.use
  exact ⟨τ,p,fun σ G H Q s r k => q σ G H Q s r fun v G' H' st hv => k v G' H' [] st ⟨rfl,hv⟩ .nil⟩
theorem Ev.as {d : Dv} (h : Ev F e ρ t) (ed : er t = d) : Ev F e ρ (.fz d) := ed ▸ h.fz
theorem gH.use (h : gH F es ρ ts) : ∃ τ : TA,(∀ i,PA (F.cx i) es τ) /\ ∀ σ G H (Q : List V -> Hp -> Prop),ao G H -> bQ F.K G ρ σ -> (∀ vs G' H',Step G H G' H' -> aP F.K G' (dW ts) vs -> Q vs H') -> τ σ H Q := by
  obtain ⟨τ,p,q⟩ := h
  refine ⟨τ,p,fun σ G H Q s r k => q σ G H Q s r fun v G' H' fq st o w => ?_⟩
  exact k v (eK G' H' fq) H' (st.cX w) (o.hv (i7 w.g) fun a ha => jJ ha)
theorem ax : gH F [] ρ [] := ⟨e9,fun i => eZ,fun σ G H Q s r k => k [] G H [] (.refl s) ⟨rfl,rfl⟩ .nil⟩
theorem Nw.app {H G1 H1 G2 : Hp} {f1 f2 : List Addr} (w1 : Nw H G1 f1) (w2 : Nw H1 G2 f2) (hh : ao H H1) (th : ∀ a ∈ f1,∃ o,H1 a = some o) (hg : ∀ a,G1 a = none -> G2 a ≠ none -> H1 a = none) : Nw H G2 (f1 ++ f2) :=
  ⟨fun a ha => (List.mem_append.mp ha).elim (w1.n a) fun z => hh.free (w2.n a z),fun a ha => (List.mem_append.mp ha).elim (fun z => by
      cases q : G2 a with
      | none => rfl
      | some o =>
        obtain ⟨u,hu⟩ := th a z
        have := hg a (w1.g a z) (by rw [q]; exact fun z => nomatch z)
        rw [hu] at this; cases this) (w2.g a),
    List.nodup_append.mpr ⟨w1.d,w2.d,fun a ha b hb e => by
      subst e
      obtain ⟨u,hu⟩ := th a ha
      rw [w2.n a hb] at hu; cases hu⟩⟩
theorem ag (ha : Ev F e ρ t) (hr : gH F es ρ ts) (hs : ∀ i,starEach (e :: es) (F.cx i).env = (false,eval e (F.cx i).env) :: starEach es (F.cx i).env := by intro _; rfl) : gH F (e :: es) ρ (t :: ts) := by
  obtain ⟨τ,p,q⟩ := ha
  obtain ⟨bY,p',q'⟩ := hr
  refine ⟨dw τ bY,fun i => du (p i) (p' i) (hs i),fun σ G H Q s r k => ?_⟩
  refine q σ G H _ s r fun v G1 H1 f1 s1 o1 w1 => q' σ G1 H1 _ s1.s (r.mono s1.g) fun vs G2 H2 f2 s2 o2 w2 => ?_
  exact k (v :: vs) G2 H2 (f1 ++ f2) (s1.trans s2) ⟨v,vs,f1,f2,rfl,rfl,o1.mono s2.g s2.h,o2⟩ (w1.app w2 s1.h (fun a ha => o1.there a ha) s2.n)
end
end L2
namespace L2
open PySem PySem.Spec PyProof.Rows
abbrev di (n : Int) : Dv := .fl (.int n)
abbrev db (b : Bool) : Dv := .fl (.bl b)
abbrev dn : Dv := .fl .aM
abbrev dis (ns : List Int) : Dv := .lst (ns.map di)
abbrev ti (n : Int) : Tr := .fz (di n)
abbrev tb (b : Bool) : Tr := .fz (db b)
abbrev tn : Tr := .fz dn
theorem Kv.sc {K : PySem.W.Frag} {G H : Hp} {v : V} {Q : VK} (k : Kv K G H (.fz (.fl v)) Q) (s : ao G H) (f : dR v = true) : Q v H := k v G H [] (.refl s) ⟨rfl,rfl,f⟩ .nil
theorem Kv.dat {K : PySem.W.Frag} {G H : Hp} {d : Dv} {v : V} {Q : VK} (k : Kv K G H (.fz d) Q) (s : ao G H) (h : Hv K G d v) : Q v H := k v G H [] (.refl s) ⟨rfl,h⟩ .nil
theorem Kv.lst {K : PySem.W.Frag} {G H : Hp} {ts : List Tr} {vs : List V} {Q : VK} (k : Kv K G H (.ow ts) Q) (s : ao G H) (h : aK K G H ts vs []) {p : Addr} (hp : H p = none) : Q (.ref p) (upd H p (.lst vs)) :=
  k (.ref p) G _ [p] (.gY s hp) ⟨p,vs,[],rfl,cL,h.mono (ao.refl _) (ao.new hp),rfl⟩ ⟨fun a ha => by rw [List.mem_singleton.mp ha]; exact hp,fun a ha => by rw [List.mem_singleton.mp ha]; exact s.free hp,by simp⟩
theorem aV {K : PySem.W.Frag} {G : Hp} {v x : V} (h : Hv K G (.fl v) x) : x = v := h.1
section
variable {ι : Type} {F : bb ι} {e a b c : Expr} {es : List Expr} {ρ : En} {t ta tb' : Tr} {ts : List Tr} {pos : Pos}
theorem ae (j : Nat) {d : Dv} {x : Str} (h : ρ[j]? = some (some (.fz d))) (hN : ∀ i,(F.cx i).N[j]? = some x := by intro _; rfl)
    (hv : ∀ i,ip (F.cx i).env.scope x := by intro _; first | exact Or.inl rfl | exact Or.inr (Or.inl rfl) | exact Or.inr (Or.inr rfl)) (hd : (x == ("__debug__" : Str)) = false := by decide) (hc : (x == ("__classdict__" : Str)) = false := by decide) : Ev F (.Name x pos) ρ (.fz d) :=
  ⟨cP j,fun i => ko (hN i) (hv i) hd hc,fun σ G H Q s r k => by
    obtain ⟨v,h1,h2⟩ := r j d h
    exact ⟨v,h1,k.dat s h2⟩⟩
theorem aj {n : Int} {j : Nat} : Ev F (.Constant (.int n) j pos) ρ (ti n) := ⟨_,fun i => wD,fun σ G H Q s r k => k.sc s rfl⟩
theorem Sg {n : Bool} {j : Nat} : Ev F (.Constant (.bool n) j pos) ρ (tb n) := ⟨_,fun i => R7,fun σ G H Q s r k => k.sc s rfl⟩
theorem Q6 {j : Nat} : Ev F (.Constant .none j pos) ρ tn := ⟨_,fun i => QK,fun σ G H Q s r k => k.sc s rfl⟩
theorem rV {x : Str} {v : V} {u : Value} (hm : F.mg x = some u) (r : RelV v u) (f : dR v = true) (hg : ∀ i,Gl (F.cx i) x := by intro _; rfl) (hd : (x == ("__debug__" : Str)) = false := by decide) : Ev F (.Name x pos) ρ (.fz (.fl v)) :=
  ⟨tC v,fun i => OW (hg i) ((F.hm i).symm ▸ hm) r hd,fun σ G H Q s _ k => k.sc s f⟩
theorem mU {op : Operator} {r : R2} (ho : ∀ i,cI (F.cx i) (binaryOp op) r) (ha : Ev F a ρ ta) (hb : Ev F b ρ tb')
    (h : ∀ G H x y Q,ao G H -> Hv F.K G (er ta) x -> Hv F.K G (er tb') y -> Kv F.K G H t Q -> r x y H Q) : Ev F (.BinOp a op b pos) ρ t := by
  obtain ⟨τ,p,q⟩ := ha.use
  obtain ⟨bY,p',q'⟩ := hb.use
  refine ⟨iz r τ bY,fun i => Gu (ho i) (p i) (p' i),fun σ G H Q s rr k => ?_⟩
  refine q σ G H _ s rr fun x G1 H1 s1 hx => q' σ G1 H1 _ s1.s (rr.mono s1.g) fun y G2 H2 s2 hy => ?_
  exact h G2 H2 x y Q s2.s (hx.mono s2.g) hy (k.step (s1.trans s2))
theorem gP {i j : Int} (ha : Ev F a ρ (ti i)) (hb : Ev F b ρ (ti j)) : Ev F (.BinOp a .Add b pos) ρ (ti (i + j)) := mU (fun _ => EX) ha hb fun G H x y Q s hx hy k => ⟨i,j,aV hx,aV hy,k.sc s rfl⟩
theorem wM {i j : Int} (ha : Ev F a ρ (ti i)) (hb : Ev F b ρ (ti j)) : Ev F (.BinOp a .Sub b pos) ρ (ti (i - j)) := mU (fun _ => QR) ha hb fun G H x y Q s hx hy k => ⟨i,j,aV hx,aV hy,k.sc s rfl⟩
theorem dP {i j : Int} (ha : Ev F a ρ (ti i)) (hb : Ev F b ρ (ti j)) (hc : GH i j) : Ev F (.BinOp a .Mult b pos) ρ (ti (i * j)) := mU (fun _ => Pb) ha hb fun G H x y Q s hx hy k => ⟨i,j,aV hx,aV hy,hc,k.sc s rfl⟩
theorem hU {i j : Int} (ha : Ev F a ρ (ti i)) (hb : Ev F b ρ (ti j)) (hc : pG i j) : Ev F (.BinOp a .FloorDiv b pos) ρ (ti (i / j)) := mU (fun _ => NV) ha hb fun G H x y Q s hx hy k => ⟨i,j,aV hx,aV hy,hc,k.sc s rfl⟩
theorem fA {i j : Int} (ha : Ev F a ρ (ti i)) (hb : Ev F b ρ (ti j)) (hc : 0 < j) : Ev F (.BinOp a .Mod b pos) ρ (ti (i % j)) := mU (fun _ => QS) ha hb fun G H x y Q s hx hy k => ⟨i,j,aV hx,aV hy,hc,k.sc s rfl⟩
theorem Q7 {i : Int} (ha : Ev F a ρ (ti i)) : Ev F (.UnaryOp .USub a pos) ρ (ti (-i)) := by
  obtain ⟨τ,p,q⟩ := ha.use
  exact ⟨_,fun i => R8 QT (p i),fun σ G H Q s rr k => q σ G H _ s rr fun x G1 H1 s1 hx => ⟨i,aV hx,(k.step s1).sc s1.s rfl⟩⟩
theorem mV {xs ys : List Dv} (ha : Ev F a ρ ta) (hb : Ev F b ρ tb') (ea : er ta = .lst xs) (eb : er tb' = .lst ys) (hz : xs.length + ys.length <= sizeLine) : Ev F (.BinOp a .Add b pos) ρ (.ow ((xs ++ ys).map .fz)) :=
  mU (r := GJ F.K) (fun i => F.hK i ▸ Ph) ha hb fun G H x y Q s hx hy k => by
    rw [ea] at hx
    rw [eb] at hy
    obtain ⟨l,vs,rfl,h1,h2⟩ := hx
    obtain ⟨l',ws,rfl,h3,h4⟩ := hy
    refine ⟨l,l',vs,ws,rfl,rfl,s.seq h1,s.seq h3,by rw [<- h2.length,<- h4.length]; exact hz,fun p hp => ?_⟩
    refine k.lst s ?_ hp
    rw [List.map_append]
    exact h2.iD.append h4.iD
theorem mW {op : CmpOp} {r : R2} {c : Bool} (ho : ∀ i,cI (F.cx i) (compareOp op) r) (ha : Ev F a ρ ta) (hb : Ev F b ρ tb')
    (h : ∀ G H x y (Q : VK),ao G H -> Hv F.K G (er ta) x -> Hv F.K G (er tb') y -> Q (.bl c) H -> r x y H Q) (hm : behindInMarks op b = false) : Ev F (.Compare a [op] [b] pos) ρ (tb c) := by
  obtain ⟨τ,p,q⟩ := ha.use
  obtain ⟨bY,p',q'⟩ := hb.use
  refine ⟨iz r τ bY,fun i => O2 (ho i) (p i) (p' i) hm,fun σ G H Q s rr k => ?_⟩
  refine q σ G H _ s rr fun x G1 H1 s1 hx => q' σ G1 H1 _ s1.s (rr.mono s1.g) fun y G2 H2 s2 hy => ?_
  exact h G2 H2 x y Q s2.s (hx.mono s2.g) hy ((k.step (s1.trans s2)).sc s2.s rfl)
theorem jc {op : CmpOp} {r : R2} {c : Bool} (ho : ∀ i,cI (F.cx i) (compareOp op) r) (ha : Ev F a ρ ta) (hb : Ev F b ρ tb')
    (h : ∀ G H x y (Q : VK),ao G H -> Hv F.K G (er ta) x -> Hv F.K G (er tb') y -> Q (.bl c) H -> r x y H Q) (hm : behindInMarks op b = false) : Et F (.Compare a [op] [b] pos) ρ c := by
  obtain ⟨τ,p,q⟩ := ha.use
  obtain ⟨bY,p',q'⟩ := hb.use
  refine ⟨Gz (iz r τ bY),fun i => O3 (ho i) (p i) (p' i) hm,fun σ G H Q s rr k => ?_⟩
  refine q σ G H _ s rr fun x G1 H1 s1 hx => q' σ G1 H1 _ s1.s (rr.mono s1.g) fun y G2 H2 s2 hy => ?_
  exact h G2 H2 x y _ s2.s (hx.mono s2.g) hy ⟨c,rfl,k G2 H2 (s1.trans s2)⟩
theorem sH {i j : Int} (ha : Ev F a ρ (ti i)) (hb : Ev F b ρ (ti j)) : Et F (.Compare a [.Lt] [b] pos) ρ (decide (i < j)) := jc (fun _ => Gw) ha hb (fun G H x y Q s hx hy k => ⟨i,j,aV hx,aV hy,k⟩) (gO _)
theorem pH {i j : Int} (ha : Ev F a ρ (ti i)) (hb : Ev F b ρ (ti j)) : Et F (.Compare a [.Gt] [b] pos) ρ (decide (j < i)) := jc (fun _ => Gx) ha hb (fun G H x y Q s hx hy k => ⟨i,j,aV hx,aV hy,k⟩) (gO _)
theorem Sh {i j : Int} (ha : Ev F a ρ (ti i)) (hb : Ev F b ρ (ti j)) : Et F (.Compare a [.GtE] [b] pos) ρ (decide (j <= i)) := jc (fun _ => Gy) ha hb (fun G H x y Q s hx hy k => ⟨i,j,aV hx,aV hy,k⟩) (gO _)
theorem jQ {i j : Int} (ha : Ev F a ρ (ti i)) (hb : Ev F b ρ (ti j)) : Et F (.Compare a [.Eq] [b] pos) ρ (decide (i = j)) := jc (fun _ => Gv) ha hb (fun G H x y Q s hx hy k => by
  rw [aV hx,aV hy]; exact ⟨rfl,by simpa using k⟩) (gO _)
theorem xA {i j : Int} (ha : Ev F a ρ (ti i)) (hb : Ev F b ρ (ti j)) : Et F (.Compare a [.NotEq] [b] pos) ρ (!decide (i = j)) := jc (fun _ => R9) ha hb (fun G H x y Q s hx hy k => by
  rw [aV hx,aV hy]; exact ⟨rfl,by simpa using k⟩) (gO _)
theorem pI {i j : Int} (ha : Ev F a ρ (ti i)) (hb : Ev F b ρ (ti j)) : Ev F (.Compare a [.Lt] [b] pos) ρ (tb (decide (i < j))) := mW (fun _ => Gw) ha hb (fun G H x y Q s hx hy k => ⟨i,j,aV hx,aV hy,k⟩) (gO _)
theorem GN {i j : Int} (ha : Ev F a ρ (ti i)) (hb : Ev F b ρ (ti j)) : Ev F (.Compare a [.Gt] [b] pos) ρ (tb (decide (j < i))) := mW (fun _ => Gx) ha hb (fun G H x y Q s hx hy k => ⟨i,j,aV hx,aV hy,k⟩) (gO _)
theorem Si {i j : Int} (ha : Ev F a ρ (ti i)) (hb : Ev F b ρ (ti j)) : Ev F (.Compare a [.GtE] [b] pos) ρ (tb (decide (j <= i))) := mW (fun _ => Gy) ha hb (fun G H x y Q s hx hy k => ⟨i,j,aV hx,aV hy,k⟩) (gO _)
theorem GO {i j : Int} (ha : Ev F a ρ (ti i)) (hb : Ev F b ρ (ti j)) : Ev F (.Compare a [.Eq] [b] pos) ρ (tb (decide (i = j))) := mW (fun _ => Gv) ha hb (fun G H x y Q s hx hy k => by
  rw [aV hx,aV hy]; exact ⟨rfl,by simpa using k⟩) (gO _)
def wN (d e : Dv) : Prop := (∃ xs ys,d = .lst xs /\ e = .lst ys) \/ ∃ xs ys,d = .tup xs /\ e = .tup ys
theorem wO (ha : Ev F a ρ ta) (hb : Ev F b ρ tb') (hk : wN (er ta) (er tb')) (hd : fJ (er ta) <= 50) : Et F (.Compare a [.Eq] [b] pos) ρ (cE (er ta) (er tb')) :=
  jc (r := pV F.K false) (fun i => F.hK i ▸ E5 (F.hr i).units) ha hb (fun G H x y Q s hx hy k => ⟨_,_,hk,hx.mono s,hy.mono s,hd,k⟩) (gO _)
theorem sr (ha : Ev F a ρ ta) (hb : Ev F b ρ tb') (hk : wN (er ta) (er tb')) (hd : fJ (er ta) <= 50) : Et F (.Compare a [.NotEq] [b] pos) ρ (!cE (er ta) (er tb')) :=
  jc (r := pV F.K true) (fun i => F.hK i ▸ Q1 (F.hr i).units) ha hb (fun G H x y Q s hx hy k => ⟨_,_,hk,hx.mono s,hy.mono s,hd,k⟩) (gO _)
theorem Q8 (ha : Ev F a ρ ta) (hb : Ev F b ρ tb') (hk : wN (er ta) (er tb')) (hd : fJ (er ta) <= 50) : Ev F (.Compare a [.Eq] [b] pos) ρ (tb (cE (er ta) (er tb'))) :=
  mW (r := pV F.K false) (fun i => F.hK i ▸ E5 (F.hr i).units) ha hb (fun G H x y Q s hx hy k => ⟨_,_,hk,hx.mono s,hy.mono s,hd,k⟩) (gO _)
theorem oM {K : PySem.W.Frag} {G : Hp} : ∀ {ns : List Int} {vs : List V},aP K G (ns.map di) vs -> vs = ns.map V.int
  | [],_,h => h
  | _ :: _,_,⟨x,r,h1,h2,h3⟩ => by subst h1; rw [aV h2,oM h3]; rfl
theorem rJ {K : PySem.W.Frag} {G : Hp} : ∀ {ns : List Int},aP K G (ns.map di) (ns.map V.int)
  | [] => rfl
  | _ :: _ => ⟨_,_,rfl,⟨rfl,rfl⟩,rJ⟩
theorem Df (n : Int) : ∀ ns : List Int,tJ (.int n) (ns.map V.int) = ns.any fun m => m == n
  | [] => rfl
  | m :: ms => by
    show (eQ (.int m) (.int n) || tJ (.int n) (ms.map V.int)) = _
    rw [Df n ms]; rfl
theorem CO (ns : List Int) : (ns.map V.int).all dR = true := by rw [List.all_map]; exact List.all_eq_true.mpr fun _ _ => rfl
theorem LQ (n : Int) (ns : List Int) : (ns.any fun m => m == n) = ns.contains n := by
  induction ns with
  | nil => rfl
  | cons m ms ih => rw [List.any_cons,ih,List.contains_cons]; congr 1; exact Bool.beq_comm
theorem wQ {n : Int} {ns : List Int} {neg : Bool} (eb : er tb' = dis ns) {G H : Hp} {x y : V} {Q : VK} (s : ao G H) (hx : Hv F.K G (er (ti n)) x) (hy : Hv F.K G (er tb') y) (k : Q (.bl (if neg then !ns.contains n else ns.contains n)) H) : nM F.K neg x y H Q := by
  rw [eb] at hy
  obtain ⟨l,vs,rfl,h1,h2⟩ := hy
  have := oM h2
  subst this
  rw [aV hx]
  refine ⟨l,_,rfl,.inl (s.seq h1),rfl,CO ns,?_⟩
  rw [Df,LQ]
  exact k
theorem GP {n : Int} {ns : List Int} (ha : Ev F a ρ (ti n)) (hb : Ev F b ρ tb') (eb : er tb' = dis ns) (hm : behindInMarks .In b = false) : Et F (.Compare a [.In] [b] pos) ρ (ns.contains n) :=
  jc (r := nM F.K false) (fun i => F.hK i ▸ M6) ha hb (fun G H x y Q s hx hy k => wQ eb s hx hy k) hm
theorem rK {n : Int} {ns : List Int} (ha : Ev F a ρ (ti n)) (hb : Ev F b ρ tb') (eb : er tb' = dis ns) (hm : behindInMarks .NotIn b = false) : Et F (.Compare a [.NotIn] [b] pos) ρ (!ns.contains n) :=
  jc (r := nM F.K true) (fun i => F.hK i ▸ B9) ha hb (fun G H x y Q s hx hy k => wQ eb s hx hy k) hm
theorem fB {c : Bool} (h : Ev F e ρ (tb c)) (he : ∀ i whole,isTrue e (F.cx i).env whole = (do let v <- whole; standAt e.pos; holding [v] (truthy v)) := by intro _ _; rfl) : Et F e ρ c := by
  obtain ⟨τ,p,q⟩ := h
  exact ⟨tB τ,fun i => QL (p i) (he i),fun σ G H Q s r k => q σ G H _ s r fun v G' H' fq st o w => ⟨c,aV o.2,k G' H' st⟩⟩
def Ew (F : bb ι) (e : Expr) (ρ : En) (b : Bool) : Prop := ∃ τ : TT,(∀ i,PW (F.cx i) e τ) /\ ∀ σ G H Q,ao G H -> bQ F.K G ρ σ -> (∀ G' H',Step G H G' H' -> Q b H') -> τ σ H Q
theorem Ew.et {p : Bool} (h : Ew F e ρ p) : Et F e ρ p := let ⟨τ,a,b⟩ := h; ⟨τ,fun i => (a i).pt,b⟩
theorem Dg {X : Cx} : PW X e (fun _ _ _ => False) := fun _ _ _ _ _ _ _ h => h.elim
theorem Ec {p : Bool} (h : Et F a ρ p) : Ew F (.BoolOp .And [a] pos) ρ p := let ⟨τ,x,y⟩ := h; ⟨τ,fun i => OY (x i),y⟩
theorem su {p : Bool} (h : Et F a ρ p) : Ew F (.BoolOp .Or [a] pos) ρ p := let ⟨τ,x,y⟩ := h; ⟨τ,fun i => QM (x i),y⟩
theorem E7 {p q : Bool} {rest : List Expr} (h : Et F a ρ p) (h2 : p = true -> Ew F (.BoolOp .And (b :: rest) pos) ρ q) : Ew F (.BoolOp .And (a :: b :: rest) pos) ρ (p && q) := by
  obtain ⟨τ,x,y⟩ := h
  cases p with
  | false => exact ⟨xZ τ _,fun i => EJ (x i) Dg,fun σ G H Q s r k => y σ G H _ s r fun G' H' st => kH (k G' H' st)⟩
  | true =>
    obtain ⟨bY,x',y'⟩ := h2 rfl
    exact ⟨xZ τ bY,fun i => EJ (x i) (x' i),fun σ G H Q s r k => y σ G H _ s r fun G1 H1 s1 => kI (y' σ G1 H1 _ s1.s (r.mono s1.g) fun G2 H2 s2 => k G2 H2 (s1.trans s2))⟩
theorem sI {p q : Bool} {rest : List Expr} (h : Et F a ρ p) (h2 : p = false -> Ew F (.BoolOp .Or (b :: rest) pos) ρ q) : Ew F (.BoolOp .Or (a :: b :: rest) pos) ρ (p || q) := by
  obtain ⟨τ,x,y⟩ := h
  cases p with
  | true => exact ⟨yJ τ _,fun i => Gk (x i) Dg,fun σ G H Q s r k => y σ G H _ s r fun G' H' st => kI (k G' H' st)⟩
  | false =>
    obtain ⟨bY,x',y'⟩ := h2 rfl
    exact ⟨yJ τ bY,fun i => Gk (x i) (x' i),fun σ G H Q s r k => y σ G H _ s r fun G1 H1 s1 => kH (y' σ G1 H1 _ s1.s (r.mono s1.g) fun G2 H2 s2 => k G2 H2 (s1.trans s2))⟩
theorem wR {p : Bool} (h : Et F a ρ p) : Et F (.UnaryOp .Not a pos) ρ (!p) := by
  obtain ⟨τ,x,y⟩ := h
  exact ⟨Hu τ,fun i => QN (x i),fun σ G H Q s r k => y σ G H _ s r k⟩
theorem Dh {X : Cx} : PE X e (fun _ _ _ => False) := fun _ _ _ _ _ _ h => h.elim
theorem sv {op : BoolOp} {t : Tr} (h : Ev F a ρ t) : Ev F (.BoolOp op [a] pos) ρ t := let ⟨τ,x,y⟩ := h; ⟨τ,fun i => QO (x i),y⟩
theorem E8 {p q : Bool} {rest : List Expr} (h : Ev F a ρ (tb p)) (h2 : p = true -> Ev F (.BoolOp .And (b :: rest) pos) ρ (tb q)) : Ev F (.BoolOp .And (a :: b :: rest) pos) ρ (tb (p && q)) := by
  obtain ⟨τ,x,y⟩ := h.use
  cases p with
  | false => exact ⟨xt τ _,fun i => EK (x i) Dh,fun σ G H Q s r k => y σ G H _ s r fun v G' H' st hv => ⟨false,aV hv,kH ((k.step st).sc st.s rfl)⟩⟩
  | true =>
    obtain ⟨bY,x',y'⟩ := h2 rfl
    exact ⟨xt τ bY,fun i => EK (x i) (x' i),fun σ G H Q s r k => y σ G H _ s r fun v G1 H1 s1 hv => ⟨true,aV hv,kI (y' σ G1 H1 _ s1.s (r.mono s1.g) (k.step s1))⟩⟩
theorem GQ {p q : Bool} {rest : List Expr} (h : Ev F a ρ (tb p)) (h2 : p = false -> Ev F (.BoolOp .Or (b :: rest) pos) ρ (tb q)) : Ev F (.BoolOp .Or (a :: b :: rest) pos) ρ (tb (p || q)) := by
  obtain ⟨τ,x,y⟩ := h.use
  cases p with
  | true => exact ⟨x3 τ _,fun i => Gn (x i) Dh,fun σ G H Q s r k => y σ G H _ s r fun v G' H' st hv => ⟨true,aV hv,kI ((k.step st).sc st.s rfl)⟩⟩
  | false =>
    obtain ⟨bY,x',y'⟩ := h2 rfl
    exact ⟨x3 τ bY,fun i => Gn (x i) (x' i),fun σ G H Q s r k => y σ G H _ s r fun v G1 H1 s1 hv => ⟨false,aV hv,kH (y' σ G1 H1 _ s1.s (r.mono s1.g) (k.step s1))⟩⟩
theorem Q9 {p : Bool} (h : Ev F a ρ (tb p)) : Ev F (.UnaryOp .Not a pos) ρ (tb (!p)) := by
  obtain ⟨τ,x,y⟩ := h.use
  exact ⟨Gm τ,fun i => QP (x i),fun σ G H Q s r k => y σ G H _ s r fun v G' H' st hv => ⟨p,aV hv,(k.step st).sc st.s rfl⟩⟩
theorem eA (h : gH F es ρ ts) (hz : ts.length <= sizeLine) : Ev F (.List es pos) ρ (.ow ts) := by
  obtain ⟨τ,x,y⟩ := h
  refine ⟨Hz τ,fun i => QU (x i),fun σ G H Q s r k => y σ G H _ s r fun vs G1 H1 fq s1 o w => ⟨by rw [<- o.length]; exact hz,fun p hp => ?_⟩⟩
  have np : p ∉ fq := fun z => by
    obtain ⟨u,hu⟩ := o.there p z
    rw [hp] at hu; cases hu
  exact k (.ref p) G1 _ (p :: fq) (s1.trans (.gY s1.s hp)) ⟨p,vs,fq,rfl,cL,o.mono (ao.refl _) (ao.new hp),rfl⟩
    ⟨fun a ha => (List.mem_cons.mp ha).elim (fun z => by rw [z]; exact s1.h.free hp) (w.n a),fun a ha => (List.mem_cons.mp ha).elim (fun z => by rw [z]; exact s1.s.free hp) (w.g a),List.nodup_cons.mpr ⟨np,w.d⟩⟩
theorem E9 {x1} (h : gH F es ρ ts) (hz : ts.length <= sizeLine) : Ev F (.Tuple es x1 pos) ρ (.tp ts) := by
  obtain ⟨τ,x,y⟩ := h
  refine ⟨pU τ,fun i => EZ (x i),fun σ G H Q s r k => y σ G H _ s r fun vs G1 H1 fq s1 o w => ⟨by rw [<- o.length]; exact hz,fun p hp => ?_⟩⟩
  have np : p ∉ fq := fun z => by
    obtain ⟨u,hu⟩ := o.there p z
    rw [hp] at hu; cases hu
  exact k (.ref p) G1 _ (p :: fq) (s1.trans (.gY s1.s hp)) ⟨p,vs,fq,rfl,cL,o.mono (ao.refl _) (ao.new hp),rfl⟩
    ⟨fun a ha => (List.mem_cons.mp ha).elim (fun z => by rw [z]; exact s1.h.free hp) (w.n a),fun a ha => (List.mem_cons.mp ha).elim (fun z => by rw [z]; exact s1.s.free hp) (w.g a),List.nodup_cons.mpr ⟨np,w.d⟩⟩
theorem oS {x1} {dd : List Dv} (h : gH F es ρ ts) (ed : dW ts = dd) (hz : ts.length <= sizeLine) : Ev F (.Tuple es x1 pos) ρ (.fz (.tup dd)) := ed ▸ (E9 h hz).fz
theorem aP.get {K : PySem.W.Frag} {G : Hp} : ∀ {ds : List Dv} {vs : List V} {j : Nat} {d : Dv},aP K G ds vs -> ds[j]? = some d -> ∃ v,vs[j]? = some v /\ Hv K G d v
  | _ :: _,_,0,_,⟨x,r,h1,h2,h3⟩,h => by cases h; subst h1; exact ⟨x,rfl,h2⟩
  | _ :: _,_,j + 1,d,⟨x,r,h1,h2,h3⟩,h => by
    subst h1
    obtain ⟨v,q1,q2⟩ := aP.get (j := j) h3 h
    exact ⟨v,q1,q2⟩
theorem aP.at {K : PySem.W.Frag} {G : Hp} {ds : List Dv} {vs : List V} {k : Int} {d : Dv} (h : aP K G ds vs) (hk : aY ds k = some d) : ∃ v,aY vs k = some v /\ Hv K G d v := by
  unfold aY at hk ⊢
  rw [<- h.length]
  cases q : fI ds.length k with
  | none => rw [q] at hk; cases hk
  | some j => rw [q] at hk; exact h.get hk
theorem cy {xs : List Dv} {k : Int} {d : Dv} (ha : Ev F a ρ ta) (hb : Ev F b ρ (ti k)) (ea : er ta = .lst xs) (hk : aY xs k = some d) (hs : vY b := by exact fun _ _ => rfl) : Ev F (.Subscript a b pos) ρ (.fz d) := by
  obtain ⟨τ,p,q⟩ := ha.use
  obtain ⟨bY,p',q'⟩ := hb.use
  refine ⟨iz (yf F.K) τ bY,fun i => GB (NY (F.hK i)) (p i) (p' i) hs,fun σ G H Q s rr k => ?_⟩
  refine q σ G H _ s rr fun x G1 H1 s1 hx => q' σ G1 H1 _ s1.s (rr.mono s1.g) fun y G2 H2 s2 hy => ?_
  rw [ea] at hx
  obtain ⟨l,vs,rfl,h1,h2⟩ := hx
  obtain ⟨v,h3,h4⟩ := h2.at hk
  exact ⟨l,vs,_,v,rfl,aV hy,(s2.g.trans s2.s).seq h1,h3,(k.step (s1.trans s2)).dat s2.s (h4.mono s2.g)⟩
theorem aO {xs : List Dv} {k : Int} {d : Dv} (ha : Ev F a ρ ta) (hb : Ev F b ρ (ti k)) (ea : er ta = .tup xs) (hk : aY xs k = some d) (hs : vY b := by exact fun _ _ => rfl) : Ev F (.Subscript a b pos) ρ (.fz d) := by
  obtain ⟨τ,p,q⟩ := ha.use
  obtain ⟨bY,p',q'⟩ := hb.use
  refine ⟨iz (yg F.K) τ bY,fun i => GB (Pl (F.hK i)) (p i) (p' i) hs,fun σ G H Q s rr k => ?_⟩
  refine q σ G H _ s rr fun x G1 H1 s1 hx => q' σ G1 H1 _ s1.s (rr.mono s1.g) fun y G2 H2 s2 hy => ?_
  rw [ea] at hx
  obtain ⟨l,vs,rfl,h1,h2⟩ := hx
  obtain ⟨v,h3,h4⟩ := h2.at hk
  exact ⟨l,vs,_,v,rfl,aV hy,(s2.g.trans s2.s).tup h1,h3,(k.step (s1.trans s2)).dat s2.s (h4.mono s2.g)⟩
def cutD {α : Type} (xs : List α) (lo hi : Option Int) : List α := (xs.drop (HT.dD xs.length 0 lo)).take (HT.dD xs.length xs.length hi - HT.dD xs.length 0 lo)
theorem aP.drop {K : PySem.W.Frag} {G : Hp} : ∀ {ds : List Dv} {vs : List V} (n : Nat),aP K G ds vs -> aP K G (ds.drop n) (vs.drop n)
  | ds,vs,0,h => h
  | [],_,n + 1,h => by rw [show _ = [] from h]; exact rfl
  | _ :: _,_,n + 1,⟨x,r,h1,h2,h3⟩ => by subst h1; exact aP.drop n h3
theorem aP.take {K : PySem.W.Frag} {G : Hp} : ∀ {ds : List Dv} {vs : List V} (n : Nat),aP K G ds vs -> aP K G (ds.take n) (vs.take n)
  | ds,vs,0,h => by simp only [List.take_zero]; exact rfl
  | [],_,n + 1,h => by rw [show _ = [] from h]; exact rfl
  | _ :: _,_,n + 1,⟨x,r,h1,h2,h3⟩ => by subst h1; exact ⟨x,r.take n,rfl,h2,aP.take n h3⟩
theorem aP.cut {K : PySem.W.Frag} {G : Hp} {ds : List Dv} {vs : List V} (h : aP K G ds vs) (lo hi : Option Int) : aP K G (cutD ds lo hi) (nB vs lo hi) := by
  unfold cutD nB
  rw [h.length]
  exact (h.drop _).take _
def Eo (F : bb ι) (e : Option Expr) (ρ : En) (o : Option Int) : Prop := ∃ τ : TO,(∀ i,PO (F.cx i) e τ) /\ ∀ σ G H Q,ao G H -> bQ F.K G ρ σ -> (∀ G' H',Step G H G' H' -> Q o H') -> τ σ H Q
theorem rW {n : Int} (h : Ev F e ρ (ti n)) : Eo F (some e) ρ (some n) := by
  obtain ⟨τ,x,y⟩ := h.use
  exact ⟨GA τ,fun i => O5 (x i),fun σ G H Q s r k => y σ G H _ s r fun v G' H' st hv => ⟨n,aV hv,k G' H' st⟩⟩
theorem Di {lo hi : Option Expr} {l u : Option Int} {xs : List Dv} {p2 : Pos} (ha : Ev F a ρ ta) (ea : er ta = .lst xs) (hl : Eo F lo ρ l) (hu : Eo F hi ρ u) : Ev F (.Subscript a (.Slice lo hi none p2) pos) ρ (.ow ((cutD xs l u).map .fz)) := by
  obtain ⟨τ,p,q⟩ := ha.use
  obtain ⟨zb,p1,q1⟩ := hl
  obtain ⟨zc,tQ,q2⟩ := hu
  refine ⟨Ji (HA F.K) τ zb zc,fun i => NR (F.hK i ▸ O7) (p i) (p1 i) (tQ i),fun σ G H Q s rr k => ?_⟩
  refine q σ G H _ s rr fun x G1 H1 s1 hx => q1 σ G1 H1 _ s1.s (rr.mono s1.g) fun G2 H2 s2 => q2 σ G2 H2 _ s2.s (rr.mono (s1.trans s2).g) fun G3 H3 s3 => ?_
  rw [ea] at hx
  obtain ⟨b,vs,rfl,h1,h2⟩ := hx
  have st := s2.trans s3
  exact ⟨b,vs,rfl,(st.g.trans st.s).seq h1,fun p hp => (k.step (s1.trans st)).lst st.s ((h2.mono st.g).cut l u).iD hp⟩
theorem rL {id : String} {x : Str} {r : List V -> Hp -> VK -> Prop} (hc : ∀ i,eG (F.cx i) (.builtin id) r) (hm : F.mg x = none) (hv : bootBuiltins x = some (.builtin id)) (ha : gH F (e :: es) ρ ts)
    (h : ∀ G H xs Q,ao G H -> aP F.K G (dW ts) xs -> Kv F.K G H t Q -> r xs H Q) {p' : Pos} (hg : ∀ i,Gl (F.cx i) x := by intro _; rfl) (hn : x ≠ "__name__" := by decide) (fH : (x == ("__debug__" : Str)) = false := by decide)
    (he : ∀ i,starEach (e :: es) (F.cx i).env = (false,eval e (F.cx i).env) :: starEach es (F.cx i).env := by intro _; rfl) (fh : ∀ i,(backTo pos (starEach es (F.cx i).env)).any (·.1) = false := by intro _; rfl) : Ev F (.Call (.Name x p') (e :: es) [] pos) ρ t := by
  obtain ⟨τ,y,z⟩ := ha.use
  refine ⟨iA r τ,fun i => oK (hc i) (hg i) ((F.hm i).symm ▸ hm) hv (y i) hn fH (he i) (fh i),fun σ G H Q s rr k => z σ G H _ s rr fun vs G1 H1 s1 hx => ?_⟩
  exact h G1 H1 vs Q s1.s hx (k.step s1)
theorem vG {T : String} {x : Str} {r : List V -> Hp -> VK -> Prop} (hc : ∀ i,eG (F.cx i) (.type T) r) (hm : F.mg x = none) (hv : bootBuiltins x = some (.type T)) (ha : gH F (e :: es) ρ ts)
    (h : ∀ G H xs Q,ao G H -> aP F.K G (dW ts) xs -> Kv F.K G H t Q -> r xs H Q) {p' : Pos} (hg : ∀ i,Gl (F.cx i) x := by intro _; rfl) (hn : x ≠ "__name__" := by decide) (fH : (x == ("__debug__" : Str)) = false := by decide)
    (he : ∀ i,starEach (e :: es) (F.cx i).env = (false,eval e (F.cx i).env) :: starEach es (F.cx i).env := by intro _; rfl) (fh : ∀ i,(backTo pos (starEach es (F.cx i).env)).any (·.1) = false := by intro _; rfl) : Ev F (.Call (.Name x p') (e :: es) [] pos) ρ t := by
  obtain ⟨τ,y,z⟩ := ha.use
  refine ⟨iA r τ,fun i => rB (hc i) (hg i) ((F.hm i).symm ▸ hm) hv (y i) hn fH (he i) (fh i),fun σ G H Q s rr k => z σ G H _ s rr fun vs G1 H1 s1 hx => ?_⟩
  exact h G1 H1 vs Q s1.s hx (k.step s1)
theorem ig {K : PySem.W.Frag} {G : Hp} {d : Dv} {xs : List V} (h : aP K G [d] xs) : ∃ x,xs = [x] /\ Hv K G d x := by
  obtain ⟨x,r,h1,h2,h3⟩ := h
  exact ⟨x,by rw [h1,show r = [] from h3],h2⟩
theorem S7 {K : PySem.W.Frag} {G : Hp} {d d' : Dv} {xs : List V} (h : aP K G [d,d'] xs) : ∃ x y,xs = [x,y] /\ Hv K G d x /\ Hv K G d' y := by
  obtain ⟨x,r,h1,h2,h3⟩ := h
  obtain ⟨y,rfl,h4⟩ := ig h3
  exact ⟨x,y,h1,h2,h4⟩
theorem cM {xs : List Dv} (hm : F.mg "len" = none) (ha : Ev F e ρ ta) (ea : er ta = .lst xs \/ er ta = .tup xs) {p' : Pos} (hg : ∀ i,Gl (F.cx i) "len" := by intro _; rfl)
    (hs : ∀ i,starEach [e] (F.cx i).env = [(false,eval e (F.cx i).env)] := by intro _; rfl) : Ev F (.Call (.Name "len" p') [e] [] pos) ρ (ti xs.length) :=
  rL (r := fun xs H Q => ∃ p ys,xs = [.ref p] /\ (aN F.K H p ys \/ cH F.K H p ys) /\ Q (.int ys.length) H) (fun i => Nc (F.hK i)) hm wL (ag ha ax hs) (fun G H vs Q s hx k => by
    obtain ⟨x,rfl,fi⟩ := ig hx
    replace hx := fi
    rcases ea with ea | ea
    · rw [ea] at hx
      obtain ⟨l,ys,rfl,h1,h2⟩ := hx
      exact ⟨l,ys,rfl,.inl (s.seq h1),by rw [<- h2.length]; exact k.sc s rfl⟩
    · rw [ea] at hx
      obtain ⟨l,ys,rfl,h1,h2⟩ := hx
      exact ⟨l,ys,rfl,.inr (s.tup h1),by rw [<- h2.length]; exact k.sc s rfl⟩) hg (by decide) (by decide) hs (fun _ => rfl)
theorem rX {xs : List Dv} (hm : F.mg "list" = none) (ha : Ev F e ρ ta) (ea : er ta = .lst xs \/ er ta = .tup xs) {p' : Pos} (hg : ∀ i,Gl (F.cx i) "list" := by intro _; rfl)
    (hs : ∀ i,starEach [e] (F.cx i).env = [(false,eval e (F.cx i).env)] := by intro _; rfl) : Ev F (.Call (.Name "list" p') [e] [] pos) ρ (.ow (xs.map .fz)) :=
  vG (r := fun xs H Q => ∃ p ys,xs = [.ref p] /\ (aN F.K H p ys \/ cH F.K H p ys) /\ ∀ l,H l = none -> Q (.ref l) (upd H l (.lst ys))) (fun i => F.hK i ▸ Cb) hm v7 (ag ha ax hs) (fun G H vs Q s hx k => by
    obtain ⟨x,rfl,fi⟩ := ig hx
    replace hx := fi
    rcases ea with ea | ea
    · rw [ea] at hx
      obtain ⟨l,ys,rfl,h1,h2⟩ := hx
      exact ⟨l,ys,rfl,.inl (s.seq h1),fun p hp => k.lst s h2.iD hp⟩
    · rw [ea] at hx
      obtain ⟨l,ys,rfl,h1,h2⟩ := hx
      exact ⟨l,ys,rfl,.inr (s.tup h1),fun p hp => k.lst s h2.iD hp⟩) hg (by decide) (by decide) hs (fun _ => rfl)
theorem Fb {n : Int} (hm : F.mg "abs" = none) (ha : Ev F e ρ (ti n)) {p' : Pos} (hg : ∀ i,Gl (F.cx i) "abs" := by intro _; rfl)
    (hs : ∀ i,starEach [e] (F.cx i).env = [(false,eval e (F.cx i).env)] := by intro _; rfl) : Ev F (.Call (.Name "abs" p') [e] [] pos) ρ (ti (if n < 0 then -n else n)) :=
  rL (fun i => NQ) hm Q2 (ag ha ax hs) (fun G H vs Q s hx k => by
    obtain ⟨x,rfl,fi⟩ := ig hx
    replace hx := fi
    exact ⟨n,by rw [aV hx],k.sc s rfl⟩) hg (by decide) (by decide) hs (fun _ => rfl)
def Jo : Dv -> Value
  | .fl .aM => .type "NoneType"
  | .fl (.bl _) => .type "bool"
  | .fl (.int _) => .type "int"
  | .fl (.str _) => .type "str"
  | .fl _ => .none
  | .lst _ => .type "list"
  | .tup _ => .type "tuple"
def HC (K : PySem.W.Frag) (d : Dv) (n : String) (b : Bool) : List V -> Hp -> VK -> Prop := fun xs H Q => ∃ x,xs = [x,.ty n] /\ Hv K H d x /\ PySem.W.kitOne K (Jo d) (.type n) = some b /\ Q (.bl b) H
theorem N0 {X : Cx} {d : Dv} {n : String} {b : Bool} : eG X (.builtin "isinstance") (HC X.K d n b) := by
  intro pins s σ H xs us Q I r h
  obtain ⟨x,rfl,hx,hb,q⟩ := h
  cases r with
  | cons r1 rr => cases rr with
    | cons r2 rr =>
      cases rr
      cases (show _ = Value.type n from r2)
      have fin : ∀ tk,EP X pins σ Q (.bool b) { s with toks := tk } := fun tk => ⟨.bl b,H,I.tok tk,rfl,q⟩
      cases d with
      | fl v =>
        obtain ⟨rfl,f⟩ := hx
        cases x with
        | aM => exact rA I r1 .aM hb fin
        | bl y => exact rA I r1 (.bl y) hb fin
        | int y => exact rA I r1 (.int y) hb fin
        | str y => exact rA I r1 (.str y) hb fin
        | gZ y => cases f
        | kN y => cases f
        | ref y => cases f
        | ty y => cases f
      | lst ds =>
        obtain ⟨a,xs,rfl,h1,_⟩ := hx
        cases r1
        obtain ⟨its,_,⟨o,n,h2,h3,_⟩,_⟩ := I.list h1
        exact PySem.W.kia_one PySem.W.kitx_list I.dC ⟨o,h2,h3⟩ hb (fun z => nomatch z) fin
      | tup ds =>
        obtain ⟨a,xs,rfl,h1,_⟩ := hx
        cases r1
        obtain ⟨its,_,⟨o,h2,h3,_⟩,_⟩ := I.tuple h1
        exact PySem.W.kia_one PySem.W.kitx_tuple I.dC ⟨o,h2,h3⟩ hb (fun z => nomatch z) fin
theorem Fc {x : Str} {n : String} {bo : Bool} (hm : F.mg "isinstance" = none) (qA : F.mg x = none) (hv : bootBuiltins x = some (.type n)) (ha : Ev F e ρ ta) (hk : PySem.W.kitOne F.K (Jo (er ta)) (.type n) = some bo) {p' p2 : Pos} (hg : ∀ i,Gl (F.cx i) "isinstance" := by intro _; rfl)
    (qB : ∀ i,Gl (F.cx i) x := by intro _; rfl) (hn : x ≠ "__name__" := by decide) (hd : (x == ("__debug__" : Str)) = false := by decide)
    (hs : ∀ i,starEach [e,.Name x p2] (F.cx i).env = [(false,eval e (F.cx i).env),(false,eval (.Name x p2) (F.cx i).env)] := by intro _; rfl) : Ev F (.Call (.Name "isinstance" p') [e,.Name x p2] [] pos) ρ (tb bo) := by
  obtain ⟨τ,y,z⟩ := ha.use
  refine ⟨iA (HC F.K (er ta) n bo) (dw τ (dw (tC (.ty n)) e9)),fun i => oK (F.hK i ▸ N0) (hg i) ((F.hm i).symm ▸ hm) Lk (du (y i) (du (OX (v := .ty n) (qB i) ((F.hm i).symm ▸ qA) hv rfl hn hd) eZ rfl) (hs i)) (by decide) (by decide) (hs i) rfl,fun σ G H Q s rr k => z σ G H _ s rr fun vs G1 H1 s1 hx => ?_⟩
  exact ⟨vs,rfl,hx.mono s1.s,hk,(k.step s1).sc s1.s rfl⟩
def spT (K : PySem.W.Frag) (R : List Dv -> Tr -> Prop) : Sp := fun vs H Q _ => ∃ G ds t,ao G H /\ aP K G ds vs /\ R ds t /\ Kv K G H t Q
theorem aU {k : Nat} {f : Addr} {fd : FuncData} {ps : List Str} {R : List Dv -> Tr -> Prop} {x : Str} (Fn : Kn F.P F.w F.K F.mg F.base au k x f fd ps (spT F.K R)) (hk : k <= F.room) (ha : gH F (e :: es) ρ ts) (hR : R (dW ts) t) {p' : Pos} (hg : ∀ i,Gl (F.cx i) x := by intro _; rfl) (fH : (x == ("__debug__" : Str)) = false := by decide)
    (he : ∀ i,starEach (e :: es) (F.cx i).env = (false,eval e (F.cx i).env) :: starEach es (F.cx i).env := by intro _; rfl) (fh : ∀ i,(backTo pos (starEach es (F.cx i).env)).any (·.1) = false := by intro _; rfl) : Ev F (.Call (.Name x p') (e :: es) [] pos) ρ t := by
  obtain ⟨τ,y,z⟩ := ha.use
  refine ⟨ng (spT F.K R) [] E0 τ,fun i => ?_,fun σ G H Q s rr k => z σ G H _ s rr fun vs G1 H1 s1 hx => ?_⟩
  · have qC : Kn (F.cx i).prog (F.cx i).w (F.cx i).K (F.cx i).mg (F.cx i).base au k x f fd ps (spT F.K R) := by
      rw [F.hP i,F.hw i,F.hK i,F.hm i,F.hb i]
      exact Fn
    exact GI qC ((F.hr i).mono hk) (hg i) (y i) fH (he i) (fh i)
  · show spT F.K R (vs ++ []) H1 Q E0
    rw [List.append_nil]
    exact ⟨G1,_,t,s1.s,hx,hR,k.step s1⟩
end
end L2
namespace L2
open PySem PySem.Spec PyProof.Rows
def aS (K : PySem.W.Frag) (G H : Hp) : En -> St -> List Addr -> Prop
  | [],σ,fp => σ = [] /\ fp = []
  | none :: ρ,σ,fp => ∃ o r,σ = o :: r /\ aS K G H ρ r fp
  | some t :: ρ,σ,fp => ∃ v r f1 f2,σ = some v :: r /\ fp = f1 ++ f2 /\ Ow K G H t v f1 /\ aS K G H ρ r f2
theorem aS.mono {K : PySem.W.Frag} {G G' H H' : Hp} (e : ao G G') (e' : ao H H') : ∀ {ρ : En} {σ : St} {fp : List Addr},aS K G H ρ σ fp -> aS K G' H' ρ σ fp
  | [],_,_,h => h
  | none :: _,_,_,⟨o,r,h1,h2⟩ => ⟨o,r,h1,aS.mono e e' h2⟩
  | some _ :: _,_,_,⟨v,r,f1,f2,h1,h2,h3,h4⟩ => ⟨v,r,f1,f2,h1,h2,h3.mono e e',aS.mono e e' h4⟩
theorem aS.frame {K : PySem.W.Frag} {G H : Hp} {a : Addr} {o : HO} : ∀ {ρ : En} {σ : St} {fp : List Addr},aS K G H ρ σ fp -> a ∉ fp -> aS K G (upd H a o) ρ σ fp
  | [],_,_,h,_ => h
  | none :: _,_,_,⟨o,r,h1,h2⟩,n => ⟨o,r,h1,aS.frame h2 n⟩
  | some _ :: _,_,_,⟨v,r,f1,f2,h1,h2,h3,h4⟩,n => by
    subst h2
    exact ⟨v,r,f1,f2,h1,rfl,h3.frame fun z => n (List.mem_append_left _ z),aS.frame h4 fun z => n (List.mem_append_right _ z)⟩
theorem aS.there {K : PySem.W.Frag} {G H : Hp} : ∀ {ρ : En} {σ : St} {fp : List Addr},aS K G H ρ σ fp -> ∀ a ∈ fp,∃ o,H a = some o
  | [],_,_,⟨_,h⟩,a,ha => by subst h; cases ha
  | none :: _,_,_,⟨o,r,h1,h2⟩,a,ha => aS.there h2 a ha
  | some _ :: _,_,_,⟨v,r,f1,f2,h1,h2,h3,h4⟩,a,ha => by
    subst h2
    rcases List.mem_append.mp ha with ha | ha
    · exact h3.there a ha
    · exact aS.there h4 a ha
theorem aS.off {K : PySem.W.Frag} {G H G1 H1 : Hp} {ρ : En} {σ : St} {fp : List Addr} (r : aS K G H ρ σ fp) (s1 : Step G H G1 H1) (g : ∀ a ∈ fp,G a = none) : ∀ a ∈ fp,G1 a = none := fun a ha => by
  cases q : G1 a with
  | none => rfl
  | some u =>
    obtain ⟨u',aW⟩ := r.there a ha
    have := s1.n a (g a ha) (by rw [q]; exact fun z => nomatch z)
    rw [aW] at this
    cases this
theorem aS.nR {K : PySem.W.Frag} {G H : Hp} : ∀ {ρ : En} {σ : St} {fp : List Addr},aS K G H ρ σ fp -> bQ K G ρ σ
  | [],_,_,_,j,d,h => by cases j <;> cases h
  | none :: _,_,_,⟨o,r,h1,h2⟩,0,d,h => by cases h
  | none :: _,_,_,⟨o,r,h1,h2⟩,j + 1,d,h => by subst h1; exact aS.nR h2 j d h
  | some _ :: _,_,_,⟨v,r,f1,f2,h1,h2,h3,h4⟩,0,d,h => by cases h; subst h1; exact ⟨v,rfl,h3.2⟩
  | some _ :: _,_,_,⟨v,r,f1,f2,h1,h2,h3,h4⟩,j + 1,d,h => by subst h1; exact aS.nR h4 j d h
def pk (ρ : En) : En := ρ.map (Option.map fun t => .fz (er t))
theorem aS.pk {K : PySem.W.Frag} {G H G' : Hp} (e : ao G G') : ∀ {ρ : En} {σ : St} {fp : List Addr},aS K G H ρ σ fp -> (∀ a ∈ fp,G' a = H a) -> bQ K G' (pk ρ) σ
  | [],_,_,_,_,j,d,h => by cases j <;> cases h
  | none :: _,_,_,⟨o,r,h1,h2⟩,_,0,d,h => by cases h
  | none :: _,_,_,⟨o,r,h1,h2⟩,q,j + 1,d,h => by subst h1; exact aS.pk e h2 q j d h
  | some _ :: _,_,_,⟨v,r,f1,f2,h1,h2,h3,h4⟩,q,0,d,h => by
    cases h; subst h1 h2; exact ⟨v,rfl,h3.hv e fun a ha => q a (List.mem_append_left _ ha)⟩
  | some _ :: _,_,_,⟨v,r,f1,f2,h1,h2,h3,h4⟩,q,j + 1,d,h => by
    subst h1 h2; exact aS.pk e h4 (fun a ha => q a (List.mem_append_right _ ha)) j d h
theorem aS.split {K : PySem.W.Frag} {G H : Hp} : ∀ {ρ : En} {σ : St} {fp : List Addr} {j : Nat} {t : Tr},aS K G H ρ σ fp -> ρ[j]? = some (some t) ->
    ∃ v f fr,σ[j]? = some (some v) /\ Ow K G H t v f /\ aS K G H (ρ.set j none) σ fr /\ fp.Perm (f ++ fr)
  | none :: _,_,_,0,_,_,h => by cases h
  | none :: _,_,_,j + 1,t,⟨o,r,h1,h2⟩,h => by
    subst h1
    obtain ⟨v,f,fr,q1,q2,q3,q4⟩ := aS.split (j := j) h2 h
    exact ⟨v,f,fr,q1,q2,⟨o,r,rfl,q3⟩,q4⟩
  | some _ :: _,_,_,0,t,⟨v,r,f1,f2,h1,h2,h3,h4⟩,h => by
    cases h; subst h1 h2
    exact ⟨v,f1,f2,rfl,h3,⟨some v,r,rfl,h4⟩,.refl _⟩
  | some _ :: _,_,_,j + 1,t,⟨v,r,f1,f2,h1,h2,h3,h4⟩,h => by
    subst h1 h2
    obtain ⟨v',f,fr,q1,q2,q3,q4⟩ := aS.split (j := j) h4 h
    refine ⟨v',f,f1 ++ fr,q1,q2,⟨v,r,f1,fr,rfl,rfl,h3,q3⟩,?_⟩
    refine (List.Perm.append_left f1 q4).trans ?_
    rw [<- List.append_assoc,<- List.append_assoc]
    exact List.Perm.append_right fr List.perm_append_comm
theorem aS.forget {K : PySem.W.Frag} {G H : Hp} : ∀ {ρ : En} {σ : St} {fp : List Addr} (j : Nat),aS K G H ρ σ fp -> ∃ fr,aS K G H (ρ.set j none) σ fr /\ fr.Sublist fp
  | [],_,_,_,h => ⟨_,h,.refl _⟩
  | none :: _,_,_,0,⟨o,r,h1,h2⟩ => ⟨_,⟨o,r,h1,h2⟩,.refl _⟩
  | none :: _,_,_,j + 1,⟨o,r,h1,h2⟩ => by
    obtain ⟨fr,q1,q2⟩ := aS.forget j h2
    exact ⟨fr,⟨o,r,h1,q1⟩,q2⟩
  | some _ :: _,_,_,0,⟨v,r,f1,f2,h1,h2,h3,h4⟩ => ⟨f2,⟨some v,r,h1,h4⟩,h2 ▸ List.sublist_append_right _ _⟩
  | some _ :: _,_,_,j + 1,⟨v,r,f1,f2,h1,h2,h3,h4⟩ => by
    obtain ⟨fr,q1,q2⟩ := aS.forget j h4
    exact ⟨f1 ++ fr,⟨v,r,f1,fr,h1,rfl,h3,q1⟩,h2 ▸ List.Sublist.append (.refl _) q2⟩
theorem aS.put {K : PySem.W.Frag} {G H : Hp} : ∀ {ρ : En} {σ : St} {fr : List Addr} {j : Nat} {t : Tr} {v : V} {f : List Addr},aS K G H ρ σ fr -> ρ[j]? = some none -> Ow K G H t v f ->
    ∃ fp,aS K G H (ρ.set j (some t)) (σ.set j (some v)) fp /\ fp.Perm (f ++ fr)
  | none :: _,_,fr,0,t,v,f,⟨o,r,h1,h2⟩,_,w => by subst h1; exact ⟨_,⟨v,r,f,fr,rfl,rfl,w,h2⟩,.refl _⟩
  | none :: _,_,_,j + 1,t,v,f,⟨o,r,h1,h2⟩,h,w => by
    subst h1
    obtain ⟨fp,q1,q2⟩ := aS.put (j := j) h2 h w
    exact ⟨fp,⟨o,_,rfl,q1⟩,q2⟩
  | some _ :: _,_,_,0,_,_,_,_,h,_ => by cases h
  | some _ :: _,_,_,j + 1,t,v,f,⟨v',r,f1,f2,h1,h2,h3,h4⟩,h,w => by
    subst h1 h2
    obtain ⟨fp,q1,q2⟩ := aS.put (j := j) h4 h w
    refine ⟨f1 ++ fp,⟨v',_,f1,fp,rfl,rfl,h3,q1⟩,?_⟩
    refine (List.Perm.append_left f1 q2).trans ?_
    rw [<- List.append_assoc,<- List.append_assoc]
    exact List.Perm.append_right f2 List.perm_append_comm
structure dX (K : PySem.W.Frag) (G0 H0 G H : Hp) (ρ : En) (σ : St) (fp : List Addr) : Prop where
  st : Step G0 H0 G H
  own : aS K G H ρ σ fp
  g : ∀ a ∈ fp,G a = none
  n : ∀ a ∈ fp,H0 a = none
  d : fp.Nodup
def RS (K : PySem.W.Frag) (G0 H0 G H : Hp) (ρ : En) (σ : St) : Prop := ∃ fp,dX K G0 H0 G H ρ σ fp
theorem rj {α : Type} {ρ : List (Option α)} {j : Nat} (h : j < ρ.length) : (ρ.set j none)[j]? = some none := by rw [List.getElem?_set]; simp [h]
theorem dX.forget {K : PySem.W.Frag} {G0 H0 G H : Hp} {ρ : En} {σ : St} {fp : List Addr} (r : dX K G0 H0 G H ρ σ fp) (j : Nat) : ∃ fr,dX K G0 H0 G H (ρ.set j none) σ fr /\ fr.Sublist fp := by
  obtain ⟨fr,q1,q2⟩ := r.own.forget j
  exact ⟨fr,⟨r.st,q1,fun a ha => r.g a (q2.subset ha),fun a ha => r.n a (q2.subset ha),r.d.sublist q2⟩,q2⟩
theorem RS.forget {K : PySem.W.Frag} {G0 H0 G H : Hp} {ρ : En} {σ : St} (r : RS K G0 H0 G H ρ σ) (j : Nat) : RS K G0 H0 G H (ρ.set j none) σ := by
  obtain ⟨fp,r⟩ := r
  obtain ⟨fr,q,_⟩ := r.forget j
  exact ⟨fr,q⟩
theorem dX.set {K : PySem.W.Frag} {G0 H0 G H G1 H1 : Hp} {ρ : En} {σ : St} {fp fq : List Addr} {j : Nat} {t : Tr} {v : V} (r : dX K G0 H0 G H ρ σ fp) (hj : j < ρ.length) (e : Step G H G1 H1) (o : Ow K G1 H1 t v fq) (w : Nw H G1 fq) :
    RS K G0 H0 G1 H1 (ρ.set j (some t)) (σ.set j (some v)) := by
  obtain ⟨fr,r1,sub⟩ := r.forget j
  have S8 := r1.own.mono e.g e.h
  obtain ⟨gI,q1,q2⟩ := S8.put (rj hj) o
  rw [List.set_set] at q1
  have dis : ∀ a ∈ fq,∀ b ∈ fr,a ≠ b := fun a ha b hb z => by
    subst z
    obtain ⟨u,hu⟩ := r1.own.there a hb
    rw [w.n a ha] at hu; cases hu
  refine ⟨gI,r.st.trans e,q1,fun a ha => ?_,fun a ha => ?_,q2.nodup_iff.mpr (List.nodup_append.mpr ⟨w.d,r1.d,dis⟩)⟩
  · rcases List.mem_append.mp (q2.mem_iff.mp ha) with z | z
    · exact w.g a z
    · cases q : G1 a with
      | none => rfl
      | some u =>
        obtain ⟨u',aW⟩ := r1.own.there a z
        have := e.n a (r1.g a z) (by rw [q]; exact fun z => nomatch z)
        rw [aW] at this; cases this
  · rcases List.mem_append.mp (q2.mem_iff.mp ha) with z | z
    · exact r.st.h.free (w.n a z)
    · exact r1.n a z
def less (H : Hp) (fp : List Addr) : Hp := fun a => if a ∈ fp then none else H a
theorem Ed {H : Hp} {fp : List Addr} {a : Addr} (h : a ∈ fp) : less H fp a = none := by unfold less; rw [if_pos h]
theorem Dj {H : Hp} {fp : List Addr} {a : Addr} (h : a ∉ fp) : less H fp a = H a := by unfold less; rw [if_neg h]
theorem N1 {H : Hp} {fp : List Addr} : ao (less H fp) H := fun b o e => by
  by_cases q : b ∈ fp
  · rw [Ed q] at e; cases e
  · rw [Dj q] at e; exact e
theorem CP {G H : Hp} {fp : List Addr} (s : ao G H) (h : ∀ a ∈ fp,G a = none) : ao G (less H fp) := fun b o e => by
  by_cases q : b ∈ fp
  · rw [h b q] at e; cases e
  · rw [Dj q]; exact s b o e
theorem dX.rebase {K : PySem.W.Frag} {G0 H0 G H : Hp} {ρ : En} {σ : St} {fp : List Addr} (r : dX K G0 H0 G H ρ σ fp) : dX K G (less H fp) G H ρ σ fp :=
  ⟨⟨ao.refl _,N1,r.st.s,fun a h h' => absurd h h'⟩,r.own,r.g,fun a ha => Ed ha,r.d⟩
theorem dX.base {K : PySem.W.Frag} {G0 H0 G H : Hp} {ρ : En} {σ : St} {fp : List Addr} (r : dX K G0 H0 G H ρ σ fp) : Step G0 H0 G (less H fp) :=
  ⟨r.st.g,CP r.st.h r.n,CP r.st.s r.g,r.st.n⟩
theorem RS.under {K : PySem.W.Frag} {G0 H0 G1 H1 G H : Hp} {ρ : En} {σ : St} (e : Step G0 H0 G1 H1) (r : RS K G1 H1 G H ρ σ) : RS K G0 H0 G H ρ σ := by
  obtain ⟨fp,r⟩ := r
  exact ⟨fp,e.trans r.st,r.own,r.g,fun a ha => e.h.free (r.n a ha),r.d⟩
inductive Out where
  | nx (ρ : En)
  | rt (t : Tr)
def sY (K : PySem.W.Frag) (G0 H0 : Hp) (D : Ends) : Out -> Prop
  | .nx ρ => ∀ σ G H,RS K G0 H0 G H ρ σ -> D.nx σ H
  | .rt t => ∀ v G H fq,Step G0 H0 G H -> Ow K G H t v fq -> Nw H0 G fq -> D.rt v H
theorem sY.under {K : PySem.W.Frag} {G0 H0 G1 H1 : Hp} {D : Ends} {o : Out} (e : Step G0 H0 G1 H1) (p : sY K G0 H0 D o) : sY K G1 H1 D o := by
  cases o with
  | nx ρ => exact fun σ G H r => p σ G H (r.under e)
  | rt t => exact fun v G H fq s o w => p v G H fq (e.trans s) o ⟨fun a ha => e.h.free (w.n a ha),w.g,w.d⟩
def Jp (K : PySem.W.Frag) (τ : TS) (ρ : En) (o : Out) : Prop := ∀ D σ G0 H0 G H,RS K G0 H0 G H ρ σ -> sY K G0 H0 D o -> τ D σ H
section
variable {ι : Type}
def Rn (F : bb ι) (st : Stmt) (ρ : En) (o : Out) : Prop := ∃ τ : TS,(∀ i,PS (F.cx i) st τ) /\ Jp F.K τ ρ o
def bp (F : bb ι) (cu : List Stmt) (ρ : En) (o : Out) : Prop := ∃ τ : TS,(∀ i,eM (F.cx i) cu τ) /\ Jp F.K τ ρ o
def bL (F : bb ι) (e : Expr) (ρ : En) (t : Tr) : Prop := ∃ τ : TE,(∀ i,PE (F.cx i) e τ) /\ ∀ σ G H fp Q,ao G H -> aS F.K G H ρ σ fp -> (∀ a ∈ fp,G a = none) -> Kv F.K G H t Q -> τ σ H Q
def fT (F : bb ι) (e : Expr) (ρ : En) (b : Bool) : Prop := ∃ τ : TT,(∀ i,PT (F.cx i) e τ) /\ ∀ σ G H fp Q,ao G H -> aS F.K G H ρ σ fp -> (∀ a ∈ fp,G a = none) -> (∀ G' H',Step G H G' H' -> Q b H') -> τ σ H Q
variable {F : bb ι} {e a b c : Expr} {es : List Expr} {ρ ρ1 : En} {t : Tr} {ts : List Tr} {pos : Pos} {o : Out} {st : Stmt} {cu A B : List Stmt}
theorem Ev.s (h : Ev F e ρ t) : bL F e ρ t := let ⟨τ,x,y⟩ := h; ⟨τ,x,fun σ G H fp Q s r _ k => y σ G H Q s r.nR k⟩
theorem Et.s {p : Bool} (h : Et F e ρ p) : fT F e ρ p := let ⟨τ,x,y⟩ := h; ⟨τ,x,fun σ G H fp Q s r _ k => y σ G H Q s r.nR k⟩
mutual
def Cl : Tr -> Prop
  | .fz (.fl _) => True
  | .fz _ => False
  | .ow ts => nD ts
  | .tp ts => nD ts
def nD : List Tr -> Prop
  | [] => True
  | t :: ts => Cl t /\ nD ts
end
mutual
theorem Ow.cl {K : PySem.W.Frag} {G G' H : Hp} : ∀ {t : Tr} {v : V} {fp : List Addr},Cl t -> Ow K G H t v fp -> Ow K G' H t v fp
  | .fz (.fl _),_,_,_,h => h
  | .fz (.lst _),_,_,c,_ => c.elim
  | .fz (.tup _),_,_,c,_ => c.elim
  | .ow _,_,_,c,⟨b,vs,fq,h1,h2,h3,h4⟩ => ⟨b,vs,fq,h1,h2,aK.cl c h3,h4⟩
  | .tp _,_,_,c,⟨b,vs,fq,h1,h2,h3,h4⟩ => ⟨b,vs,fq,h1,h2,aK.cl c h3,h4⟩
theorem aK.cl {K : PySem.W.Frag} {G G' H : Hp} : ∀ {ts : List Tr} {vs : List V} {fp : List Addr},nD ts -> aK K G H ts vs fp -> aK K G' H ts vs fp
  | [],_,_,_,h => h
  | _ :: _,_,_,⟨c1,c2⟩,⟨v,r,f1,f2,h1,h2,h3,h4⟩ => ⟨v,r,f1,f2,h1,h2,h3.cl c1,aK.cl c2 h4⟩
end
theorem v8 : ∀ ns : List Int,nD (ns.map fun n => Tr.fz (di n))
  | [] => True.intro
  | _ :: ns => ⟨True.intro,v8 ns⟩
theorem Ev.pk (h : Ev F e (pk ρ) t) (c : Cl t) : bL F e ρ t := by
  obtain ⟨τ,x,y⟩ := h
  refine ⟨τ,x,fun σ G H fp Q s r hg k => ?_⟩
  refine y σ (eK G H fp) H Q (rH s) (r.pk (i7 hg) fun a ha => jJ ha) fun v G' H' fq st o w => ?_
  refine k v G H' fq ⟨ao.refl _,st.h,s.trans st.h,fun a h h' => absurd h h'⟩ (o.cl c) ⟨w.n,fun a ha => s.free (w.n a ha),w.d⟩
theorem v9 : bp F [] ρ (.nx ρ) := ⟨Gp,fun _ => OZ,fun D σ G0 H0 G H r k => k σ G H r⟩
theorem aw (h1 : Rn F st ρ (.nx ρ1)) (h2 : bp F cu ρ1 o) : bp F (st :: cu) ρ o := by
  obtain ⟨τ,x,y⟩ := h1
  obtain ⟨bY,x',y'⟩ := h2
  exact ⟨kF τ bY,fun i => oH (x i) (x' i),fun D σ G0 H0 G H r k => y _ σ G0 H0 G H r fun aE G1 H1 r1 => y' D aE G0 H0 G1 H1 r1 k⟩
theorem wa (h1 : Rn F st ρ (.rt t)) : bp F (st :: cu) ρ (.rt t) := by
  obtain ⟨τ,x,y⟩ := h1
  exact ⟨kF τ sj,fun i => oH (x i) vi,fun D σ G0 H0 G H r k => y _ σ G0 H0 G H r k⟩
theorem aJ (h1 : Rn F st ρ o) : bp F [st] ρ o := by
  obtain ⟨τ,x,y⟩ := h1
  exact ⟨τ,fun i => vW (x i),y⟩
theorem aH (j : Nat) {x : Str} {pos' : Pos} (he : bL F e ρ t) (hN : ∀ i,(F.cx i).N.Nodup) (hj : Nat.blt j ρ.length = true := by rfl) (hi : ∀ i,(F.cx i).N[j]? = some x := by intro _; rfl) (hx : ∀ i,Loc (F.cx i).env.scope x := by intro _; first | exact Or.inl rfl | exact Or.inr rfl)
    (hs : ∀ i,swapsWith e (some (.Name x pos')) pos.line (F.cx i).env = pure false := by intro _; rfl) (hf : ∀ i,(F.cx i).fn x = true \/ (F.cx i).env.scope.names.lookup x = some .local := by intro _; first | exact .inl rfl | exact .inr rfl) :
    Rn F (.Assign [.Name x pos'] e pos) ρ (.nx (ρ.set j (some t))) := by
  obtain ⟨τ,y,z⟩ := he
  refine ⟨kG τ (eE j),fun i => wG (hN i) (hi i) (hx i) (y i) (hs i) (hf i),fun D σ G0 H0 G H r k => ?_⟩
  obtain ⟨fp,r⟩ := r
  exact z σ G H fp _ r.st.s r.own r.g fun v G1 H1 fq s1 o w => k _ G1 H1 (r.set (Nat.le_of_ble_eq_true hj) s1 o w)
theorem bW (he : bL F e ρ t) : Rn F (.Return (some e) pos) ρ (.rt t) := by
  obtain ⟨τ,y,z⟩ := he
  refine ⟨sT τ,fun i => wF (y i),fun D σ G0 H0 G H r k => ?_⟩
  obtain ⟨fp,r⟩ := r
  exact z σ G H fp _ r.st.s r.own r.g fun v G1 H1 fq s1 o w => k v G1 H1 fq (r.st.trans s1) o ⟨fun a ha => r.st.h.free (w.n a ha),w.g,w.d⟩
theorem kj (j : Nat) {x : Str} {p' : Pos} (h : ρ[j]? = some (some t)) (hN : ∀ i,(F.cx i).N[j]? = some x := by intro _; rfl)
    (hv : ∀ i,ip (F.cx i).env.scope x := by intro _; first | exact Or.inl rfl | exact Or.inr (Or.inl rfl) | exact Or.inr (Or.inr rfl)) (hd : (x == ("__debug__" : Str)) = false := by decide) (hc : (x == ("__classdict__" : Str)) = false := by decide) : Rn F (.Return (some (.Name x p')) pos) ρ (.rt t) := by
  refine ⟨sT (cP j),fun i => wF (ko (hN i) (hv i) hd hc),fun D σ G0 H0 G H r k => ?_⟩
  obtain ⟨fp,r⟩ := r
  obtain ⟨v,f,fr,q1,q2,q3,q4⟩ := r.own.split h
  have sub : ∀ a ∈ f,a ∈ fp := fun a ha => q4.mem_iff.mpr (List.mem_append_left _ ha)
  exact ⟨v,q1,k v G H f r.st q2 ⟨fun a ha => r.n a (sub a ha),fun a ha => r.g a (sub a ha),(List.nodup_append.mp (q4.nodup_iff.mp r.d)).1⟩⟩
theorem Ee (he : bL F e ρ t) (hs : ∀ i,swapsWith e none pos.line (F.cx i).env = pure false := by intro _; rfl) : Rn F (.Expr e pos) ρ (.nx ρ) := by
  obtain ⟨τ,y,z⟩ := he
  refine ⟨pD τ,fun i => rQ (y i) (hs i),fun D σ G0 H0 G H r k => ?_⟩
  obtain ⟨fp,r⟩ := r
  refine z σ G H fp _ r.st.s r.own r.g fun v G1 H1 fq s1 o w => k σ G1 H1 ⟨fp,r.st.trans s1,r.own.mono s1.g s1.h,r.own.off s1 r.g,r.n,r.d⟩
theorem xB {p : Bool} (hc : fT F c ρ p) (h1 : p = true -> bp F A ρ o) (h2 : p = false -> bp F B ρ o) : Rn F (.If c A B pos) ρ o := by
  obtain ⟨τ,y,z⟩ := hc
  have key : ∀ {G0 H0 G H G1 H1 : Hp} {σ : St} {fp : List Addr},dX F.K G0 H0 G H ρ σ fp -> Step G H G1 H1 -> RS F.K G0 H0 G1 H1 ρ σ := fun {G0 H0 G H G1 H1 σ fp} r s1 => ⟨fp,r.st.trans s1,r.own.mono s1.g s1.h,r.own.off s1 r.g,r.n,r.d⟩
  cases p with
  | true =>
    obtain ⟨bY,x',y'⟩ := h1 rfl
    refine ⟨x4 τ bY sj,fun i => Gq (y i) (x' i) vi,fun D σ G0 H0 G H r k => ?_⟩
    obtain ⟨fp,r⟩ := r
    exact z σ G H fp _ r.st.s r.own r.g fun G1 H1 s1 => kI (y' D σ G0 H0 G1 H1 (key r s1) k)
  | false =>
    obtain ⟨bY,x',y'⟩ := h2 rfl
    refine ⟨x4 τ sj bY,fun i => Gq (y i) vi (x' i),fun D σ G0 H0 G H r k => ?_⟩
    obtain ⟨fp,r⟩ := r
    exact z σ G H fp _ r.st.s r.own r.g fun G1 H1 s1 => kH (y' D σ G0 H0 G1 H1 (key r s1) k)
theorem vH {α : Type} : ∀ {l : List α} {j : Nat} {v : α},l[j]? = some v -> l.set j v = l
  | _ :: _,0,_,h => by cases h; rfl
  | _ :: _,j + 1,_,h => by rw [List.set_cons_succ,vH (l := _) (j := j) h]
theorem MF (j : Nat) (hj : ρ[j]? = some (some t)) (h : bp F cu (ρ.set j (some (.fz (er t)))) o) : bp F cu ρ o := by
  obtain ⟨τ,x,y⟩ := h
  refine ⟨τ,x,fun D σ G0 H0 G H r k => ?_⟩
  obtain ⟨fp,r⟩ := r
  obtain ⟨v,f,fr,q1,q2,q3,q4⟩ := r.own.split hj
  have nd := List.nodup_append.mp (q4.nodup_iff.mp r.d)
  have sub : ∀ a ∈ f,a ∈ fp := fun a ha => q4.mem_iff.mpr (List.mem_append_left _ ha)
  have HD : ∀ a ∈ fr,a ∈ fp := fun a ha => q4.mem_iff.mpr (List.mem_append_right _ ha)
  have sm : ao G (eK G H f) := i7 fun a ha => r.g a (sub a ha)
  have lt : j < ρ.length := by
    rcases Nat.lt_or_ge j ρ.length with z | z
    · exact z
    · rw [List.getElem?_eq_none z] at hj; cases hj
  obtain ⟨gI,p1,p2⟩ := (q3.mono sm (ao.refl _)).put (f := []) (t := .fz (er t)) (rj lt) ⟨rfl,q2.hv sm fun a ha => jJ ha⟩
  rw [List.set_set,vH q1] at p1
  refine y D σ G0 H0 (eK G H f) H ⟨gI,⟨r.st.g.trans sm,r.st.h,rH r.st.s,fun a h h' => ?_⟩,p1,fun a ha => ?_,fun a ha => r.n a (HD a (p2.mem_iff.mp ha)),p2.nodup_iff.mpr nd.2.1⟩ k
  · by_cases z : a ∈ f
    · exact r.n a (sub a z)
    · rw [mF z] at h'; exact r.st.n a h h'
  · have z := p2.mem_iff.mp ha
    rw [mF fun z' => nd.2.2 a z' a z rfl]
    exact r.g a (HD a z)
theorem dX.chg {K : PySem.W.Frag} {G0 H0 G H G1 H1 : Hp} {ρ : En} {σ : St} {fp : List Addr} {j : Nat} {t : Tr} (r : dX K G0 H0 G H ρ σ fp) (hj : ρ[j]? = some (some t)) (s1 : Step G H G1 H1) :
    ∃ v f,σ[j]? = some (some v) /\ Ow K G H t v f /\ Ow K G1 H1 t v f /\ f.Nodup /\ (∀ a ∈ f,a ∈ fp) /\ ∀ l o t' f',l ∈ f -> Ow K G1 (upd H1 l o) t' v f' -> f'.Nodup -> (∀ a ∈ f',a ∈ f \/ (H a = none /\ G1 a = none)) -> RS K G0 H0 G1 (upd H1 l o) (ρ.set j (some t')) σ := by
  obtain ⟨v,f,fr,q1,q2,q3,q4⟩ := r.own.split hj
  have dG := List.nodup_append.mp (q4.nodup_iff.mp r.d)
  have nS : ∀ a ∈ f,a ∈ fp := fun a ha => q4.mem_iff.mpr (List.mem_append_left _ ha)
  have Jq : ∀ a ∈ fr,a ∈ fp := fun a ha => q4.mem_iff.mpr (List.mem_append_right _ ha)
  have lt : j < ρ.length := by
    rcases Nat.lt_or_ge j ρ.length with z | z
    · exact z
    · rw [List.getElem?_eq_none z] at hj; cases hj
  have lG : ∀ a ∈ fp,G1 a = none := fun a ha => by
    cases q : G1 a with
    | none => rfl
    | some u =>
      obtain ⟨u',aW⟩ := r.own.there a ha
      have := s1.n a (r.g a ha) (by rw [q]; exact fun z => nomatch z)
      rw [aW] at this; cases this
  refine ⟨v,f,q1,q2,q2.mono s1.g s1.h,dG.1,nS,fun l o t' f' hl ow nw hw => ?_⟩
  have new : ∀ a,H a = none -> a ∉ fp := fun a ha hb => by
    obtain ⟨u,hu⟩ := r.own.there a hb
    rw [ha] at hu; cases hu
  have X0 : aS K G1 (upd H1 l o) (ρ.set j none) σ fr := (q3.mono s1.g s1.h).frame fun z => dG.2.2 l hl l z rfl
  obtain ⟨gI,Jr,tQ⟩ := X0.put (rj lt) ow
  rw [List.set_set,vH q1] at Jr
  have HE : ∀ a ∈ gI,a ∈ fp \/ (H a = none /\ G1 a = none) := fun a ha => by
    rcases List.mem_append.mp (tQ.mem_iff.mp ha) with z | z
    · exact (hw a z).imp (nS a) id
    · exact .inl (Jq a z)
  refine ⟨gI,⟨(r.st.trans s1).g,fun b u hb => ?_,fun b u hb => ?_,(r.st.trans s1).n⟩,Jr,fun a ha => ?_,fun a ha => ?_,?_⟩
  · have fK := (r.st.trans s1).h b u hb
    rw [bh fun z => ?_]
    · exact fK
    · subst z; rw [r.n _ (nS _ hl)] at hb; cases hb
  · have fK := s1.s b u hb
    rw [bh fun z => ?_]
    · exact fK
    · subst z; rw [lG _ (nS _ hl)] at hb; cases hb
  · exact (HE a ha).elim (lG a) fun z => z.2
  · exact (HE a ha).elim (r.n a) fun z => r.st.h.free z.1
  · refine tQ.nodup_iff.mpr (List.nodup_append.mpr ⟨nw,dG.2.1,fun a ha b hb z => ?_⟩)
    subst z
    rcases hw a ha with z | z
    · exact dG.2.2 a z a hb rfl
    · exact new a z.1 (Jq a hb)
theorem dX.mut {K : PySem.W.Frag} {G0 H0 G H G1 H1 : Hp} {ρ : En} {σ : St} {fp : List Addr} {j : Nat} {us : List Tr} (r : dX K G0 H0 G H ρ σ fp) (hj : ρ[j]? = some (some (.ow us))) (s1 : Step G H G1 H1) :
    ∃ l vs fq,σ[j]? = some (some (.ref l)) /\ H l = some (.lst vs) /\ H1 l = some (.lst vs) /\ aK K G1 H1 us vs fq /\ fq.Nodup /\ (∀ a ∈ fq,a ∈ fp) /\ ∀ tR ws fw,aK K G1 H1 tR ws fw -> fw.Nodup -> (∀ a ∈ fw,a ∈ fq \/ (H a = none /\ G1 a = none)) -> RS K G0 H0 G1 (upd H1 l (.lst ws)) (ρ.set j (some (.ow tR))) σ := by
  obtain ⟨v,f,q1,q2,q3,nd,nS,q⟩ := r.chg hj s1
  obtain ⟨l,vs,fq,rfl,hl,ol,rfl⟩ := q3
  obtain ⟨l',lh,X1,e1,tS,_,e2⟩ := q2
  cases e1
  have ev : lh = vs := by
    have := s1.h _ _ tS
    rw [hl] at this
    cases this; rfl
  subst ev
  have Js := List.nodup_cons.mp nd
  refine ⟨l,lh,fq,q1,tS,hl,ol,Js.2,fun a ha => nS a (.tail _ ha),fun tR ws fw ow nw hw => ?_⟩
  have Jt : l ∉ fw := fun z => (hw l z).elim Js.1 fun z => by rw [z.1] at tS; cases tS
  exact q l (.lst ws) (.ow tR) (l :: fw) (.head _) ⟨l,ws,fw,rfl,cL,ow.frame Jt,rfl⟩ (List.nodup_cons.mpr ⟨Jt,nw⟩) fun a ha => (List.mem_cons.mp ha).elim (fun z => .inl (z ▸ .head _)) fun z => (hw a z).imp (fun z => .tail _ z) id
theorem oB (j : Nat) {x : Str} {us : List Tr} {p1 p2 p3 : Pos} (h : ρ[j]? = some (some (.ow us))) (he : bL F e ρ t) (hz : us.length < sizeLine) (hN : ∀ i,(F.cx i).N[j]? = some x := by intro _; rfl)
    (hv : ∀ i,ip (F.cx i).env.scope x := by intro _; first | exact Or.inl rfl | exact Or.inr (Or.inl rfl) | exact Or.inr (Or.inr rfl)) (hd : (x == ("__debug__" : Str)) = false := by decide) (hc : (x == ("__classdict__" : Str)) = false := by decide)
    (gk : ∀ i,attributeBase (.Name x p1) "append" (F.cx i).env (eval (.Name x p1) (F.cx i).env) = eval (.Name x p1) (F.cx i).env := by intro _; rfl)
    (gC : ∀ i,((backTo p3 (starEach [e] (F.cx i).env)).all (fun x => !x.1) && (backToKw p3 (keywordEach [] (F.cx i).env)).all (fun x => x.1.isSome) && decide (([e] : List Expr).length + ([] : List Keyword).length + (if ([] : List Keyword).isEmpty then 0 else 1) < 30)) = true := by intro _; rfl)
    (hline : (p2.endLine == p3.line) = true := by rfl) (hs : ∀ i,starEach [e] (F.cx i).env = [(false,eval e (F.cx i).env)] := by intro _; rfl) (jz : ∀ i,swapsWith (.Call (.Attribute (.Name x p1) "append" p2) [e] [] p3) none pos.line (F.cx i).env = pure false := by intro _; rfl) :
    Rn F (.Expr (.Call (.Attribute (.Name x p1) "append" p2) [e] [] p3) pos) ρ (.nx (ρ.set j (some (.ow (us ++ [t]))))) := by
  obtain ⟨τ,y,z⟩ := he
  refine ⟨pD (nO F.K "list" vZ (cP j) (dw τ e9)),fun i => rQ (F.hK i ▸ pF PySem.F.plainAttrs_list PySem.F.slot_list_append PySem.F.type_list_append rC (ko (hN i) (hv i) hd hc) (du (y i) eZ (hs i)) (gk i) (gC i) hline (hs i) rfl) (jz i),fun D σ G0 H0 G H r k => ?_⟩
  obtain ⟨fp,r⟩ := r
  obtain ⟨l0,zf,zg,c1,c2,_⟩ := r.mut h (.refl r.st.s)
  refine ⟨_,c1,.inl ⟨rfl,_,aN.of c2⟩,?_⟩
  refine z σ G H fp _ r.st.s r.own r.g fun v1 G1 H1 f1 s1 o1 w1 => ?_
  obtain ⟨l,vs,fq,d1,d2,d3,d4,d5,d6,d7⟩ := r.mut h s1
  rw [c1] at d1
  cases d1
  refine ⟨l0,vs,v1,rfl,rfl,d3,by rw [<- d4.length]; exact hz,k σ G1 _ (d7 (us ++ [t]) (vs ++ [v1]) (fq ++ (f1 ++ [])) (d4.append ⟨v1,[],f1,[],rfl,rfl,o1,rfl,rfl⟩) ?_ fun a ha => ?_)⟩
  · rw [List.append_nil]
    refine List.nodup_append.mpr ⟨d5,w1.d,fun a ha b hb e => ?_⟩
    subst e
    obtain ⟨u,hu⟩ := r.own.there a (d6 a ha)
    rw [w1.n a hb] at hu; cases hu
  · rw [List.append_nil] at ha
    exact (List.mem_append.mp ha).imp id fun z => ⟨w1.n a z,w1.g a z⟩
theorem Nf (j : Nat) {x : Str} {us : List Tr} {p1 p2 p3 : Pos} (h : ρ[j]? = some (some (.ow us))) {lh : List Tr} (he : bL F e ρ (.ow lh)) (hz : us.length + lh.length <= sizeLine) (hN : ∀ i,(F.cx i).N[j]? = some x := by intro _; rfl)
    (hv : ∀ i,ip (F.cx i).env.scope x := by intro _; first | exact Or.inl rfl | exact Or.inr (Or.inl rfl) | exact Or.inr (Or.inr rfl)) (hd : (x == ("__debug__" : Str)) = false := by decide) (hc : (x == ("__classdict__" : Str)) = false := by decide)
    (gk : ∀ i,attributeBase (.Name x p1) "extend" (F.cx i).env (eval (.Name x p1) (F.cx i).env) = eval (.Name x p1) (F.cx i).env := by intro _; rfl)
    (gC : ∀ i,((backTo p3 (starEach [e] (F.cx i).env)).all (fun x => !x.1) && (backToKw p3 (keywordEach [] (F.cx i).env)).all (fun x => x.1.isSome) && decide (([e] : List Expr).length + ([] : List Keyword).length + (if ([] : List Keyword).isEmpty then 0 else 1) < 30)) = true := by intro _; rfl)
    (hline : (p2.endLine == p3.line) = true := by rfl) (hs : ∀ i,starEach [e] (F.cx i).env = [(false,eval e (F.cx i).env)] := by intro _; rfl) (jz : ∀ i,swapsWith (.Call (.Attribute (.Name x p1) "extend" p2) [e] [] p3) none pos.line (F.cx i).env = pure false := by intro _; rfl) :
    Rn F (.Expr (.Call (.Attribute (.Name x p1) "extend" p2) [e] [] p3) pos) ρ (.nx (ρ.set j (some (.ow (us ++ lh))))) := by
  obtain ⟨τ,y,z⟩ := he
  refine ⟨pD (nO F.K "list" D9 (cP j) (dw τ e9)),fun i => rQ (F.hK i ▸ pF PySem.F.plainAttrs_list PySem.F.slot_list_extend PySem.F.type_list_extend M7 (ko (hN i) (hv i) hd hc) (du (y i) eZ (hs i)) (gk i) (gC i) hline (hs i) rfl) (jz i),fun D σ G0 H0 G H r k => ?_⟩
  obtain ⟨fp,r⟩ := r
  obtain ⟨l0,zf,zg,c1,c2,_⟩ := r.mut h (.refl r.st.s)
  refine ⟨_,c1,.inl ⟨rfl,_,aN.of c2⟩,?_⟩
  refine z σ G H fp _ r.st.s r.own r.g fun v1 G1 H1 f1 s1 o1 w1 => ?_
  obtain ⟨l,vs,fq,d1,d2,d3,d4,d5,d6,d7⟩ := r.mut h s1
  rw [c1] at d1
  cases d1
  obtain ⟨b,zs,X2,rfl,hb,ob,rfl⟩ := o1
  have wd := List.nodup_cons.mp w1.d
  refine ⟨l0,b,vs,zs,rfl,rfl,d3,hb,by rw [<- d4.length,<- ob.length]; exact hz,k σ G1 _ (d7 (us ++ lh) (vs ++ zs) (fq ++ X2) (d4.append ob) ?_ fun a ha => ?_)⟩
  · refine List.nodup_append.mpr ⟨d5,wd.2,fun a ha b hb e => ?_⟩
    subst e
    obtain ⟨u,hu⟩ := r.own.there a (d6 a ha)
    rw [w1.n a (.tail _ hb)] at hu; cases hu
  · exact (List.mem_append.mp ha).imp id fun z => ⟨w1.n a (.tail _ z),w1.g a (.tail _ z)⟩
end
end L2
namespace L2
open PySem PySem.Spec PyProof.Rows
def zh (K : PySem.W.Frag) (G : Hp) (J : It) (its : List Dv) : Prop := ∀ k G1 H1,ao G G1 -> ao G1 H1 ->
  (∀ d,its[k]? = some d -> J.go k H1 /\ ∀ x H3,J.nL k H1 x H3 -> ∃ G3,Step G1 H1 G3 H3 /\ Hv K G3 d x) /\ (k = its.length -> J.stop k H1)
def bF {α : Type} : List Nat -> List α -> List (Option α) -> List (Option α)
  | j :: js,v :: vs,σ => bF js vs (σ.set j (some v))
  | _,_,σ => σ
def gh {α : Type} : List Nat -> List (Option α) -> List (Option α)
  | [],ρ => ρ
  | j :: js,ρ => gh js (ρ.set j none)
theorem RS.gh {K : PySem.W.Frag} {G0 H0 G H : Hp} : ∀ {ρ : En} {σ : St} (js : List Nat),RS K G0 H0 G H ρ σ -> RS K G0 H0 G H (L2.gh js ρ) σ
  | _,_,[],r => r
  | _,_,j :: js,r => RS.gh js (r.forget j)
def Fg (ρ ρ' : En) : Prop := ∃ fs,L2.gh fs ρ = ρ'
theorem Fg.rs {K : PySem.W.Frag} {G0 H0 G H : Hp} {ρ ρ' : En} {σ : St} (f : Fg ρ ρ') (r : RS K G0 H0 G H ρ σ) : RS K G0 H0 G H ρ' σ := by
  obtain ⟨fs,rfl⟩ := f
  exact r.gh fs
theorem RS.bF {K : PySem.W.Frag} {G0 H0 G H : Hp} : ∀ {js : List Nat} {ds : List Dv} {vs : List V} {ρ : En} {σ : St},(∀ j ∈ js,j < ρ.length) -> aP K G ds vs -> RS K G0 H0 G H ρ σ -> RS K G0 H0 G H (L2.bF js (ds.map .fz) ρ) (L2.bF js vs σ)
  | [],_,_,_,_,_,_,r => r
  | _ :: _,[],_,_,_,_,h,r => by rw [show _ = [] from h]; exact r
  | j :: js,d :: ds,_,ρ,σ,hj,⟨x,q,h1,h2,h3⟩,⟨fp,r⟩ => by
    subst h1
    have r' : RS K G0 H0 G H (ρ.set j (some (.fz d))) (σ.set j (some x)) := r.set (t := .fz d) (v := x) (fq := []) (hj j (.head _)) (.refl r.st.s) ⟨rfl,h2⟩ .nil
    exact RS.bF (js := js) (ds := ds) (fun i hi => by rw [List.length_set]; exact hj i (.tail _ hi)) h3 r'
theorem bQ.set {K : PySem.W.Frag} {G : Hp} {ρ : En} {σ : St} {j : Nat} {d : Dv} {v : V} (r : bQ K G ρ σ) (hj : j < σ.length) (h : Hv K G d v) : bQ K G (ρ.set j (some (.fz d))) (σ.set j (some v)) := fun i e hi => by
  by_cases q : i = j
  · subst q
    rw [List.getElem?_set_self (by
      rcases Nat.lt_or_ge i ρ.length with z | z
      · exact z
      · rw [List.getElem?_eq_none (by rw [List.length_set]; exact z)] at hi; cases hi)] at hi
    cases hi
    exact ⟨v,by rw [List.getElem?_set_self hj],h⟩
  · rw [List.getElem?_set_ne (Ne.symm q)] at hi
    obtain ⟨u,h1,h2⟩ := r i e hi
    exact ⟨u,by rw [List.getElem?_set_ne (Ne.symm q)]; exact h1,h2⟩
theorem vf {α : Type} : ∀ (js : List Nat) (vs : List α) (σ : List (Option α)),(bF js vs σ).length = σ.length
  | [],_,_ => rfl
  | _ :: _,[],_ => rfl
  | j :: js,v :: vs,σ => by
    show (bF js vs (σ.set j (some v))).length = _
    rw [vf js vs,List.length_set]
theorem bQ.bF {K : PySem.W.Frag} {G : Hp} : ∀ {js : List Nat} {ds : List Dv} {vs : List V} {ρ : En} {σ : St},(∀ j ∈ js,j < σ.length) -> aP K G ds vs -> bQ K G ρ σ -> bQ K G (L2.bF js (ds.map .fz) ρ) (L2.bF js vs σ)
  | [],_,_,_,_,_,_,r => r
  | _ :: _,[],_,_,_,_,h,r => by rw [show _ = [] from h]; exact r
  | j :: js,d :: ds,_,ρ,σ,hj,⟨x,q,h1,h2,h3⟩,r => by
    subst h1
    exact bQ.bF (js := js) (ds := ds) (ρ := ρ.set j (some (.fz d))) (fun i hi => by rw [List.length_set]; exact hj i (.tail _ hi)) h3 (r.set (hj j (.head _)) h2)
section
variable {ι : Type}
def bz (F : bb ι) (tg iter : Expr) (ρ : En) (its : List Dv) : Prop := ∃ wi : TI,(∀ i,PI (F.cx i) tg iter wi) /\ ∀ σ G H (R : It -> Hp -> Prop),ao G H -> bQ F.K G ρ σ -> (∀ J G' H',Step G H G' H' -> zh F.K G' J its -> R J H') -> wi σ H R
def yq (F : bb ι) (tg iter : Expr) (ρ : En) (its : List Dv) : Prop := ∃ wi : TI,(∀ i,PI (F.cx i) tg iter wi) /\ ∀ σ G H fp (R : It -> Hp -> Prop),ao G H -> aS F.K G H ρ σ fp -> (∀ a ∈ fp,G a = none) -> (∀ J G' H',Step G H G' H' -> zh F.K G' J its -> R J H') -> wi σ H R
def iE (F : bb ι) (tg : Expr) (js : List Nat) (sp : Dv -> Option (List Dv)) : Prop := ∃ g : TG,(∀ i,PG (F.cx i) tg g) /\ ∀ d dd v σ G H Q,sp d = some dd -> ao G H -> Hv F.K G d v -> (∀ vs,aP F.K G dd vs -> Q (bF js vs σ) H) -> g v σ H Q
def uS (F : bb ι) (cu : List Stmt) : TS := fun D σ H => ∃ τ : TS,(∀ i,eM (F.cx i) cu τ) /\ τ D σ H
theorem GR {F : bb ι} {cu : List Stmt} (i : ι) : eM (F.cx i) cu (uS F cu) := fun pins s σ H D I ⟨τ,h,q⟩ => h i pins s σ H D I q
def uT (F : bb ι) (e : Expr) : TT := fun σ H Q => ∃ τ : TT,(∀ i,PT (F.cx i) e τ) /\ τ σ H Q
theorem Sj {F : bb ι} {e : Expr} (i : ι) : PT (F.cx i) e (uT F e) := fun pins s σ H D I ⟨τ,h,q⟩ => h i pins s σ H D I q
def uE (F : bb ι) (e : Expr) : TE := fun σ H Q => ∃ τ : TE,(∀ i,PE (F.cx i) e τ) /\ τ σ H Q
theorem sJ {F : bb ι} {e : Expr} (i : ι) : PE (F.cx i) e (uE F e) := fun pins s σ H D I ⟨τ,h,q⟩ => h i pins s σ H D I q
variable {F : bb ι} {e a b c tg iter elt : Expr} {es : List Expr} {ρ ρ1 : En} {t ta : Tr} {ts : List Tr} {pos : Pos} {o : Out} {body : List Stmt} {its : List Dv} {js : List Nat} {sp : Dv -> Option (List Dv)}
theorem bz.s (h : bz F tg iter ρ its) : yq F tg iter ρ its := let ⟨w,x,y⟩ := h; ⟨w,x,fun σ G H fp R s r _ k => y σ G H R s r.nR k⟩
theorem bX (j : Nat) {x : Str} (hN : ∀ i,(F.cx i).N.Nodup) (hi : ∀ i,(F.cx i).N[j]? = some x := by intro _; rfl) (hx : ∀ i,Loc (F.cx i).env.scope x := by intro _; first | exact Or.inl rfl | exact Or.inr rfl)
    (hf : ∀ i,(F.cx i).fn x = true \/ (F.cx i).env.scope.names.lookup x = some .local := by intro _; first | exact .inl rfl | exact .inr rfl) : iE F (.Name x pos) [j] (fun d => some [d]) :=
  ⟨eE j,fun i => jI (hN i) (hi i) (hx i) (hf i),fun d dd v σ G H Q e s h k => by
    cases e
    exact k [v] ⟨v,[],rfl,h,rfl⟩⟩
def xC (n : Nat) : Dv -> Option (List Dv)
  | .tup ds => if ds.length = n then some ds else none
  | _ => none
theorem dr {xs : List Dv} (ha : Ev F e ρ ta) (ea : er ta = .lst xs) : bz F tg e ρ xs := by
  obtain ⟨τ,p,q⟩ := ha.use
  refine ⟨pE F.K τ,fun i => F.hK i ▸ vX (p i),fun σ G H R s r k => q σ G H _ s r fun x G1 H1 s1 hx => ?_⟩
  rw [ea] at hx
  obtain ⟨l,vs,rfl,h1,h2⟩ := hx
  refine ⟨l,rfl,⟨vs,s1.s.seq h1⟩,k _ G1 H1 s1 fun j G2 H2 sg sh => ⟨fun d hd => ?_,fun hz => ⟨vs,(sg.trans sh).seq h1,by rw [<- h2.length,hz]; exact Nat.le_refl _⟩⟩⟩
  obtain ⟨v,q1,q2⟩ := h2.get hd
  refine ⟨⟨vs,v,(sg.trans sh).seq h1,q1⟩,?_⟩
  rintro x H3 ⟨rfl,hx⟩
  have := hx vs ((sg.trans sh).seq h1)
  rw [q1] at this
  cases this
  exact ⟨G2,.refl sh,q2.mono sg⟩
abbrev fE (lo : Int) (n : Nat) : List Dv := (List.range n).map fun k => di (lo + (k : Nat))
theorem Pm {K : PySem.W.Frag} {G : Hp} (lo : Int) (n : Nat) : zh K G (tI lo n) (fE lo n) := fun k G1 H1 sg sh => by
  refine ⟨fun d hd => ?_,fun hz => by show n <= k; rw [hz]; simp⟩
  rw [List.getElem?_map] at hd
  rcases Nat.lt_or_ge k n with hk | hk
  · rw [List.getElem?_range hk] at hd
    cases hd
    refine ⟨hk,?_⟩
    rintro x H3 ⟨rfl,rfl⟩
    exact ⟨G1,.refl sh,rfl,rfl⟩
  · rw [List.getElem?_eq_none (by simpa using hk)] at hd; cases hd
theorem gf {n : Int} (hm : F.mg "range" = none) (ha : Ev F a ρ (ti n)) (hb : -(2 ^ 62) <= n /\ n < 2 ^ 62) {p : Pos} (hg : ∀ i,Gl (F.cx i) "range" := by intro _; rfl) (hs : ∀ i,starEach [a] (F.cx i).env = [(false,eval a (F.cx i).env)] := by intro _; rfl) : bz F tg (.Call (.Name "range" p) [a] [] pos) ρ (fE 0 n.toNat) := by
  obtain ⟨τ,p,q⟩ := ha.use
  refine ⟨Gs (dw τ e9),fun i => M0 (hg i) ((F.hm i).symm ▸ hm) (du (p i) eZ (hs i)) (hs i),fun σ G H R s r k => q σ G H _ s r fun x G1 H1 s1 hx => ?_⟩
  exact ⟨n,by rw [aV hx],hb.1,hb.2,k _ G1 H1 s1 (Pm 0 n.toNat)⟩
theorem HF {js : List Nat} {n : Nat} (h : js.all (fun j => Nat.blt j n) = true) : ∀ j ∈ js,j < n := fun j hj => Nat.le_of_ble_eq_true (List.all_eq_true.mp h j hj)
theorem yr {i : ι} (hx : (F.cx i).xe = ck) : PassesOwn (model (F.cx i).prog (F.cx i).w) (F.cx i).A (F.cx i).env (F.cx i).xe := by rw [hx]; exact PassesOwn.never
theorem MG (hi : yq F tg iter ρ its) (hg : iE F tg js sp) (inv : Nat -> En) (m : Nat) (hm : m <= its.length) (h0 : inv 0 = ρ) (hlen : ∀ k,js.all (fun j => Nat.blt j (inv k).length) = true)
    (step : ∀ k d,k < m -> its[k]? = some d -> ∃ dd nT,sp d = some dd /\ bp F body (bF js (dd.map .fz) (inv k)) (.nx nT) /\ Fg nT (inv (k + 1)))
    (fin : (m = its.length /\ o = .nx (inv m)) \/ ∃ d dd t,its[m]? = some d /\ sp d = some dd /\ bp F body (bF js (dd.map .fz) (inv m)) (.rt t) /\ o = .rt t)
    (hx : ∀ i,(F.cx i).xe = ck := by intro _; rfl) (hs : ∀ i x,foldedSetIterable iter (F.cx i).env x = pure x := by intro _ _; rfl) : Rn F (.For tg iter body [] pos) ρ o := by
  obtain ⟨wi,p,q⟩ := hi
  obtain ⟨g,pg,qg⟩ := hg
  subst h0
  refine ⟨sU wi g (uS F body),fun i => EW (yr (hx i)) (F.calm i) (p i) (pg i) (GR i) (hs i),fun D σ G0 H0 G H r k => ?_⟩
  obtain ⟨fp,r⟩ := r
  refine q σ G H fp _ r.st.s r.own r.g fun J G1 H1 s1 it => ?_
  have r1 : dX F.K G0 H0 G1 H1 (inv 0) σ fp := ⟨r.st.trans s1,r.own.mono s1.g s1.h,r.own.off s1 r.g,r.n,r.d⟩
  have kb := k.under r1.base
  refine ⟨fun k m' aD H' => m' = its.length - k /\ k <= m /\ ∃ G',RS F.K G1 (less H1 fp) G' H' (inv k) aD,⟨_,rfl,Nat.zero_le _,G1,fp,r1.rebase⟩,?_⟩
  rintro n m' aD H' ⟨rfl,hn,G',r'⟩
  obtain ⟨gI,r'⟩ := r'
  obtain ⟨i1,i2⟩ := it n G' H' r'.st.g r'.st.s
  by_cases aZ : n < m
  · have hd : its[n]? = some its[n] := List.getElem?_eq_getElem (by omega)
    obtain ⟨j1,j2⟩ := i1 _ hd
    refine .inr ⟨j1,fun bG H2 => ∃ G2,RS F.K G1 (less H1 fp) G2 H2 (inv (n + 1)) bG,fun bG H2 z => ⟨its.length - (n + 1),by omega,rfl,aZ,z⟩,fun x H3 y => ?_⟩
    obtain ⟨G3,s3,h3⟩ := j2 x H3 y
    obtain ⟨dd,nT,e1,⟨τ,pb,qb⟩,e2⟩ := step n _ aZ hd
    refine qg _ dd x aD G3 H3 _ e1 s3.s h3 fun vs qD => ⟨τ,pb,qb _ _ G1 (less H1 fp) G3 H3 (RS.bF (HF (hlen n)) qD ⟨gI,r'.st.trans s3,r'.own.mono s3.g s3.h,fun a ha => ?_,r'.n,r'.d⟩) fun X3 G4 H4 r4 => ⟨G4,e2.rs r4⟩⟩
    cases q : G3 a with
    | none => rfl
    | some u =>
      obtain ⟨u',aW⟩ := r'.own.there a ha
      have := s3.n a (r'.g a ha) (by rw [q]; exact fun z => nomatch z)
      rw [aW] at this; cases this
  · have en : n = m := by omega
    subst en
    rcases fin with ⟨e,rfl⟩ | ⟨d,dd,t,hd,e1,⟨τ,pb,qb⟩,rfl⟩
    · refine .inl ⟨i2 e,kb aD G' H' ⟨gI,r'⟩⟩
    · obtain ⟨j1,j2⟩ := i1 d hd
      refine .inr ⟨j1,fun _ _ => False,fun _ _ z => z.elim,fun x H3 y => ?_⟩
      obtain ⟨G3,s3,h3⟩ := j2 x H3 y
      refine qg d dd x aD G3 H3 _ e1 s3.s h3 fun vs qD => ⟨τ,pb,qb _ _ G1 (less H1 fp) G3 H3 (RS.bF (HF (hlen n)) qD ⟨gI,r'.st.trans s3,r'.own.mono s3.g s3.h,fun a ha => ?_,r'.n,r'.d⟩) kb⟩
      cases q : G3 a with
      | none => rfl
      | some u =>
        obtain ⟨u',aW⟩ := r'.own.there a ha
        have := s3.n a (r'.g a ha) (by rw [q]; exact fun z => nomatch z)
        rw [aW] at this; cases this
theorem gQ (hi : yq F tg iter ρ its) (hg : iE F tg js sp) (inv : Nat -> En) (h0 : inv 0 = ρ) (hlen : ∀ k,js.all (fun j => Nat.blt j (inv k).length) = true)
    (step : ∀ k d,its[k]? = some d -> ∃ dd nT,sp d = some dd /\ bp F body (bF js (dd.map .fz) (inv k)) (.nx nT) /\ Fg nT (inv (k + 1)))
    (hx : ∀ i,(F.cx i).xe = ck := by intro _; rfl) (hs : ∀ i x,foldedSetIterable iter (F.cx i).env x = pure x := by intro _ _; rfl) : Rn F (.For tg iter body [] pos) ρ (.nx (inv its.length)) :=
  MG hi hg inv its.length (Nat.le_refl _) h0 hlen (fun k d _ h => step k d h) (.inl ⟨rfl,rfl⟩) hx hs
theorem N3 (inv : Nat -> En) (n : Nat) (h0 : inv 0 = ρ) (turn : ∀ k,k < n -> fT F c (inv k) true /\ bp F body (inv k) (.nx (inv (k + 1)))) (stop : fT F c (inv n) false)
    (hx : ∀ i,(F.cx i).xe = ck := by intro _; rfl) : Rn F (.While c body [] pos) ρ (.nx (inv n)) := by
  subst h0
  refine ⟨EV (uT F c) (uS F body),fun i => NM (yr (hx i)) (Sj i) (GR i),fun D σ G0 H0 G H r k => ?_⟩
  refine ⟨fun m' aD H' => ∃ j G',j <= n /\ m' = n - j /\ RS F.K G0 H0 G' H' (inv j) aD,⟨_,0,G,Nat.zero_le _,rfl,r⟩,?_⟩
  rintro m' aD H' ⟨j,G',hj,rfl,fp,r'⟩
  have key : ∀ {G1 H1 : Hp},Step G' H' G1 H1 -> RS F.K G0 H0 G1 H1 (inv j) aD := fun {G1 H1} s1 => ⟨fp,r'.st.trans s1,r'.own.mono s1.g s1.h,r'.own.off s1 r'.g,r'.n,r'.d⟩
  by_cases aZ : j < n
  · obtain ⟨⟨τ,x,y⟩,⟨bY,x',y'⟩⟩ := turn j aZ
    refine ⟨τ,x,y aD G' H' fp _ r'.st.s r'.own r'.g fun G1 H1 s1 => kI ⟨fun bG H2 => ∃ G2,RS F.K G0 H0 G2 H2 (inv (j + 1)) bG,fun bG H2 ⟨G2,z⟩ => ⟨n - (j + 1),by omega,j + 1,G2,aZ,rfl,z⟩,bY,x',?_⟩⟩
    exact y' _ aD G0 H0 G1 H1 (key s1) fun X3 G4 H4 r4 => ⟨G4,r4⟩
  · have e : j = n := by omega
    subst e
    obtain ⟨τ,x,y⟩ := stop
    exact ⟨τ,x,y aD G' H' fp _ r'.st.s r'.own r'.g fun G1 H1 s1 => kH (k aD G1 H1 (key s1))⟩
theorem Mh {α : Type} (S : α -> En) (Pp : α -> Prop) (p : α -> Bool) (μ : α -> Nat) (hc : ∀ a,Pp a -> fT F c (S a) (p a)) (hb : ∀ a,Pp a -> p a = true -> ∃ a',Pp a' /\ μ a' < μ a /\ bp F body (S a) (.nx (S a'))) (a0 : α) (h0 : Pp a0)
    (hx : ∀ i,(F.cx i).xe = ck := by intro _; rfl) : ∃ a',Pp a' /\ p a' = false /\ Rn F (.While c body [] pos) (S a0) (.nx (S a')) := by
  have : ∀ (m : Nat) (a : α),μ a <= m -> Pp a -> ∃ (n : Nat) (f : Nat -> α),f 0 = a /\ (∀ k,k < n -> Pp (f k) /\ p (f k) = true /\ bp F body (S (f k)) (.nx (S (f (k + 1))))) /\ Pp (f n) /\ p (f n) = false := by
    intro m
    induction m with
    | zero =>
      intro a hm ha
      cases hp : p a with
      | false => exact ⟨0,fun _ => a,rfl,fun k hk => absurd hk (Nat.not_lt_zero _),ha,hp⟩
      | true =>
        obtain ⟨a',_,h2,_⟩ := hb a ha hp
        omega
    | succ m ih =>
      intro a hm ha
      cases hp : p a with
      | false => exact ⟨0,fun _ => a,rfl,fun k hk => absurd hk (Nat.not_lt_zero _),ha,hp⟩
      | true =>
        obtain ⟨a',h1,h2,h3⟩ := hb a ha hp
        obtain ⟨n,f,f0,f1,f2,f3⟩ := ih a' (by omega) h1
        refine ⟨n + 1,fun k => match k with | 0 => a | k + 1 => f k,rfl,fun k hk => ?_,f2,f3⟩
        cases k with
        | zero => exact ⟨ha,hp,by show bp F body (S a) (.nx (S (f 0))); rw [f0]; exact h3⟩
        | succ k => exact f1 k (by omega)
  obtain ⟨n,f,f0,f1,f2,f3⟩ := this (μ a0) a0 (Nat.le_refl _) h0
  refine ⟨f n,f2,f3,N3 (fun k => S (f k)) n (by rw [f0]) (fun k hk => ?_) (by have := hc _ f2; rw [f3] at this; exact this) hx⟩
  obtain ⟨g1,g2,g3⟩ := f1 k hk
  exact ⟨by have := hc _ g1; rw [g2] at this; exact this,g3⟩
structure S9 where
  C : Addr
  s : Shared
  H : Hp
  ex : List Addr
  pn : List (Addr × Obj)
def cq (F : bb ι) (own : List Str) (fr : List Nat) (sc : Scope) (cl : ι -> List (Str × Addr)) : bb (ι × S9) where
  cx i := cB (F.cx i.1) own fr sc (cl i.1) i.2.C i.2.s i.2.H i.2.ex i.2.pn
  P := F.P
  w := F.w
  K := F.K
  mg := F.mg
  base := F.base
  room := F.room
  hP i := F.hP i.1
  hw i := F.hw i.1
  hK i := F.hK i.1
  hm i := F.hm i.1
  hb i := F.hb i.1
  hr i := F.hr i.1
  calm i := F.calm i.1
def cg (own : List Str) (fr : List Nat) (ρ : En) : En := own.map (fun _ => none) ++ fr.map fun j => (ρ[j]?).join
theorem Ra {K : PySem.W.Frag} {G : Hp} {own : List Str} {fr : List Nat} {ρ : En} {σ : St} (r : bQ K G ρ σ) : bQ K G (cg own fr ρ) (oR own fr σ) := fun i d h => by
  unfold cg at h
  unfold oR
  by_cases hi : i < own.length
  · rw [List.getElem?_append_left (by simpa using hi),List.getElem?_map] at h
    cases q : own[i]? with
    | none => rw [q] at h; cases h
    | some z => rw [q] at h; cases h
  · rw [List.getElem?_append_right (by simpa using hi),List.getElem?_map,List.length_map] at h
    rw [List.getElem?_append_right (by simpa using hi),List.getElem?_map,List.length_map]
    cases q : fr[i - own.length]? with
    | none => rw [q] at h; cases h
    | some j =>
      rw [q] at h
      have h' : (ρ[j]?).join = some (.fz d) := Option.some.inj h
      have hj : ρ[j]? = some (some (.fz d)) := by
        cases q2 : ρ[j]? with
        | none => rw [q2] at h'; cases h'
        | some o => rw [q2] at h'; exact congrArg some h'
      obtain ⟨v,h1,h2⟩ := r j d hj
      refine ⟨v,?_,h2⟩
      show some ((σ[j]?).join) = _
      rw [h1]
      rfl
def El {κ : Type} (F : bb κ) (ifs : List Expr) (ρ : En) (b : Bool) : Prop := ∃ tt : TT,(∀ i (pins : List (Addr × Obj)) (s1 : Shared) (aE : St) (H1 : Hp) (Q : Bool -> Hp -> Prop),Inv (F.cx i) pins aE H1 s1 -> tt aE H1 Q ->
      wpAny (model (F.cx i).prog (F.cx i).w) (F.cx i).A (i9 ifs (F.cx i).env) (TP (F.cx i) pins aE Q) ck s1) /\ ∀ σ G H Q,ao G H -> bQ F.K G ρ σ -> (∀ G' H',Step G H G' H' -> Q b H') -> tt σ H Q
theorem pd : El F [] ρ true := ⟨rT,fun i pins s1 aE H1 Q I h => GK pins s1 aE H1 Q I h,fun σ G H Q s r k => k G H (.refl s)⟩
theorem hZ {p : Bool} (h : Et F c ρ p) (hx : ∀ i,(F.cx i).xe = ck := by intro _; rfl) : El F [c] ρ p := let ⟨τ,x,y⟩ := h; ⟨τ,fun i pins s1 aE H1 Q I h => Sf (x i) (hx i) pins s1 aE H1 Q I h,y⟩
def uL {κ : Type} (F : bb κ) (ifs : List Expr) : TT := fun σ H Q => ∃ tt : TT,(∀ i (pins : List (Addr × Obj)) (s1 : Shared) (aE : St) (H1 : Hp) (Q : Bool -> Hp -> Prop),Inv (F.cx i) pins aE H1 s1 -> tt aE H1 Q ->
      wpAny (model (F.cx i).prog (F.cx i).w) (F.cx i).A (i9 ifs (F.cx i).env) (TP (F.cx i) pins aE Q) ck s1) /\ tt σ H Q
def tU (F : bb ι) (own : List Str) (fr : List Nat) (sc : Scope) (cl : ι -> List (Str × Addr)) (elt tg iter : Expr) (ifs : List Expr) (τ : TE) : Prop := ∃ wi g tt te,τ = tO wi g tt te own fr /\ (∀ i,PI (F.cx i) tg iter wi) /\ (∀ i,PG ((cq F own fr sc cl).cx i) tg g) /\
  (∀ i (pins : List (Addr × Obj)) (s1 : Shared) (aE : St) (H1 : Hp) (Q : Bool -> Hp -> Prop),Inv ((cq F own fr sc cl).cx i) pins aE H1 s1 -> tt aE H1 Q -> wpAny (model ((cq F own fr sc cl).cx i).prog ((cq F own fr sc cl).cx i).w) ((cq F own fr sc cl).cx i).A (i9 ifs ((cq F own fr sc cl).cx i).env) (TP ((cq F own fr sc cl).cx i) pins aE Q) ck s1) /\
  ∀ i,PE ((cq F own fr sc cl).cx i) elt te
def dH (F : bb ι) (own : List Str) (fr : List Nat) (sc : Scope) (cl : ι -> List (Str × Addr)) (elt tg iter : Expr) (ifs : List Expr) (ρ : En) (t : Tr) : Prop := ∃ τ,tU F own fr sc cl elt tg iter ifs τ /\ ∀ σ G H Q,ao G H -> bQ F.K G ρ σ -> Kv F.K G H t Q -> τ σ H Q
theorem qE {ifs : List Expr} {sc : Scope} {own : List Str} {fr : List Nat} {cl : ι -> List (Str × Addr)} (hi : bz F tg iter ρ its) (hg : iE (cq F own fr sc cl) tg js sp) (iF : ∀ j ∈ js,j < own.length)
    (p : Nat -> Bool) (f : Nat -> Tr) (hz : its.length < sizeLine)
    (step : ∀ k d,its[k]? = some d -> ∃ dd,sp d = some dd /\ El (cq F own fr sc cl) ifs (bF js (dd.map .fz) (cg own fr ρ)) (p k) /\ (p k = true -> Ev (cq F own fr sc cl) elt (bF js (dd.map .fz) (cg own fr ρ)) (f k)))
    (gT : ∀ dd : List Dv,gh js (bF js (dd.map .fz) (cg own fr ρ)) = cg own fr ρ) : dH F own fr sc cl elt tg iter ifs ρ (.ow (((List.range its.length).filter p).map f)) := by
  obtain ⟨wi,pi,qi⟩ := hi
  obtain ⟨g,pg,qg⟩ := hg
  refine ⟨_,⟨wi,g,uL (cq F own fr sc cl) ifs,uE (cq F own fr sc cl) elt,rfl,pi,pg,fun i pins s1 aE H1 Q I h => by
      obtain ⟨tt,h1,h2⟩ := h
      exact h1 i pins s1 aE H1 Q I h2,fun i => sJ i⟩,fun σ G H Q s r k => ?_⟩
  refine qi σ G H _ s r fun J G1 H1 s1 it acc eJ => ?_
  have k1 := k.step s1
  have Fe : ∀ {G' : Hp} {js' : List Nat} {ρ' : En} {aD : St},bQ F.K G' ρ' aD -> bQ F.K G' (gh js' ρ') aD := by
    intro G' js'
    induction js' with
    | nil => intro ρ' aD z; exact z
    | cons j js' ih =>
      intro ρ' aD z
      refine ih (ρ' := ρ'.set j none) fun i d hd => ?_
      by_cases q : j = i
      · subst q
        rw [List.getElem?_set] at hd
        simp at hd
      · rw [List.getElem?_set_ne q] at hd
        exact z i d hd
  refine ⟨fun i m ys aE H2 => m = its.length - i /\ i <= its.length /\ aE.length = own.length + fr.length /\ H2 acc = some (.lst ys) /\ ∃ G2 fq,Step G1 H1 G2 H2 /\ aK F.K G2 H2 (((List.range i).filter p).map f) ys fq /\ Nw H1 G2 (acc :: fq) /\ bQ F.K G2 (cg own fr ρ) aE,
    ⟨_,rfl,Nat.zero_le _,by simp [oR],cL,G1,[],.gY s1.s eJ,⟨rfl,rfl⟩,⟨fun a ha => by rw [List.mem_singleton.mp ha]; exact eJ,fun a ha => by rw [List.mem_singleton.mp ha]; exact s1.s.free eJ,by simp⟩,(Ra r).mono s1.g⟩,?_⟩
  rintro i m ys aE H2 ⟨rfl,hi,tV,iW,G2,fq,s2,o2,w2,r2⟩
  have hlen : ys.length < sizeLine := by
    rw [<- o2.length,List.length_map]
    have := List.length_filter_le p (List.range i)
    rw [List.length_range] at this
    omega
  refine ⟨iW,hlen,?_⟩
  obtain ⟨i1,i2⟩ := it i G2 H2 s2.g s2.s
  by_cases aZ : i < its.length
  · have hd : its[i]? = some its[i] := List.getElem?_eq_getElem aZ
    obtain ⟨j1,j2⟩ := i1 _ hd
    obtain ⟨dd,e1,el,ev⟩ := step i _ hd
    refine .inr ⟨j1,fun zs bG H3 => bG.length = own.length + fr.length /\ H3 acc = some (.lst zs) /\ ∃ G3 fq,Step G1 H1 G3 H3 /\ aK F.K G3 H3 (((List.range (i + 1)).filter p).map f) zs fq /\ Nw H1 G3 (acc :: fq) /\ bQ F.K G3 (cg own fr ρ) bG,
      fun zs bG H3 z => ⟨its.length - (i + 1),by omega,rfl,aZ,z⟩,fun x H3 y => ?_⟩
    obtain ⟨G3,s3,h3⟩ := j2 x H3 y
    refine qg _ dd x aE G3 H3 _ e1 s3.s h3 fun vs qD => ?_
    have X4 : ∀ j ∈ js,j < aE.length := fun j hj => by have := iF j hj; omega
    have rr : bQ F.K G3 (bF js (dd.map .fz) (cg own fr ρ)) (bF js vs aE) := bQ.bF X4 qD (r2.mono s3.g)
    have sL : ∀ {Ga Ha Gb Hb : Hp} {fs : List Addr},Step Ga Ha Gb Hb -> (∀ a ∈ fs,Ga a = none) -> (∀ a ∈ fs,∃ o,Ha a = some o) -> ∀ a ∈ fs,Gb a = none := fun {Ga Ha Gb Hb fs} st h1 h2 a ha => by
      cases q : Gb a with
      | none => rfl
      | some u =>
        obtain ⟨u',aW⟩ := h2 a ha
        have := st.n a (h1 a ha) (by rw [q]; exact fun z => nomatch z)
        rw [aW] at this; cases this
    have nU : ∀ a ∈ acc :: fq,∃ o,H2 a = some o := fun a ha => (List.mem_cons.mp ha).elim (fun z => ⟨_,z ▸ iW⟩) (o2.there a)
    have er : (List.range (i + 1)).filter p = (List.range i).filter p ++ if p i = true then [i] else [] := by
      rw [List.range_succ,List.filter_append]
      congr 1
      simp only [List.filter_cons,List.filter_nil]
    obtain ⟨tt,pt,qt⟩ := el
    refine ⟨tt,pt,qt _ G3 H3 _ s3.s rr fun G5 H5 s5 => ?_⟩
    have j5 := s3.trans s5
    cases hp : p i with
    | false =>
      refine kH ⟨by rw [vf]; exact tV,j5.h _ _ iW,G5,fq,s2.trans j5,?_,⟨w2.n,sL j5 w2.g nU,w2.d⟩,?_⟩
      · rw [er,hp,if_neg (by decide),List.append_nil]
        exact o2.mono j5.g j5.h
      · have := Fe (js' := js) (rr.mono s5.g)
        rwa [gT dd] at this
    | true =>
      obtain ⟨te,pe,qe⟩ := ev hp
      refine kI ⟨te,pe,qe _ G5 H5 _ s5.s (rr.mono s5.g) fun v G6 H6 f6 s6 o6 w6 => ?_⟩
      have lq := j5.trans s6
      have zi := lq.h _ _ iW
      have lr : ∀ a ∈ f6,a ∉ acc :: fq := fun a ha hb => by
        obtain ⟨u,hu⟩ := nU a hb
        have := j5.h _ _ hu
        rw [w6.n a ha] at this; cases this
      have lu := List.nodup_cons.mp w2.d
      have g6 := sL lq w2.g nU
      refine ⟨zi,by rw [vf]; exact tV,cL,G6,fq ++ (f6 ++ []),⟨(s2.trans lq).g,fun b u hb => ?_,fun b u hb => ?_,(s2.trans lq).n⟩,?_,⟨fun a ha => ?_,fun a ha => ?_,?_⟩,?_⟩
      · rw [bh fun z => by subst z; rw [eJ] at hb; cases hb]
        exact (s2.trans lq).h b u hb
      · rw [bh fun z => by subst z; rw [g6 _ (.head _)] at hb; cases hb]
        exact s6.s b u hb
      · rw [er,hp,if_pos rfl,List.map_append]
        refine aK.append ((o2.mono lq.g lq.h).frame lu.1) ⟨v,[],f6,[],rfl,rfl,o6.frame fun z => lr _ z (.head _),rfl,rfl⟩
      · rw [List.append_nil] at ha
        rcases List.mem_cons.mp ha with z | z
        · exact w2.n a (z ▸ .head _)
        · rcases List.mem_append.mp z with z | z
          · exact w2.n a (.tail _ z)
          · exact (s2.trans j5).h.free (w6.n a z)
      · rw [List.append_nil] at ha
        rcases List.mem_cons.mp ha with z | z
        · exact g6 a (z ▸ .head _)
        · rcases List.mem_append.mp z with z | z
          · exact g6 a (.tail _ z)
          · exact w6.g a z
      · rw [List.append_nil]
        refine List.nodup_cons.mpr ⟨fun z => ?_,List.nodup_append.mpr ⟨lu.2,w6.d,fun a ha b hb z => ?_⟩⟩
        · rcases List.mem_append.mp z with z | z
          · exact lu.1 z
          · exact lr _ z (.head _)
        · subst z; exact lr a hb (.tail _ ha)
      · have := Fe (js' := js) (rr.mono (s5.trans s6).g)
        rwa [gT dd] at this
  · have e : i = its.length := by omega
    subst e
    refine .inl ⟨i2 rfl,k1 (.ref acc) G2 H2 (acc :: fq) s2 ⟨acc,ys,fq,rfl,iW,o2,rfl⟩ w2⟩
theorem nh {ifs : List Expr} {sc : Scope} {own : List Str} {fr : List Nat} {cl : ι -> List (Str × Addr)} (L : ∀ i,hG (F.cx i) sc (cl i) fr) (hi : bz F tg iter ρ its) (hg : iE (cq F own fr sc cl) tg js sp) (iF : ∀ j ∈ js,j < own.length)
    (p : Nat -> Bool) (f : Nat -> Tr) (hz : its.length < sizeLine)
    (step : ∀ k d,its[k]? = some d -> ∃ dd,sp d = some dd /\ El (cq F own fr sc cl) ifs (bF js (dd.map .fz) (cg own fr ρ)) (p k) /\ (p k = true -> Ev (cq F own fr sc cl) elt (bF js (dd.map .fz) (cg own fr ρ)) (f k)))
    (gT : ∀ dd : List Dv,gh js (bF js (dd.map .fz) (cg own fr ρ)) = cg own fr ρ)
    (hs : ∀ i x,foldedSetIterable iter (F.cx i).env x = pure x := by intro _ _; rfl) :
    Ev F (.ListComp elt [⟨tg,iter,ifs,0⟩] sc pos) ρ (.ow (((List.range its.length).filter p).map f)) := by
  obtain ⟨τ,⟨wi,g,tt,te,rfl,h1,h2,h3,h4⟩,h5⟩ := qE (ifs := ifs) hi hg iF p f hz step gT
  exact ⟨_,fun i => GF (cl := cl i) (L i) (F.calm i) (h1 i) (fun C s H ex pn => h2 (i,⟨C,s,H,ex,pn⟩)) (fun C s H ex pn => h3 (i,⟨C,s,H,ex,pn⟩)) (fun C s H ex pn => h4 (i,⟨C,s,H,ex,pn⟩)) (hs i),h5⟩
end
structure X5 (k : Nat) (qual : Str) (sc : Scope) (f : Addr) where
  bC : Value
  A : Around
  outer : List Env
  s : Shared
  H : Hp
  E : XK
  hr : cW k (A.deeper (envOfC qual sc s.heap.objs.size f bC))
def cC (P : Program) (w : World) (K : PySem.W.Frag) (mg : Str -> Option Value) (base : Heap) (N : List Str) (qual : Str) (sc : Scope) (f : Addr) (k : Nat) : bb (X5 k qual sc f) where
  cx i := (jh au P w K mg base N qual sc f i.bC i.A i.outer i.s i.H i.E).qk
  P := P
  w := w
  K := K
  mg := mg
  base := base
  room := k
  hP _ := rfl
  hw _ := rfl
  hK _ := rfl
  hm _ := rfl
  hb _ := rfl
  hr i := i.hr
  calm _ := rfl
def Ju (N : List Str) (dd : List Dv) : En := dd.map (fun d => some (.fz d)) ++ List.replicate (N.length - dd.length) none
theorem Dk {K : PySem.W.Frag} {G H : Hp} : ∀ n : Nat,aS K G H (List.replicate n none) (List.replicate n none) []
  | 0 => ⟨rfl,rfl⟩
  | n + 1 => ⟨none,List.replicate n none,rfl,Dk n⟩
theorem CQ {K : PySem.W.Frag} {G H : Hp} {n : Nat} : ∀ {dd : List Dv} {vs : List V},aP K G dd vs -> aS K G H (dd.map (fun d => some (.fz d)) ++ List.replicate n none) (vs.map some ++ List.replicate n none) []
  | [],_,h => by rw [show _ = [] from h]; exact Dk n
  | _ :: _,_,⟨x,r,h1,h2,h3⟩ => by subst h1; exact ⟨x,_,[],[],rfl,rfl,⟨rfl,h2⟩,CQ h3⟩
theorem bA {P : Program} {w : World} {K : PySem.W.Frag} {mg : Str -> Option Value} {base : Heap} {x qual : Str} {st : Stmt} {dV : Value} {f : Addr} {fd : FuncData} {N ps : List Str} {k : Nat} {R : List Dv -> Tr -> Prop} (Fd : nC K x qual st dV f fd) (S : bq N ps (ak st))
    (hl : ∀ dd t,R dd t -> dd.length = ps.length)
    (hb : ∀ dd t,R dd t -> ∃ o,(o = .rt t \/ (t = tn /\ ∃ ρ',o = .nx ρ')) /\ bp (cC P w K mg base N qual (ak st) f k) (aI st) (Ju N dd) o) : aR P w K mg base au (k + 1) f fd ps (spT K R) := by
  refine Fd.ok S (fun vs H Q E ⟨G,dd,t,s,h1,h2,h3⟩ => by rw [<- h1.length]; exact hl dd t h2) fun bC A outer s H vs Q E hr h => ?_
  obtain ⟨G,dd,t,s',h1,h2,h3⟩ := h
  obtain ⟨o,ho,τ,x,y⟩ := hb dd t h2
  refine ⟨τ,x ⟨bC,A,outer,s,H,E,hr⟩,y _ (start N vs) G H G H ⟨[],.refl s',?_,fun _ z => (nomatch z),fun _ z => (nomatch z),.nil⟩ ?_⟩
  · unfold start Ju
    rw [<- h1.length]
    exact CQ h1
  · rcases ho with rfl | ⟨rfl,ρ',rfl⟩
    · exact fun v G1 H1 fq s1 o1 w1 => h3 v G1 H1 fq s1 o1 w1
    · exact fun σ G1 H1 ⟨fp,r⟩ => h3 .aM G1 H1 [] r.st ⟨rfl,rfl,rfl⟩ .nil
end L2
namespace L2
open PySem PySem.Spec PyProof.Rows
def Jv (K : PySem.W.Frag) (l1 l2 : Addr) (xs ys : List V) : It :=
  ⟨fun i H => aN K H l1 xs /\ aN K H l2 ys /\ i < min xs.length ys.length,fun i H x H' => ∃ T vx vy,H T = none /\ xs[i]? = some vx /\ ys[i]? = some vy /\ x = .ref T /\ H' = upd H T (.tup [vx,vy]),fun i H => aN K H l1 xs /\ aN K H l2 ys /\ i = min xs.length ys.length⟩
def Jw (K : PySem.W.Frag) (l : Addr) (xs : List V) : It :=
  ⟨fun i H => aN K H l xs /\ i < xs.length,fun i H x H' => ∃ T v,H T = none /\ xs[i]? = some v /\ x = .ref T /\ H' = upd H T (.tup [.int (i : Nat),v]),fun i H => aN K H l xs /\ i = xs.length⟩
section
variable {X : Cx} {pins : List (Addr × Obj)} {σ : St} {H : Hp} {s : Shared}
theorem Inv.wc {t' : Nat} {fs : List Addr} {h' : Heap} (I : Inv X pins σ H s) (k : ∀ b o,b ∉ fs -> s.heap.get? b = some o -> h'.get? b = some o) (hf : ∀ b ∈ fs,gy X pins H b) : Inv X pins σ H { s with heap := h',toks := t' } := by
  have jV : ∀ b u,H b = some u -> b ∉ fs := fun b u e z => by rw [(hf b z).1] at e; cases e
  refine I.step (g' := s.gens) (d' := s.drawn) (ch := fs) (fun b hb => ?_) (fun b o _ _ hc e _ => k b o hc e) (fun b o _ _ hc e _ => ⟨o.slots,k b o hc e⟩) (fun _ _ _ _ n => n)
    (fun b o hc e => ⟨o,k b o hc e⟩) (fun _ _ e => e) (fun _ _ _ e => e) (fun b ps e => ⟨#[],by rw [e]; simp⟩) (fun m hm => ?_) (fun b u e => ?_) I.bare
  · obtain ⟨f0,f1,f2,f3,f4,f5⟩ := hf b hb
    exact ⟨f3,f1,f4,f5⟩
  · obtain ⟨o,es,ep,ho,r⟩ := hm
    exact ⟨o,es,ep,k _ o (fun z => (hf _ z).2.1 rfl) ho,r⟩
  · refine (I.ay b u e).jf (fun c v hc q => k c v ?_ q) (fun _ q => q) fun _ _ q => q
    rcases hc with z | z
    · rw [z]; exact jV b u e
    · exact jV c _ z
theorem Inv.Ef {t' : Nat} {fs : List Addr} {h' : Heap} {T : Addr} {vs : List V} (I : Inv X pins σ H s) (k : ∀ b o,b ∉ fs -> s.heap.get? b = some o -> h'.get? b = some o) (hf : ∀ b ∈ fs,gy X pins H b) (hT : s.heap.objs.size <= T)
    (new : bM X.prog X.w (upd H T (.tup vs)) h' T (.tup vs)) : Inv X pins σ (upd H T (.tup vs)) { s with heap := h',toks := t' } := by
  have hn : H T = none := I.ay.fresh hT
  have jV : ∀ b u,H b = some u -> b ∉ fs := fun b u e z => by rw [(hf b z).1] at e; cases e
  have ne : ∀ b o,s.heap.get? b = some o -> b ≠ T := fun b o e z => by subst z; exact absurd (Nat.lt_of_lt_of_le (Heap.lt_size e) hT) (Nat.lt_irrefl _)
  refine I.step (g' := s.gens) (d' := s.drawn) (ch := fs) (fun b hb => ?_) (fun b o _ _ hc e _ => k b o hc e) (fun b o _ _ hc e _ => ⟨o.slots,k b o hc e⟩) (fun b o _ e n => by rw [bh (ne b o e)]; exact n)
    (fun b o hc e => ⟨o,k b o hc e⟩) (fun _ _ e => by rw [bh (hC e hn)]; exact e) (fun _ _ _ e => by rw [bh (hC e hn)]; exact e) (fun b ps e => ⟨#[],by rw [bh (hC e hn),e]; simp⟩) (fun m hm => ?_) (fun b u e => ?_) I.bare
  · obtain ⟨f0,f1,f2,f3,f4,f5⟩ := hf b hb
    exact ⟨f3,f1,f4,f5⟩
  · obtain ⟨o,es,ep,ho,r⟩ := hm
    exact ⟨o,es,ep,k _ o (fun z => (hf _ z).2.1 rfl) ho,r⟩
  · by_cases hb : b = T
    · subst hb; rw [cL] at e; cases e; exact new
    · rw [bh hb] at e
      refine (I.ay b u e).jf (fun c v hc q => k c v ?_ q) (fun c q => by rw [bh (hC q hn)]; exact q) fun c xs q => by rw [bh (hC q hn)]; exact q
      rcases hc with z | z
      · rw [z]; exact jV b u e
      · exact jV c _ z
end
theorem N4 {P : Program} {w : World} {K : PySem.W.Frag} {elts : List Expr} {kk : Nat} {pos : Pos} {z TI TO i1 i2 l1 l2 : Addr} {xs ys : List V} (D : ZipApart z TI TO i1 i2 l1 l2) :
    Turn P w K (.Tuple elts kk pos) (Jv K l1 l2 xs ys) [z,TI,TO,i1,i2] z (fun i h => IsZip h z TI TO .none /\ IsPair h TI (.ref i1) (.ref i2) /\ (∃ a b,IsPair h TO a b) /\ h.IsListIter i1 l1 i /\ h.IsListIter i2 l2 i) where
  mem := by simp
  obj := by
    rintro i h ⟨h1,h2,⟨a,c,h3⟩,⟨o1,h4,_,h5⟩,⟨o2,h6,_,h7⟩⟩ b hb
    simp only [List.mem_cons,List.not_mem_nil,or_false] at hb
    rcases hb with rfl | rfl | rfl | rfl | rfl
    · exact ⟨_,h1,fun v z => by cases z⟩
    · exact ⟨_,h2,fun v z => by cases z⟩
    · exact ⟨_,h3,fun v z => by cases z⟩
    · exact ⟨_,h4,fun v z => by rw [h5] at z; cases z⟩
    · exact ⟨_,h6,fun v z => by rw [h7] at z; cases z⟩
  keep := by
    rintro i h h' ⟨h1,h2,⟨a,c,h3⟩,h4,h5⟩ k
    exact ⟨k _ (by simp) _ h1,k _ (by simp) _ h2,⟨a,c,k _ (by simp) _ h3⟩,h4.at fun o e => k _ (by simp) o e,h5.at fun o e => k _ (by simp) o e⟩
  item := by
    intro X hP hw hK hc i pins s σ H E I hf st hg
    subst hP hw hK
    obtain ⟨iG,qF,aZ⟩ := hg
    obtain ⟨gD,iH,p1,qG⟩ := I.list iG
    obtain ⟨fD,qH,p2,Jx⟩ := I.list qF
    have e1 := iH.length
    have e2 := qH.length
    have W := WalksT.zip2 (prog := X.prog) (w := X.w) (A := X.A) (I.ok.hd hc) z TI TO i1 i2 l1 l2 D gD.toArray fD.toArray
    refine W.item i s _ _ (by simp; omega) ⟨st.1,st.2.1,st.2.2.1,st.2.2.2.1,st.2.2.2.2,p1.isList,p2.isList⟩ fun T vals h' tk zj lz yt pW hk => ⟨.ref T,rfl,W.go elts kk pos i T _ _ _ pW fun zk jR pX => ?_⟩
    obtain ⟨x,y,hx,hy,rfl⟩ := zj
    have qI : xs[i]? = some (xs[i]'(by omega)) := List.getElem?_eq_getElem _
    have Jy : ys[i]? = some (ys[i]'(by omega)) := List.getElem?_eq_getElem _
    obtain ⟨u,hu,ru⟩ := iH.get qI
    obtain ⟨u',aW,X6⟩ := qH.get Jy
    have ex : x = u := by
      have : gD[i]? = some x := by simpa using hx
      rw [hu] at this; exact (Option.some.inj this).symm
    have ey : y = u' := by
      have : fD[i]? = some y := by simpa using hy
      rw [aW] at this; exact (Option.some.inj this).symm
    subst ex ey
    have sub : ∀ b ∈ [z,TO,i1,i2],b ∈ [z,TI,TO,i1,i2] := fun b hb => by
      simp only [List.mem_cons,List.not_mem_nil,or_false] at hb ⊢
      rcases hb with rfl | rfl | rfl | rfl <;> simp
    have zl : IsTup zk T [x,y].toArray := yt.at fun o e => pX T o (W.apart i T _ pW) e
    refine ⟨.ref T,upd H T (.tup [xs[i]'(by omega),ys[i]'(by omega)]),I.Ef (fs := [z,TO,i1,i2]) (fun b o hb e => pX b o hb (hk b o hb e)) (fun b hb => hf b (sub b hb)) lz ⟨by show 2 <= sizeLine; decide,[x,y],.cons ru (.cons X6 .nil),zl⟩,rfl,
      ⟨T,_,_,I.ay.fresh lz,qI,Jy,rfl,rfl⟩,⟨jR.1,jR.2.1,jR.2.2.1,jR.2.2.2.1,jR.2.2.2.2.1⟩,fun b hb => ?_⟩
    obtain ⟨o,eo,_⟩ : ∃ o,s.heap.get? b = some o /\ True := by
      obtain ⟨g1,g2,⟨a,c,g3⟩,⟨o1,g4,_⟩,⟨o2,g6,_⟩⟩ := st
      simp only [List.mem_cons,List.not_mem_nil,or_false] at hb
      rcases hb with rfl | rfl | rfl | rfl | rfl
      · exact ⟨_,g1,trivial⟩
      · exact ⟨_,g2,trivial⟩
      · exact ⟨_,g3,trivial⟩
      · exact ⟨_,g4,trivial⟩
      · exact ⟨_,g6,trivial⟩
    rw [bh (Nat.ne_of_lt (Nat.lt_of_lt_of_le (Heap.lt_size eo) lz))]
    exact (hf b hb).1
  done := by
    intro X hP hw hK hc i pins s σ H E I hf st hg
    subst hP hw hK
    obtain ⟨iG,qF,rfl⟩ := hg
    obtain ⟨gD,iH,p1,qG⟩ := I.list iG
    obtain ⟨fD,qH,p2,Jx⟩ := I.list qF
    have e1 := iH.length
    have e2 := qH.length
    have W := WalksT.zip2 (prog := X.prog) (w := X.w) (A := X.A) (I.ok.hd hc) z TI TO i1 i2 l1 l2 D gD.toArray fD.toArray
    have en : min gD.toArray.size fD.toArray.size = min xs.length ys.length := by simp only [List.size_toArray]; omega
    refine W.done s _ _ (by rw [en]; exact ⟨st.1,st.2.1,st.2.2.1,st.2.2.2.1,st.2.2.2.2,p1.isList,p2.isList⟩) fun h' tk hk => ⟨rfl,I.wc (fs := [z,TO,i1,i2]) hk fun b hb => hf b ?_⟩
    simp only [List.mem_cons,List.not_mem_nil,or_false] at hb ⊢
    rcases hb with rfl | rfl | rfl | rfl <;> simp
  self := fun A i s Q E st h => wpAny_pyIter_zip st.1 h
theorem Ng {P : Program} {w : World} {K : PySem.W.Frag} {elts : List Expr} {kk : Nat} {pos : Pos} {e it l : Addr} {xs : List V} (Jz : e ≠ it) (hle : l ≠ e) (JA : l ≠ it) :
    Turn P w K (.Tuple elts kk pos) (Jw K l xs) [e,it] e (fun i h => (∃ old,IsEnum h e it i old) /\ h.IsListIter it l i) where
  mem := by simp
  obj := by
    rintro i h ⟨⟨old,h1⟩,⟨o1,h4,_,h5⟩⟩ b hb
    simp only [List.mem_cons,List.not_mem_nil,or_false] at hb
    rcases hb with rfl | rfl
    · exact ⟨_,h1,fun v z => by cases z⟩
    · exact ⟨_,h4,fun v z => by rw [h5] at z; cases z⟩
  keep := by
    rintro i h h' ⟨⟨old,h1⟩,h4⟩ k
    exact ⟨⟨old,k _ (by simp) _ h1⟩,h4.at fun o e => k _ (by simp) o e⟩
  item := by
    intro X hP hw hK hc i pins s σ H E I hf st hg
    subst hP hw hK
    obtain ⟨iG,aZ⟩ := hg
    obtain ⟨gD,iH,p1,qG⟩ := I.list iG
    have e1 := iH.length
    have W := WalksT.enumerate (prog := X.prog) (w := X.w) (A := X.A) (I.ok.hd hc) e it l Jz hle JA gD.toArray
    refine W.item i s _ _ (by simp; omega) ⟨st.1,st.2,p1.isList⟩ fun T vals h' tk zj lz yt pW hk => ⟨.ref T,rfl,W.go elts kk pos i T _ _ _ pW fun zk jR pX => ?_⟩
    obtain ⟨t,x,hx,rfl⟩ := zj
    have qI : xs[i]? = some (xs[i]'(by omega)) := List.getElem?_eq_getElem _
    obtain ⟨u,hu,ru⟩ := iH.get qI
    have ex : x = u := by
      have : gD[i]? = some x := by simpa using hx
      rw [hu] at this; exact (Option.some.inj this).symm
    subst ex
    have zl : IsTup zk T [Value.int (i : Nat) t,x].toArray := yt.at fun o e => pX T o (W.apart i T _ pW) e
    refine ⟨.ref T,upd H T (.tup [.int (i : Nat),xs[i]'(by omega)]),I.Ef (fs := [e,it]) (fun b o hb e => pX b o hb (hk b o hb e)) hf lz ⟨by show 2 <= sizeLine; decide,[.int (i : Nat) t,x],.cons ⟨t,rfl⟩ (.cons ru .nil),zl⟩,rfl,
      ⟨T,_,I.ay.fresh lz,qI,rfl,rfl⟩,⟨jR.1,jR.2.1⟩,fun b hb => ?_⟩
    obtain ⟨o,eo,_⟩ : ∃ o,s.heap.get? b = some o /\ True := by
      obtain ⟨⟨old,g1⟩,⟨o1,g4,_⟩⟩ := st
      simp only [List.mem_cons,List.not_mem_nil,or_false] at hb
      rcases hb with rfl | rfl
      · exact ⟨_,g1,trivial⟩
      · exact ⟨_,g4,trivial⟩
    rw [bh (Nat.ne_of_lt (Nat.lt_of_lt_of_le (Heap.lt_size eo) lz))]
    exact (hf b hb).1
  done := by
    intro X hP hw hK hc i pins s σ H E I hf st hg
    subst hP hw hK
    obtain ⟨iG,rfl⟩ := hg
    obtain ⟨gD,iH,p1,qG⟩ := I.list iG
    have e1 := iH.length
    have W := WalksT.enumerate (prog := X.prog) (w := X.w) (A := X.A) (I.ok.hd hc) e it l Jz hle JA gD.toArray
    have en : gD.toArray.size = xs.length := by simp only [List.size_toArray]; omega
    exact W.done s _ _ (by rw [en]; exact ⟨st.1,st.2,p1.isList⟩) fun h' tk hk => ⟨rfl,I.wc (fs := [e,it]) hk hf⟩
  self := fun A i s Q E st h => by
    obtain ⟨⟨old,h1⟩,_⟩ := st
    exact wpAny_pyIter_enum h1 h
def HG (K : PySem.W.Frag) (ta : TA) : TI := fun σ H R => ta σ H fun vs H1 => ∃ l1 l2 xs ys,vs = [.ref l1,.ref l2] /\ aN K H1 l1 xs /\ aN K H1 l2 ys /\ R (Jv K l1 l2 xs ys) H1
def HH (K : PySem.W.Frag) (ta : TA) : TI := fun σ H R => ta σ H fun vs H1 => ∃ l xs,vs = [.ref l] /\ aN K H1 l xs /\ R (Jw K l xs) H1
section
variable {X : Cx} {elts : List Expr} {kk : Nat} {tp : Pos}
theorem Rb {a b : Expr} {ta : TA} {p pos : Pos} (hg : Gl X "zip") (hm : X.mg "zip" = none) (ha : PA X [a,b] ta) (hs : starEach [a,b] X.env = [(false,eval a X.env),(false,eval b X.env)] := by rfl) (fL : starEach [b] X.env = [(false,eval b X.env)] := by rfl) :
    PI X (.Tuple elts kk tp) (.Call (.Name "zip" p) [a,b] [] pos) (HG X.K ta) := by
  intro pins s σ H R I h
  refine Call_ (kq I hg hm Q4 (PyProof.Rows.callWith_type1 (az (ha pos pins s σ H _ I h) fun us s1 ⟨vs,H1,I1,r1,q1⟩ => ?_) (by rw [hs,fL]) (by rw [fL]; rfl)))
  obtain ⟨l1,l2,xs,ys,rfl,iG,qF,q⟩ := q1
  obtain ⟨u1,u2,rfl,c1,c2⟩ := r1.two
  cases c1
  cases c2
  obtain ⟨gD,iH,p1,qG⟩ := I1.list iG
  obtain ⟨fD,qH,p2,Jx⟩ := I1.list qF
  have tW : l1 < s1.heap.objs.size := by obtain ⟨o,n,e,_⟩ := p1; exact Heap.lt_size e
  have qv : l2 < s1.heap.objs.size := by obtain ⟨o,n,e,_⟩ := p2; exact Heap.lt_size e
  refine call_zip_2 p1.isList p2.isList fun h' hz X7 X8 X9 Yb hsz hk => wpAny_pyIter_zip hz ?_
  have I2 : Inv X pins σ H1 { s1 with heap := h' } := I1.kept (t' := s1.toks) hk
  refine ⟨s1.heap.objs.size + 4,[s1.heap.objs.size + 4,s1.heap.objs.size + 2,s1.heap.objs.size + 3,s1.heap.objs.size,s1.heap.objs.size + 1],_,_,H1,rfl,I2,N4 (PySem.W.ktu_apart _ _ _ tW qv),⟨hz,X7,⟨_,_,X8⟩,X9,Yb⟩,fun b hb => ?_,q⟩
  have fU : s1.heap.objs.size <= b := by
    simp only [List.mem_cons,List.not_mem_nil,or_false] at hb
    rcases hb with rfl | rfl | rfl | rfl | rfl <;> omega
  obtain ⟨f0,f1,f2,f3,f4,f5⟩ := I1.pT (H' := H1) fU (I1.ay.fresh fU)
  exact ⟨f0,f1,f2,f3,f4,f5⟩
theorem Pn {a : Expr} {ta : TA} {p pos : Pos} (hg : Gl X "enumerate") (hm : X.mg "enumerate" = none) (ha : PA X [a] ta) (hs : starEach [a] X.env = [(false,eval a X.env)] := by rfl) :
    PI X (.Tuple elts kk tp) (.Call (.Name "enumerate" p) [a] [] pos) (HH X.K ta) := by
  intro pins s σ H R I h
  refine Call_ (kq I hg hm LO (PyProof.Rows.callWith_type1 (az (ha pos pins s σ H _ I h) fun us s1 ⟨vs,H1,I1,r1,q1⟩ => ?_) hs rfl))
  obtain ⟨l,xs,rfl,iG,q⟩ := q1
  obtain ⟨u1,rfl,c1⟩ := r1.one
  cases c1
  obtain ⟨gD,iH,p1,qG⟩ := I1.list iG
  have tW : l < s1.heap.objs.size := by obtain ⟨o,n,e,_⟩ := p1; exact Heap.lt_size e
  refine call_enumerate_list p1.isList fun h' hE hI hsz hk => wpAny_pyIter_enum hE ?_
  have I2 : Inv X pins σ H1 { s1 with heap := h' } := I1.kept (t' := s1.toks) hk
  refine ⟨s1.heap.objs.size + 1,[s1.heap.objs.size + 1,s1.heap.objs.size],_,_,H1,rfl,I2,Ng (Nat.succ_ne_self _) (PySem.W.ktu_ne 1 tW) (Nat.ne_of_lt tW),⟨⟨_,hE⟩,hI⟩,fun b hb => ?_,q⟩
  have fU : s1.heap.objs.size <= b := by
    simp only [List.mem_cons,List.not_mem_nil,or_false] at hb
    rcases hb with rfl | rfl <;> omega
  obtain ⟨f0,f1,f2,f3,f4,f5⟩ := I1.pT (H' := H1) fU (I1.ay.fresh fU)
  exact ⟨f0,f1,f2,f3,f4,f5⟩
end
section
variable {ι : Type} {F : bb ι} {a b tg : Expr} {ρ : En} {ta tb' : Tr} {elts : List Expr} {kk : Nat} {tp pos : Pos}
def nF (xs ys : List Dv) : List Dv := List.zipWith (fun x y => .tup [x,y]) xs ys
def jm (xs : List Dv) : List Dv := (List.range xs.length).zipWith (fun k x => .tup [di (k : Nat),x]) xs
theorem Pq {xs ys : List Dv} (hm : F.mg "zip" = none) (ha : Ev F a ρ ta) (hb : Ev F b ρ tb') (ea : er ta = .lst xs) (eb : er tb' = .lst ys) {p : Pos} (hg : ∀ i,Gl (F.cx i) "zip" := by intro _; rfl)
    (hs : ∀ i,starEach [a,b] (F.cx i).env = [(false,eval a (F.cx i).env),(false,eval b (F.cx i).env)] := by intro _; rfl) (fL : ∀ i,starEach [b] (F.cx i).env = [(false,eval b (F.cx i).env)] := by intro _; rfl) :
    bz F (.Tuple elts kk tp) (.Call (.Name "zip" p) [a,b] [] pos) ρ (nF xs ys) := by
  obtain ⟨τ,p,q⟩ := (ag ha (ag hb ax fL) (fun i => by rw [hs i,fL i])).use
  refine ⟨HG F.K τ,fun i => F.hK i ▸ Rb (hg i) ((F.hm i).symm ▸ hm) (p i) (hs i) (fL i),fun σ G H R s r k => q σ G H _ s r fun vs G1 H1 s1 hx => ?_⟩
  obtain ⟨x,y,rfl,h1,h2⟩ := S7 hx
  rw [ea] at h1
  rw [eb] at h2
  obtain ⟨l1,us,rfl,g1,g2⟩ := h1
  obtain ⟨l2,ws,rfl,g3,g4⟩ := h2
  have e1 := g2.length
  have e2 := g4.length
  refine ⟨l1,l2,us,ws,rfl,s1.s.seq g1,s1.s.seq g3,k _ G1 H1 s1 fun j G2 H2 sg sh => ⟨fun d hd => ?_,fun hz => ?_⟩⟩
  · unfold nF at hd
    rw [List.getElem?_zipWith] at hd
    cases qx : xs[j]? with
    | none => rw [qx] at hd; cases hd
    | some dx =>
      cases qy : ys[j]? with
      | none => rw [qx,qy] at hd; cases hd
      | some dy =>
        rw [qx,qy] at hd
        cases hd
        obtain ⟨vx,x1,x2⟩ := g2.get qx
        obtain ⟨vy,y1,y2⟩ := g4.get qy
        have lx : j < us.length := (List.getElem?_eq_some_iff.mp x1).1
        have ly : j < ws.length := (List.getElem?_eq_some_iff.mp y1).1
        refine ⟨⟨(sg.trans sh).seq g1,(sg.trans sh).seq g3,by omega⟩,?_⟩
        rintro x H3 ⟨T,wx,wy,hT,z1,z2,rfl,rfl⟩
        rw [x1] at z1
        rw [y1] at z2
        cases z1
        cases z2
        refine ⟨_,.new sh hT,T,_,rfl,cH.of cL,_,_,rfl,(x2.mono sg).mono (ao.new (sh.free hT)),_,_,rfl,(y2.mono sg).mono (ao.new (sh.free hT)),rfl⟩
  · refine ⟨(sg.trans sh).seq g1,(sg.trans sh).seq g3,?_⟩
    rw [hz]
    unfold nF
    rw [List.length_zipWith,e1,e2]
theorem oN {xs : List Dv} (hm : F.mg "enumerate" = none) (ha : Ev F a ρ ta) (ea : er ta = .lst xs) {p : Pos} (hg : ∀ i,Gl (F.cx i) "enumerate" := by intro _; rfl)
    (hs : ∀ i,starEach [a] (F.cx i).env = [(false,eval a (F.cx i).env)] := by intro _; rfl) : bz F (.Tuple elts kk tp) (.Call (.Name "enumerate" p) [a] [] pos) ρ (jm xs) := by
  obtain ⟨τ,p,q⟩ := (ag ha ax hs).use
  refine ⟨HH F.K τ,fun i => F.hK i ▸ Pn (hg i) ((F.hm i).symm ▸ hm) (p i) (hs i),fun σ G H R s r k => q σ G H _ s r fun vs G1 H1 s1 hx => ?_⟩
  obtain ⟨x,rfl,h1⟩ := ig hx
  rw [ea] at h1
  obtain ⟨l1,us,rfl,g1,g2⟩ := h1
  have e1 := g2.length
  refine ⟨l1,us,rfl,s1.s.seq g1,k _ G1 H1 s1 fun j G2 H2 sg sh => ⟨fun d hd => ?_,fun hz => ?_⟩⟩
  · unfold jm at hd
    rw [List.getElem?_zipWith] at hd
    cases qx : xs[j]? with
    | none =>
      rw [qx] at hd
      cases q2 : (List.range xs.length)[j]? with
      | none => rw [q2] at hd; cases hd
      | some z => rw [q2] at hd; cases hd
    | some dx =>
      have lj : j < xs.length := (List.getElem?_eq_some_iff.mp qx).1
      rw [qx,List.getElem?_range lj] at hd
      cases hd
      obtain ⟨vx,x1,x2⟩ := g2.get qx
      refine ⟨⟨(sg.trans sh).seq g1,by omega⟩,?_⟩
      rintro x H3 ⟨T,wx,hT,z1,rfl,rfl⟩
      rw [x1] at z1
      cases z1
      exact ⟨_,.new sh hT,T,_,rfl,cH.of cL,_,_,rfl,⟨rfl,rfl⟩,_,_,rfl,(x2.mono sg).mono (ao.new (sh.free hT)),rfl⟩
  · refine ⟨(sg.trans sh).seq g1,?_⟩
    rw [hz]
    unfold jm
    rw [List.length_zipWith,List.length_range,Nat.min_self,e1]
theorem Cz {n : Nat} {ds dd : List Dv} (e : xC n (.tup ds) = some dd) : ds.length = n /\ dd = ds := by
  have e' : (if ds.length = n then some ds else none) = some dd := e
  by_cases h : ds.length = n
  · rw [if_pos h] at e'; cases e'; exact ⟨h,rfl⟩
  · rw [if_neg h] at e'; cases e'
theorem kr (j1 j2 : Nat) {x y : Str} {px py : Pos} (hN : ∀ i,(F.cx i).N.Nodup) (h1 : ∀ i,(F.cx i).N[j1]? = some x := by intro _; rfl) (h2 : ∀ i,(F.cx i).N[j2]? = some y := by intro _; rfl)
    (hx : ∀ i,Loc (F.cx i).env.scope x := by intro _; first | exact Or.inl rfl | exact Or.inr rfl) (hy : ∀ i,Loc (F.cx i).env.scope y := by intro _; first | exact Or.inl rfl | exact Or.inr rfl)
    (fx : ∀ i,(F.cx i).fn x = true \/ (F.cx i).env.scope.names.lookup x = some .local := by intro _; first | exact .inl rfl | exact .inr rfl) (fy : ∀ i,(F.cx i).fn y = true \/ (F.cx i).env.scope.names.lookup y = some .local := by intro _; first | exact .inl rfl | exact .inr rfl) :
    iE F (.Tuple [.Name x px,.Name y py] kk tp) [j1,j2] (xC 2) :=
  ⟨x8 F.K 2 (nc (eE j1) (nc (eE j2) x6)),fun i => F.hK i ▸ EL (F.calm i) (oI (jI (hN i) (h1 i) (hx i) (fx i)) (oI (jI (hN i) (h2 i) (hy i) (fy i)) D2)),fun d dd v σ G H Q e s h k => by
    cases d with
    | fl _ => cases e
    | lst _ => cases e
    | tup ds =>
      obtain ⟨hl,rfl⟩ := Cz e
      obtain ⟨a,vs,rfl,q1,q2⟩ := h
      have hv : vs.length = 2 := by rw [<- q2.length]; exact hl
      refine ⟨a,vs,rfl,s.tup q1,hv,?_⟩
      match vs,hv with
      | [v1,v2],_ => exact ⟨v1,[v2],rfl,v2,[],rfl,rfl,k [v1,v2] q2⟩⟩
theorem Rc (j1 j2 j3 : Nat) {x y z : Str} {px py pz : Pos} (hN : ∀ i,(F.cx i).N.Nodup) (h1 : ∀ i,(F.cx i).N[j1]? = some x := by intro _; rfl) (h2 : ∀ i,(F.cx i).N[j2]? = some y := by intro _; rfl) (h3 : ∀ i,(F.cx i).N[j3]? = some z := by intro _; rfl)
    (hx : ∀ i,Loc (F.cx i).env.scope x := by intro _; first | exact Or.inl rfl | exact Or.inr rfl) (hy : ∀ i,Loc (F.cx i).env.scope y := by intro _; first | exact Or.inl rfl | exact Or.inr rfl) (hz : ∀ i,Loc (F.cx i).env.scope z := by intro _; first | exact Or.inl rfl | exact Or.inr rfl)
    (fx : ∀ i,(F.cx i).fn x = true \/ (F.cx i).env.scope.names.lookup x = some .local := by intro _; first | exact .inl rfl | exact .inr rfl) (fy : ∀ i,(F.cx i).fn y = true \/ (F.cx i).env.scope.names.lookup y = some .local := by intro _; first | exact .inl rfl | exact .inr rfl)
    (fz : ∀ i,(F.cx i).fn z = true \/ (F.cx i).env.scope.names.lookup z = some .local := by intro _; first | exact .inl rfl | exact .inr rfl) :
    iE F (.Tuple [.Name x px,.Name y py,.Name z pz] kk tp) [j1,j2,j3] (xC 3) :=
  ⟨x8 F.K 3 (nc (eE j1) (nc (eE j2) (nc (eE j3) x6))),fun i => F.hK i ▸ EL (F.calm i) (oI (jI (hN i) (h1 i) (hx i) (fx i)) (oI (jI (hN i) (h2 i) (hy i) (fy i)) (oI (jI (hN i) (h3 i) (hz i) (fz i)) D2))),fun d dd v σ G H Q e s h k => by
    cases d with
    | fl _ => cases e
    | lst _ => cases e
    | tup ds =>
      obtain ⟨hl,rfl⟩ := Cz e
      obtain ⟨a,vs,rfl,q1,q2⟩ := h
      have hv : vs.length = 3 := by rw [<- q2.length]; exact hl
      refine ⟨a,vs,rfl,s.tup q1,hv,?_⟩
      match vs,hv with
      | [v1,v2,v3],_ => exact ⟨v1,[v2,v3],rfl,v2,[v3],rfl,v3,[],rfl,rfl,k [v1,v2,v3] q2⟩⟩
end
end L2
namespace L2
open PySem PySem.Spec PyProof.Rows
theorem N5 {X : Cx} {elt tg iter : Expr} {ifs : List Expr} {sc : Scope} {cl : List (Str × Addr)} {own : List Str} {fr : List Nat} {pos pY py : Pos} {wi : TI} {g : TG} {tt : TT} {te : TE} {y0 : Str} {j0 : Nat}
    (L : hG X sc cl fr) (hc : X.calm = true) (hi : PI X tg iter wi)
    (hg : ∀ C s H ex pn,PG (cB X own fr sc cl C s H ex pn) tg g)
    (ht : ∀ C s H ex pn (pins : List (Addr × Obj)) (s1 : Shared) (aE : St) (H1 : Hp) (Q : Bool -> Hp -> Prop),Inv (cB X own fr sc cl C s H ex pn) pins aE H1 s1 -> tt aE H1 Q ->
      wpAny (model X.prog X.w) X.A (i9 ifs (compEnvC sc (cellsFrom (C + 1) sc.names cl) C X.env)) (TP (cB X own fr sc cl C s H ex pn) pins aE Q) ck s1)
    (he : ∀ C s H ex pn,PE (cB X own fr sc cl C s H ex pn) elt te) (Yc : X.N.Nodup) (Yd : X.N[j0]? = some y0) (Ye : Loc X.env.scope y0)
    (jz : swapsWith (.ListComp elt [⟨tg,iter,ifs,0⟩] sc pos) (some (.Name y0 py)) pY.line X.env = pure true) (Yg : X.fn y0 = true \/ X.env.scope.names.lookup y0 = some .local) (hs : ∀ x,foldedSetIterable iter X.env x = pure x := by intro _; rfl) :
    PS X (.Assign [.Name y0 py] (.ListComp elt [⟨tg,iter,ifs,0⟩] sc pos) pY) (kG (tO wi g tt te own fr) (eE j0)) := by
  intro pins s σ H D I h
  rw [exec_Assign_Name_used _ _ _ _ jz]
  refine wpAny_bind (wpAny_standAt (wpAny_bind ?_))
  show wpAny _ X.A (do let _ <- comprehension (.ListComp elt [⟨tg,iter,ifs,0⟩] sc pos) sc X.env _ (newList []) false (eval iter X.env) (some (assign (.Name y0 py) X.env))) _ _ s
  refine wpAny_bind (wpAny_mono (wpAny_comprehension_free (use := some (assign (.Name y0 py) X.env)) (Q := fun _ s' => SP X pins D .next s') rfl hs L.HB L.kind L.names (az (hi pins s σ H _ I h) fun v s1 h1 => az h1 fun tH s2 h2 => ?_)) (fun _ s' hq => wpAny_pure (wpAny_pure hq)) fun _ _ e => e)
  obtain ⟨it,fp,tn,J,H2,e,I2,T,aG,f2,h2⟩ := h2
  subst e
  refine wpAny_newObj_type ?_
  have I3 : Inv X pins σ (upd H2 s2.heap.objs.size (.lst [])) { s2 with heap := s2.heap.push { cls := .type "list",data := .seq ([] : List Value).toArray } } := I2.yi (t' := s2.toks) .nil (Nat.zero_le _)
  have n2 : H2 s2.heap.objs.size = none := I2.fresh
  obtain ⟨W,⟨m0,w0⟩,turn⟩ := h2 _ n2
  have qv : ∀ b ∈ fp,b < s2.heap.objs.size := fun b hb => by
    obtain ⟨o,eo,_⟩ := T.obj 0 _ aG b hb
    exact Heap.lt_size eo
  have cR : ∀ b ∈ fp,gy X pins (upd H2 s2.heap.objs.size (.lst [])) b := fun b hb => ⟨by rw [bh (Nat.ne_of_lt (qv b hb))]; exact (f2 b hb).1,(f2 b hb).2⟩
  generalize gG : ({ s2 with heap := s2.heap.push { cls := .type "list",data := .seq ([] : List Value).toArray } } : Shared) = s3 at I3
  have cY : tn 0 s3.heap := by
    rw [<- gG]
    exact T.keep 0 _ _ aG fun b hb o eo => Heap.get?_push_of_some _ eo
  have kX : ∀ b ∈ fp,b < s3.heap.objs.size := fun b hb => by
    obtain ⟨o,eo,_⟩ := T.obj 0 _ cY b hb
    exact Heap.lt_size eo
  generalize yS : upd H2 s2.heap.objs.size (.lst []) = H3 at I3 cR w0
  generalize s2.heap.objs.size = acc at turn w0 yS ⊢
  refine Cd ?_
  have iB : (pushCells (s3.heap.push { cls := .type "dict",data := .dict #[] }) sc.names).Ns s3.heap.objs.size fun _ => none := (Heap.Ns.new s3.heap (.type "dict")).keeps (pushCells_keeps _ _)
  have kp : ∀ b o,s3.heap.get? b = some o -> (pushCells (s3.heap.push { cls := .type "dict",data := .dict #[] }) sc.names).get? b = some o := fun b o eo => pushCells_keeps _ _ b o (Heap.get?_push_of_some _ eo)
  have kW : ∀ y c,(cellsFrom (s3.heap.objs.size + 1) sc.names cl).lookup y = some c -> cl.lookup y = some c \/ (pushCells (s3.heap.push { cls := .type "dict",data := .dict #[] }) sc.names).IsCell c none := fun y c e =>
    rS sc.names (s3.heap.push { cls := .type "dict",data := .dict #[] }) cl y c (by rw [Heap.size_push]; exact e)
  generalize XW : pushCells (s3.heap.push { cls := .type "dict",data := .dict #[] }) sc.names = h4 at iB kp kW
  have I4 := lcInv (own := own) (tk := s3.toks) L I3 cR kX iB kp kW
  have qw : tn 0 h4 := T.keep 0 _ _ cY fun b hb o eo => kp b o eo
  have stat : ∀ {H' : Hp},(∀ b ∈ fp,H' b = none) -> ∀ b ∈ fp,gy (cB X own fr sc cl s3.heap.objs.size s3 H3 fp (X.pn ++ pins)) [] H' b := fun {H'} hn b hb =>
    ⟨hn b hb,Nat.ne_of_lt (kX b hb),fun z => (List.mem_cons.mp (I3.o9 b z)).elim (cR b hb).2.1 (cR b hb).2.2.1,.inl hb,fun y c e => (oA _ _ _ y c e).elim (fun q => (cR b hb).2.2.2.2.1 y c (L.sub y c q)) fun q => Nat.ne_of_gt (Nat.lt_of_lt_of_le (kX b hb) (Nat.le_of_succ_le q.1)),fun p hp => (cR b hb).2.2.2.2.2 p (by
      have z : p ∈ (X.pn ++ pins) ++ [] := hp
      simpa using z)⟩
  have loop : codeAny (model X.prog X.w) X.A (.compLoop (.ListComp elt [⟨tg,iter,ifs,0⟩] sc pos) 0 (.ref it) (.ref acc) (compEnvC sc (cellsFrom (s3.heap.objs.size + 1) sc.names cl) s3.heap.objs.size X.env))
      (compPost (model X.prog X.w) X.A X.xe (some (assign (.Name y0 py) X.env)) (fun _ s' => SP X pins D .next s') (.ref acc) s3.heap.objs.size) { s3 with heap := h4,toks := s3.toks } := by
    refine E3 (fun n s' => ∃ i ys aE H1,Inv (cB X own fr sc cl s3.heap.objs.size s3 H3 fp (X.pn ++ pins)) [] aE H1 s' /\ tn i s'.heap /\ (∀ b ∈ fp,H1 b = none) /\ W i n ys aE H1) ?_ m0 ⟨0,[],_,H3,I4,qw,fun b hb => (cR b hb).1,w0⟩
    rintro n s5 ⟨i,ys,jv,H5,I5,jt,kU,w5⟩
    obtain ⟨eJ,hlen,hh⟩ := turn i n ys jv H5 w5
    rcases hh with ⟨stop,qn⟩ | ⟨go,N,hN,step⟩
    · refine az (T.done (cB X own fr sc cl s3.heap.objs.size s3 H3 fp (X.pn ++ pins)) rfl rfl rfl hc i [] s5 jv H5 ck I5 (stat kU) jt stop) fun r s6 ⟨hr,I6⟩ => ?_
      subst hr
      obtain ⟨m6,yT,_⟩ := id I6.loc
      have back : ∀ h7,Heap.SameBut s3.heap.objs.size s6.heap h7 -> Inv X pins σ H5 { s6 with heap := h7 } := fun h7 jw => by
        have old : ∀ b o,s3.heap.get? b = some o -> b ≠ s3.heap.objs.size := fun b o eo => Nat.ne_of_lt (Heap.lt_size eo)
        have u6 : Un (cU X.stack) fp H3 H5 s3.heap s6.heap := I6.base
        have u7 : Un (cU X.stack) fp H3 H5 s3.heap h7 :=
          ⟨fun b o eo nn hb hx => (jw.2 b (old b o eo)).trans (u6.keep b o eo nn hb hx),fun b o eo nn hb hx => by
            obtain ⟨sl,q⟩ := u6.slot b o eo nn hb hx
            exact ⟨sl,(jw.2 b (old b o eo)).trans q⟩,u6.free,fun b o eo hx => by
            obtain ⟨o',q⟩ := u6.there b o eo hx
            exact ⟨o',(jw.2 b (old b o eo)).trans q⟩,u6.iR,u6.ic,u6.iS⟩
        have fC : H5 s3.heap.objs.size = none := I6.free
        have yo : bO X.prog X.w H5 h7 := fun b ob eb => by
          refine (I6.ay b ob eb).jf (fun c w' g9 q => (jw.2 c ?_).trans q) (fun _ q => q) fun _ _ q => q
          rintro rfl
          rcases g9 with z | z
          · rw [<- z,fC] at eb; cases eb
          · rw [fC] at z; cases z
        exact I3.Gi (s' := { s6 with heap := h7 }) I6.os u7 yo I6.bare fun b hb => ⟨(cR b hb).2.2.2.1,(cR b hb).2.1,(cR b hb).2.2.2.2.1,(cR b hb).2.2.2.2.2⟩
      have Yh : H5 s3.heap.objs.size = none := I6.free
      show wpAny _ _ (assign (.Name y0 py) X.env (.ref acc)) _ X.xe s6
      refine wpAny_assign_Name (CH (v := .ref acc) (back s6.heap (Heap.SameBut.refl ..)) Yc Yd Ye rfl (fun s7 I7 ⟨a,sb,ha⟩ => ?_) Yg)
      have aC : s3.heap.objs.size ≠ a := by
        rcases ha with rfl | ha
        · exact Nat.ne_of_gt I3.lt
        · obtain ⟨v0,q0⟩ := I3.cell y0 a ha
          exact Nat.ne_of_gt q0.lt
      refine ⟨m6,yT.sameBut sb aC,fun h8 Yi => ⟨_,H5,?_,qn⟩⟩
      exact Inv.wc (t' := s7.toks) (fs := [s3.heap.objs.size]) I7 (fun b o hb e => (Yi.2 b (fun z => hb (by rw [z]; exact .head _))).trans e) (fun b hb => by
        rw [List.mem_singleton.mp hb]
        exact I3.pT (H' := H5) (Nat.le_refl _) Yh)
    · refine az (T.item (cB X own fr sc cl s3.heap.objs.size s3 H3 fp (X.pn ++ pins)) rfl rfl rfl hc i [] s5 jv H5 ck I5 (stat kU) jt go) fun r s6 ⟨u,hr,h6⟩ => ?_
      subst hr
      refine az h6 fun _ s7 ⟨x,H7,I7,r7,y7,kY,yU⟩ => ?_
      have yV := I7.pinned (stat yU) (T.obj _ _ kY)
      refine az (hg _ _ _ _ _ _ s7 jv H7 x u _ yV r7 (step x H7 y7)) fun _ s8 ⟨jx,H8,I8,q8⟩ => ?_
      have again : ∀ {zs : List V} {iC : St} {H9 : Hp} {s9 : Shared},Inv (cB X own fr sc cl s3.heap.objs.size s3 H3 fp (X.pn ++ pins)) ([] ++ mS fp s7.heap) iC H9 s9 -> N zs iC H9 ->
          ∃ m,m < n /\ ∃ i ys aE H1,Inv (cB X own fr sc cl s3.heap.objs.size s3 H3 fp (X.pn ++ pins)) [] aE H1 s9 /\ tn i s9.heap /\ (∀ b ∈ fp,H1 b = none) /\ W i m ys aE H1 := fun {zs iC H9 s9} I9 n9 => by
        obtain ⟨m',hm,w9⟩ := hN zs iC H9 n9
        refine ⟨m',hm,i + 1,zs,iC,H9,I9.oJ,T.keep _ _ _ kY fun b hb o e => (I9.pin (b,o) (List.mem_append_right _ (List.mem_append_right _ (mj hb e)))).1,fun b hb => ?_,w9⟩
        obtain ⟨o,e,d⟩ := T.obj _ _ kY b hb
        exact (I9.pin (b,o) (List.mem_append_right _ (List.mem_append_right _ (mj hb e)))).2.1
      refine az (ht _ _ _ _ _ _ s8 jx H8 _ I8 q8) fun ok s9 ⟨H9,I9,q9⟩ => ?_
      cases ok with
      | false => exact again I9 (by simpa using q9)
      | true =>
        refine az (he _ _ _ _ _ _ s9 jx H9 _ I9 q9) fun z yW ⟨y,yX,yY,yZ,kZ,y3⟩ => ?_
        refine az (rC _ yW jx yX (.ref acc) [y] (.ref acc) [z] (fun _ H' => N (ys ++ [y]) jx H') yY rfl (.cons yZ .nil) ⟨acc,ys,y,rfl,rfl,kZ,hlen,y3⟩) fun _ XX ⟨_,XY,y4,_,y6⟩ => again y4 y6
  rw [<- gG] at loop ⊢
  exact codeAny_compStart_list loop (yR (T.self _ 0 _ _ _ qw (by rw [gG]; rw [gG] at loop; exact loop)))
section
variable {ι : Type} {F : bb ι} {elt tg iter : Expr} {ifs : List Expr} {sc : Scope} {own : List Str} {fr : List Nat} {cl : ι -> List (Str × Addr)} {ρ : En} {t : Tr} {pos pY py : Pos}
theorem kJ (h : dH F own fr sc cl elt tg iter ifs ρ t) : ∃ τ,tU F own fr sc cl elt tg iter ifs τ /\ ∀ σ G H fp Q,ao G H -> aS F.K G H ρ σ fp -> (∀ a ∈ fp,G a = none) -> Kv F.K G H t Q -> τ σ H Q :=
  let ⟨τ,v,y⟩ := h; ⟨τ,v,fun σ G H fp Q s r _ k => y σ G H Q s r.nR k⟩
theorem Ta (h : dH F own fr sc cl elt tg iter ifs (pk ρ) t) (c : Cl t) : ∃ τ,tU F own fr sc cl elt tg iter ifs τ /\ ∀ σ G H fp Q,ao G H -> aS F.K G H ρ σ fp -> (∀ a ∈ fp,G a = none) -> Kv F.K G H t Q -> τ σ H Q := by
  obtain ⟨τ,x,y⟩ := h
  refine ⟨τ,x,fun σ G H fp Q s r hg k => ?_⟩
  refine y σ (eK G H fp) H Q (rH s) (r.pk (i7 hg) fun a ha => jJ ha) fun v G' H' fq st o w => ?_
  refine k v G H' fq ⟨ao.refl _,st.h,s.trans st.h,fun a h h' => absurd h h'⟩ (o.cl c) ⟨w.n,fun a ha => s.free (w.n a ha),w.d⟩
theorem jL (j : Nat) {x : Str} (h : ∃ τ,tU F own fr sc cl elt tg iter ifs τ /\ ∀ σ G H fp Q,ao G H -> aS F.K G H ρ σ fp -> (∀ a ∈ fp,G a = none) -> Kv F.K G H t Q -> τ σ H Q) (L : ∀ i,hG (F.cx i) sc (cl i) fr) (hN : ∀ i,(F.cx i).N.Nodup) (hj : Nat.blt j ρ.length = true := by rfl) (hi : ∀ i,(F.cx i).N[j]? = some x := by intro _; rfl)
    (hx : ∀ i,Loc (F.cx i).env.scope x := by intro _; first | exact Or.inl rfl | exact Or.inr rfl) (jz : ∀ i,swapsWith (.ListComp elt [⟨tg,iter,ifs,0⟩] sc pos) (some (.Name x py)) pY.line (F.cx i).env = pure true := by intro _; rfl)
    (hf : ∀ i,(F.cx i).fn x = true \/ (F.cx i).env.scope.names.lookup x = some .local := by intro _; first | exact .inl rfl | exact .inr rfl) (hs : ∀ i x,foldedSetIterable iter (F.cx i).env x = pure x := by intro _ _; rfl) :
    Rn F (.Assign [.Name x py] (.ListComp elt [⟨tg,iter,ifs,0⟩] sc pos) pY) ρ (.nx (ρ.set j (some t))) := by
  obtain ⟨τ,⟨wi,g,tt,te,rfl,h1,h2,h3,h4⟩,z⟩ := h
  refine ⟨_,fun i => N5 (cl := cl i) (L i) (F.calm i) (h1 i) (fun C s H ex pn => h2 (i,⟨C,s,H,ex,pn⟩)) (fun C s H ex pn => h3 (i,⟨C,s,H,ex,pn⟩)) (fun C s H ex pn => h4 (i,⟨C,s,H,ex,pn⟩)) (hN i) (hi i) (hx i) (jz i) (hf i) (hs i),fun D σ G0 H0 G H r k => ?_⟩
  obtain ⟨fp,r⟩ := r
  exact z σ G H fp _ r.st.s r.own r.g fun v G1 H1 fq s1 o w => k _ G1 H1 (r.set (Nat.le_of_ble_eq_true hj) s1 o w)
theorem dH.as {d : Dv} (h : dH F own fr sc cl elt tg iter ifs ρ t) (e : er t = d) : dH F own fr sc cl elt tg iter ifs ρ (.fz d) := by
  obtain ⟨τ,v,q⟩ := h
  refine ⟨τ,v,fun σ G H Q s r k => q σ G H Q s r fun v G' H' fq st o w => ?_⟩
  exact k v (eK G' H' fq) H' [] (st.cX w) ⟨rfl,e ▸ o.hv (i7 w.g) fun a ha => jJ ha⟩ .nil
theorem dH.to {t' : Tr} (h : dH F own fr sc cl elt tg iter ifs ρ t) (e : t = t') : dH F own fr sc cl elt tg iter ifs ρ t' := e ▸ h
end
end L2
namespace L2
open PySem PySem.Spec PyProof.Rows
def wU (K : PySem.W.Frag) : V -> List V -> Hp -> VK -> Prop := fun x vs H Q => ∃ l xs y,x = .ref l /\ vs = [y] /\ aN K H l xs /\ dR y = true /\ xs.all dR = true /\ Q (.int (xs.countP fun z => eQ z y)) H
theorem CA {x : V} : ∀ {xs : List V} {us : List Value},Vals xs us -> xs.all dR = true -> us.countP (eU x) = xs.countP fun y => eQ y x
  | _,_,.nil,_ => rfl
  | y :: xs,u :: us,.cons r t,f => by
    rw [List.all_cons,Bool.and_eq_true] at f
    rw [List.countP_cons,List.countP_cons,CA t f.2,wH r f.1]
section
variable {X : Cx}
theorem Dm : tK X "list.count" (wU X.K) := by
  intro pins s σ H x vs v us Q I rx rv h
  obtain ⟨l,xs,y,rfl,rfl,hq,fy,fs,q⟩ := h
  cases rx
  obtain ⟨u,rfl,ru⟩ := rv.one
  obtain ⟨its,r,⟨⟨cl,dd,da,sl⟩,n,e,c1,c2,d1⟩,z⟩ := I.list hq
  simp only at c1 d1
  subst c1 d1
  refine call_meets F.slot_list_count ⟨_,e,rfl⟩ F.entry_list_count (F.args_list_count_2 _ _) (SeqAt.list_countAt l its.toArray n dd sl u (eU y)) ⟨e,fun w hw => mE ru fy r fs w (by simpa using hw),?_⟩
  refine ⟨.int _,H,I.tok _,⟨_,rfl⟩,?_⟩
  rw [show its.toArray.toList = its by simp,CA r fs]
  exact q
end
section
variable {ι : Type} {F : bb ι} {e a b c : Expr} {es : List Expr} {ρ : En} {t ta tb' tc : Tr} {ts : List Tr} {pos : Pos}
theorem Cm (n : Int) : ∀ ns : List Int,(ns.map V.int).countP (fun z => eQ z (.int n)) = ns.count n
  | [] => rfl
  | m :: ms => by
    rw [List.map_cons,List.countP_cons,Cm n ms,List.count_cons]
    rfl
theorem GU {nm : Str} {id : String} {r : V -> List V -> Hp -> VK -> Prop} {xs : List Dv} {o : Expr} {to : Tr} (slot : Slot "list" nm id) (yO : typeOf (.builtin id) = pure (.type "method_descriptor")) (hm : ∀ i,Jj (F.cx i) id r) (ho : Ev F o ρ to) (eo : er to = .lst xs) (ha : gH F (e :: es) ρ ts)
    (h : ∀ G H x vs Q,ao G H -> Hv F.K G (er to) x -> aP F.K G (dW ts) vs -> Kv F.K G H t Q -> r x vs H Q) {apos : Pos}
    (gk : ∀ i,attributeBase o nm (F.cx i).env (eval o (F.cx i).env) = eval o (F.cx i).env := by intro _; rfl)
    (gC : ∀ i,((backTo pos (starEach (e :: es) (F.cx i).env)).all (fun x => !x.1) && (backToKw pos (keywordEach [] (F.cx i).env)).all (fun x => x.1.isSome) && decide ((e :: es).length + ([] : List Keyword).length + (if ([] : List Keyword).isEmpty then 0 else 1) < 30)) = true := by intro _; rfl)
    (hline : (apos.endLine == pos.line) = true := by rfl) (hs : ∀ i,starEach (e :: es) (F.cx i).env = (false,eval e (F.cx i).env) :: starEach es (F.cx i).env := by intro _; rfl) (wI : ∀ i,(backTo pos (starEach es (F.cx i).env)).any (·.1) = false := by intro _; rfl) :
    Ev F (.Call (.Attribute o nm apos) (e :: es) [] pos) ρ t := by
  obtain ⟨τ,p,q⟩ := ho.use
  obtain ⟨bY,p',q'⟩ := ha.use
  refine ⟨nO F.K "list" r τ bY,fun i => F.hK i ▸ pF PySem.F.plainAttrs_list slot yO (hm i) (p i) (p' i) (gk i) (gC i) hline (hs i) (wI i),fun σ G H Q s rr k => ?_⟩
  refine q σ G H _ s rr fun x G1 H1 s1 hx => ⟨?_,q' σ G1 H1 _ s1.s (rr.mono s1.g) fun vs G2 H2 s2 hv => h G2 H2 x vs Q s2.s (hx.mono s2.g) hv (k.step (s1.trans s2))⟩
  rw [eo] at hx
  obtain ⟨l,us,rfl,h1,h2⟩ := hx
  exact .inl ⟨rfl,_,s1.s.seq h1⟩
theorem Dn {n : Int} {ns : List Int} {o : Expr} {to : Tr} (ho : Ev F o ρ to) (eo : er to = dis ns) (ha : Ev F e ρ (ti n)) {apos : Pos}
    (gk : ∀ i,attributeBase o "count" (F.cx i).env (eval o (F.cx i).env) = eval o (F.cx i).env := by intro _; rfl)
    (gC : ∀ i,((backTo pos (starEach [e] (F.cx i).env)).all (fun x => !x.1) && (backToKw pos (keywordEach [] (F.cx i).env)).all (fun x => x.1.isSome) && decide (([e] : List Expr).length + ([] : List Keyword).length + (if ([] : List Keyword).isEmpty then 0 else 1) < 30)) = true := by intro _; rfl)
    (hline : (apos.endLine == pos.line) = true := by rfl) (hs : ∀ i,starEach [e] (F.cx i).env = [(false,eval e (F.cx i).env)] := by intro _; rfl) : Ev F (.Call (.Attribute o "count" apos) [e] [] pos) ρ (ti (ns.count n : Nat)) :=
  GU (r := wU F.K) PySem.F.slot_list_count PySem.F.type_list_count (fun i => F.hK i ▸ Dm) ho eo (ag ha ax hs) (fun G H x vs Q s hx hv k => by
    rw [eo] at hx
    obtain ⟨l,us,rfl,h1,h2⟩ := hx
    have := oM h2
    subst this
    obtain ⟨y,rfl,hy⟩ := ig hv
    refine ⟨l,_,y,rfl,rfl,s.seq h1,by rw [aV hy]; rfl,CO ns,?_⟩
    rw [aV hy,Cm]
    exact k.sc s rfl) gk gC hline hs (fun _ => rfl)
theorem CT {K : PySem.W.Frag} {G : Hp} : ∀ {bs : List Bool} {vs : List V},aP K G (bs.map db) vs -> vs = bs.map V.bl
  | [],_,h => h
  | _ :: _,_,⟨x,r,h1,h2,h3⟩ => by subst h1; rw [aV h2,CT h3]; rfl
theorem oh {α β : Type} (l : List α) (d : α) (f : α -> β) : (List.range l.length).map (fun k => f ((l[k]?).getD d)) = l.map f := by
  refine List.ext_getElem? fun i => ?_
  rw [List.getElem?_map,List.getElem?_map]
  rcases Nat.lt_or_ge i l.length with h | h
  · rw [List.getElem?_range h,List.getElem?_eq_getElem h]
    show some (f ((l[i]?).getD d)) = _
    rw [List.getElem?_eq_getElem h]
    rfl
  · rw [List.getElem?_eq_none (by simpa using h),List.getElem?_eq_none h]
    rfl
theorem Ff : ∀ ds : List Dv,dW (ds.map .fz) = ds
  | [] => rfl
  | d :: ds => by show d :: dW (ds.map .fz) = _; rw [Ff ds]
theorem mX (ds : List Dv) : er (.ow (ds.map .fz)) = .lst ds := by show Dv.lst _ = _; rw [Ff]
theorem Ev.to {t' : Tr} (h : Ev F e ρ t) (q : t = t') : Ev F e ρ t' := q ▸ h
theorem Et.to {p q : Bool} (h : Et F e ρ p) (z : p = q) : Et F e ρ q := z ▸ h
theorem bL.to {t' : Tr} (h : bL F e ρ t) (q : t = t') : bL F e ρ t' := q ▸ h
theorem jM {A B : List Stmt} {o : Out} {p : Bool} (hc : fT F c ρ p) (hp : p = true) (h1 : bp F A ρ o) : Rn F (.If c A B pos) ρ o := xB hc (fun _ => h1) fun h => by rw [hp] at h; cases h
theorem Fh {A B : List Stmt} {o : Out} {p : Bool} (hc : fT F c ρ p) (hp : p = false) (h1 : bp F B ρ o) : Rn F (.If c A B pos) ρ o := xB hc (fun h => by rw [hp] at h; cases h) fun _ => h1
theorem df {A : List Stmt} {p : Bool} (hc : fT F c ρ p) (hp : p = false) : Rn F (.If c A [] pos) ρ (.nx ρ) := Fh hc hp v9
def HI (dd : List Dv) (t : Tr) : Prop := ∃ ns : List Int,ns.length <= 63 /\ dd = [dis ns] /\ t = tb true
def sM (K : PySem.W.Frag) : Sp := fun vs H Q _ => ∃ (a : Addr) (ns : List Int),vs = [.ref a] /\ aN K H a (ns.map V.int) /\ ns.length <= 63 /\ ∀ H',Q (.bl true) H'
theorem Rf {P : Program} {w : World} {K : PySem.W.Frag} {mg : Str -> Option Value} {base : Heap} {k : Nat} {f : Addr} {fd : FuncData} (F : aR P w K mg base au k f fd ["_law_script"] (spT K HI)) : aR P w K mg base au k f fd ["_law_script"] (sM K) :=
  F.imp fun vs H Q E ⟨a,ns,e,h1,h2,h3⟩ => ⟨H,[dis ns],tb true,ao.refl _,⟨.ref a,[],e,⟨a,_,rfl,h1,rJ⟩,rfl⟩,⟨ns,h2,rfl,rfl⟩,fun v G' H' fq st o w => by rw [aV o.2]; exact h3 H'⟩
end
end L2
namespace dY
def gc (a b : Int) : Int := (Int.gcd a b : Int)
theorem pf {a b : Int} (h : b ≠ 0) : 0 < gc a b := by
  have : 0 < Int.gcd a b := Int.gcd_pos_of_ne_zero_right _ h
  unfold gc; omega
theorem Dp (a b : Int) : gc a b ∣ a := Int.gcd_dvd_left ..
theorem Dq (a b : Int) : gc a b ∣ b := Int.gcd_dvd_right ..
theorem Pr (a : Int) : gc a 0 = (a.natAbs : Int) := by unfold gc; rw [Int.gcd_zero_right]
theorem Pt (a : Int) {b : Int} : gc b (a % b) = gc a b := by
  unfold gc
  congr 1
  apply Nat.dvd_antisymm
  · refine Int.dvd_gcd ?_ (Int.gcd_dvd_left ..)
    have h1 : (↑(Int.gcd b (a % b)) : Int) ∣ b := Int.gcd_dvd_left ..
    have h2 : (↑(Int.gcd b (a % b)) : Int) ∣ a % b := Int.gcd_dvd_right ..
    have := Int.dvd_add (Int.dvd_trans h1 (Int.dvd_mul_right b (a / b))) h2
    rwa [Int.mul_ediv_add_emod] at this
  · refine Int.dvd_gcd (Int.gcd_dvd_right ..) ?_
    have h1 : (↑(Int.gcd a b) : Int) ∣ a := Int.gcd_dvd_left ..
    have h2 : (↑(Int.gcd a b) : Int) ∣ b := Int.gcd_dvd_right ..
    rw [Int.emod_def]
    exact Int.dvd_sub h1 (Int.dvd_trans h2 (Int.dvd_mul_right b (a / b)))
theorem Rg (a b : Int) : gc (a.natAbs : Int) (b.natAbs : Int) = gc a b := by
  unfold gc; simp [Int.gcd]
theorem Pu {a b : Int} (h : 0 < b) : gc a b <= b := Int.le_of_dvd h (Dq a b)
def lT (t b : Int) : Int := (if b < 0 then -t else t) / gc t b
def lB (t b : Int) : Int := (b.natAbs : Int) / gc t b
theorem Rh {t b : Int} (h : 0 < b) : lT t b = t / gc t b := by unfold lT; rw [if_neg (by omega)]
theorem Ri {t b : Int} (h : 0 < b) : lB t b = b / gc t b := by unfold lB; rw [show (b.natAbs : Int) = b by omega]
theorem wV (t b : Int) : lT t b * gc t b = if b < 0 then -t else t := by
  unfold lT
  refine Int.ediv_mul_cancel ?_
  split
  · exact Int.dvd_neg.mpr (Dp t b)
  · exact Dp t b
theorem wW (t b : Int) : lB t b * gc t b = (b.natAbs : Int) := by
  unfold lB
  refine Int.ediv_mul_cancel ?_
  exact Int.dvd_natAbs.mpr (Dq t b)
theorem sN {t b : Int} (h : b ≠ 0) : 1 <= lB t b := by
  have h1 := wW t b
  have h2 := pf (a := t) h
  have h3 : 0 < lB t b := Int.pos_of_mul_pos_left (by rw [h1]; omega) h2
  omega
theorem Sl {t b : Int} (h : b ≠ 0) : lB t b <= (b.natAbs : Int) := by
  unfold lB
  exact Int.ediv_le_self _ (by omega)
theorem Rj {t b : Int} (h : b ≠ 0) : (lT t b).natAbs <= t.natAbs := by
  have h1 := wV t b
  have h2 := pf (a := t) h
  have h3 : (lT t b * gc t b).natAbs = t.natAbs := by rw [h1]; split <;> omega
  rw [Int.natAbs_mul] at h3
  have h4 : 1 <= (gc t b).natAbs := by omega
  calc (lT t b).natAbs = (lT t b).natAbs * 1 := by omega
    _ <= (lT t b).natAbs * (gc t b).natAbs := Nat.mul_le_mul_left _ h4
    _ = t.natAbs := h3
theorem we {t b : Int} (h : b ≠ 0) : lT t b * b = t * lB t b := by
  have h1 := wV t b
  have h2 := wW t b
  have h3 := pf (a := t) h
  apply Int.eq_of_mul_eq_mul_right (a := gc t b) (by omega)
  by_cases hb : b < 0
  · rw [if_pos hb] at h1
    have h4 : lB t b * gc t b = -b := by omega
    grind
  · rw [if_neg hb] at h1
    have h4 : lB t b * gc t b = b := by omega
    grind
theorem CU {t b : Int} (h : b ≠ 0) : Int.gcd (lT t b) (lB t b) = 1 := by
  have h1 := wV t b
  have h2 := wW t b
  have h3 := pf (a := t) h
  have zm : ((Int.gcd (lT t b) (lB t b) : Int)) ∣ lT t b := Int.gcd_dvd_left ..
  have hd2 : ((Int.gcd (lT t b) (lB t b) : Int)) ∣ lB t b := Int.gcd_dvd_right ..
  have e1 : ((Int.gcd (lT t b) (lB t b) : Int)) * gc t b ∣ t := by
    have := Int.mul_dvd_mul zm (Int.dvd_refl (gc t b))
    rw [h1] at this
    split at this
    · exact Int.dvd_neg.mp this
    · exact this
  have e2 : ((Int.gcd (lT t b) (lB t b) : Int)) * gc t b ∣ b := by
    have := Int.mul_dvd_mul hd2 (Int.dvd_refl (gc t b))
    rw [h2] at this
    exact Int.dvd_natAbs.mp this
  have e3 : ((Int.gcd (lT t b) (lB t b) : Int)) * gc t b ∣ gc t b := Int.dvd_coe_gcd e1 e2
  have e4 := Int.le_of_dvd h3 e3
  have e5 : 0 < Int.gcd (lT t b) (lB t b) := Int.gcd_pos_of_ne_zero_right _ (by have := sN (t := t) h; omega)
  by_cases hh : Int.gcd (lT t b) (lB t b) = 1
  · exact hh
  · have e6 : (2 : Int) <= ((Int.gcd (lT t b) (lB t b) : Nat) : Int) := by omega
    have : 2 * gc t b <= ((Int.gcd (lT t b) (lB t b) : Nat) : Int) * gc t b := Int.mul_le_mul_of_nonneg_right e6 (by omega)
    omega
theorem rM {t b p q : Int} (hb : b ≠ 0) (hq : 0 < q) (hg : Int.gcd p q = 1) (h : p * b = t * q) : p = lT t b /\ q = lB t b := by
  have c := we (t := t) hb
  have g := CU (t := t) hb
  have k := sN (t := t) hb
  have e : p * lB t b = lT t b * q := by
    apply Int.eq_of_mul_eq_mul_right (a := b) hb
    grind
  have d1 : q ∣ lB t b := by
    have z : q ∣ p * lB t b := by rw [e]; exact Int.dvd_mul_left _ _
    have z' : q.natAbs ∣ p.natAbs * (lB t b).natAbs := by rw [<- Int.natAbs_mul]; exact Int.natAbs_dvd_natAbs.mpr z
    have cp : Nat.Coprime q.natAbs p.natAbs := by
      have : Int.gcd q p = 1 := by rw [Int.gcd_comm]; exact hg
      exact this
    exact Int.natAbs_dvd_natAbs.mp (cp.dvd_of_dvd_mul_left z')
  have d2 : lB t b ∣ q := by
    have z : lB t b ∣ lT t b * q := by rw [<- e]; exact Int.dvd_mul_left _ _
    have z' : (lB t b).natAbs ∣ (lT t b).natAbs * q.natAbs := by rw [<- Int.natAbs_mul]; exact Int.natAbs_dvd_natAbs.mpr z
    have cp : Nat.Coprime (lB t b).natAbs (lT t b).natAbs := by
      have : Int.gcd (lB t b) (lT t b) = 1 := by rw [Int.gcd_comm]; exact g
      exact this
    exact Int.natAbs_dvd_natAbs.mp (cp.dvd_of_dvd_mul_left z')
  have eq : q = lB t b := Int.dvd_antisymm (by omega) (by omega) d1 d2
  refine ⟨?_,eq⟩
  rw [<- eq] at e
  exact Int.eq_of_mul_eq_mul_right (a := q) (by omega) e
theorem Tb {t b t' b' : Int} (hb : b ≠ 0) (fU : b' ≠ 0) (h : t * b' = t' * b) : lT t b = lT t' b' /\ lB t b = lB t' b' := by
  refine rM fU (by have := sN (t := t) hb; omega) (CU hb) ?_
  have c := we (t := t) hb
  apply Int.eq_of_mul_eq_mul_right (a := b) hb
  grind
end dY
namespace L2
open PySem PySem.Spec PyProof.Rows
theorem oU {lo : Int} {n j : Nat} {d : Dv} (h : (fE lo n)[j]? = some d) : j < n /\ d = di (lo + (j : Int)) := by
  rw [List.getElem?_map] at h
  rcases Nat.lt_or_ge j n with hj | hj
  · rw [List.getElem?_range hj] at h; cases h; exact ⟨hj,rfl⟩
  · rw [List.getElem?_eq_none (by simpa using hj)] at h; cases h
theorem fO {α β : Type} {f : α -> β} {l : List α} {j : Nat} {d : β} (h : (l.map f)[j]? = some d) : ∃ x,l[j]? = some x /\ d = f x := by
  rw [List.getElem?_map] at h
  cases q : l[j]? with
  | none => rw [q] at h; cases h
  | some x => rw [q] at h; cases h; exact ⟨x,rfl,rfl⟩
theorem gM {α : Type} {l : List α} {i : Nat} {x : α} (h : l[i]? = some x) : l.take (i + 1) = l.take i ++ [x] := by rw [List.take_succ,h]; rfl
theorem bp.fg {ι : Type} {F : bb ι} {cu : List Stmt} {ρ ρ1 qJ : En} (h : bp F cu ρ (.nx ρ1)) (f : Fg ρ1 qJ) : bp F cu ρ (.nx qJ) := by
  obtain ⟨τ,x,y⟩ := h
  exact ⟨τ,x,fun D σ G0 H0 G H r k => y D σ G0 H0 G H r fun aD G' H' r' => k aD G' H' (f.rs r')⟩
theorem LR {ι : Type} {F : bb ι} {cu : List Stmt} {ρ : En} {o : Out} {t : Tr} {d : Dv} (j : Nat) (hj : ρ[j]? = some (some t)) (e : er t = d) (h : bp F cu (ρ.set j (some (.fz d))) o) : bp F cu ρ o := MF j hj (e ▸ h)
theorem Ce {ι : Type} {F : bb ι} {cu body : List Stmt} {ρ : En} {o : Out} {c : Expr} {pos : Pos} {α : Type} (S : α -> En) (Pp : α -> Prop) (p : α -> Bool) (μ : α -> Nat) (a0 : α) (e : S a0 = ρ) (h0 : Pp a0) (hc : ∀ a,Pp a -> fT F c (S a) (p a)) (hb : ∀ a,Pp a -> p a = true -> ∃ a',Pp a' /\ μ a' < μ a /\ bp F body (S a) (.nx (S a')))
    (fin : ∀ a,Pp a -> p a = false -> bp F cu (S a) o) (hx : ∀ i,(F.cx i).xe = ck := by intro _; rfl) : bp F (.While c body [] pos :: cu) ρ o := by
  subst e
  obtain ⟨a',h1,h2,h3⟩ := Mh S Pp p μ hc hb a0 h0 hx
  exact aw h3 (fin a' h1 h2)
def bI (ns : List Int) (k : Int) : Int := ns.getD k.toNat 0
theorem cell_in {ns : List Int} {k : Int} (h0 : 0 <= k) (h : k < ns.length) : aY (ns.map di) k = some (di (bI ns k)) := by
  obtain ⟨j,rfl⟩ : ∃ j : Nat,k = (j : Int) := ⟨k.toNat,by omega⟩
  have hj : j < ns.length := by omega
  refine gg ?_
  unfold bI
  rw [List.getElem?_map,List.getElem?_eq_getElem hj,List.getD_eq_getElem?_getD,show (j : Int).toNat = j by omega,List.getElem?_eq_getElem hj]
  rfl
theorem cell_out {ns : List Int} {k : Int} (h0 : 0 <= k) (h : ns.length <= k) : bI ns k = 0 := by
  unfold bI
  rw [List.getD_eq_getElem?_getD,List.getElem?_eq_none (by omega)]
  rfl
theorem vI {α β : Type} (f : α -> β) (l : List α) (a b : Option Int) : cutD (l.map f) a b = (cutD l a b).map f := by
  unfold cutD
  rw [List.length_map,List.map_take,List.map_drop]
theorem N6 {α : Type} (l : List α) (a b : Option Int) : (cutD l a b).length <= l.length := by
  unfold cutD
  rw [List.length_take,List.length_drop]
  omega
mutual
def jA : Dv -> Bool
  | .fl v => dR v
  | .lst ds => kK ds
  | .tup ds => kK ds
def kK : List Dv -> Bool
  | [] => true
  | d :: ds => jA d && kK ds
end
mutual
theorem oO : ∀ {d : Dv},jA d = true -> cE d d = true
  | .fl v,h => Dc h
  | .lst ds,h => vm h
  | .tup ds,h => vm h
theorem vm : ∀ {ds : List Dv},kK ds = true -> fc ds ds = true
  | [],_ => rfl
  | d :: ds,h => by
    have h' : (jA d && kK ds) = true := h
    rw [Bool.and_eq_true] at h'
    show (cE d d && fc ds ds) = true
    rw [oO h'.1,vm h'.2]
    rfl
end
theorem vJ {α : Type} {f : α -> Dv} (h : ∀ a,jA (f a) = true) : ∀ l : List α,kK (l.map f) = true
  | [] => rfl
  | a :: l => by
    show (jA (f a) && kK (l.map f)) = true
    rw [h a,vJ h l]
    rfl
theorem rY {n : Nat} : ∀ {ds : List Dv},(∀ d ∈ ds,fJ d <= n) -> cQ ds <= n
  | [],_ => Nat.zero_le _
  | d :: ds,h => by
    show max (fJ d) (cQ ds) <= n
    exact Nat.max_le.mpr ⟨h d (.head _),rY fun x hx => h x (.tail _ hx)⟩
theorem wg (l : List Int) : jA (dis l) = true := vJ (fun _ => rfl) l
theorem rZ (l : List Int) : fJ (dis l) <= 1 := by
  show cQ _ + 1 <= 1
  have : cQ (l.map di) <= 0 := rY fun d hd => by
    obtain ⟨_,_,rfl⟩ := List.mem_map.mp hd
    exact Nat.le_refl _
  omega
theorem Pw {n : Nat} {ds : List Dv} (h : ∀ d ∈ ds,fJ d <= n) : fJ (.lst ds) <= n + 1 := Nat.succ_le_succ (rY h)
theorem Px {α : Type} {f : α -> Dv} (h : ∀ a,jA (f a) = true) (l : List α) : jA (.lst (l.map f)) = true := vJ h l
end L2
namespace L2
open PySem PySem.Spec PyProof.Rows
theorem aK.setAt {K : PySem.W.Frag} {G H : Hp} : ∀ {us : List Tr} {vs : List V} {fq : List Addr} {m : Nat} {t : Tr} {v : V} {f : List Addr},aK K G H us vs fq -> m < us.length -> Ow K G H t v f -> fq.Nodup -> f.Nodup -> (∀ a ∈ f,a ∉ fq) ->
    ∃ fw,aK K G H (us.set m t) (vs.set m v) fw /\ fw.Nodup /\ ∀ a ∈ fw,a ∈ fq \/ a ∈ f
  | u :: us,_,_,0,t,v,f,⟨w,r,f1,f2,h1,h2,h3,h4⟩,_,o,nd,nf,dj => by
    subst h1 h2
    have dG := List.nodup_append.mp nd
    refine ⟨f ++ f2,⟨v,r,f,f2,rfl,rfl,o,h4⟩,List.nodup_append.mpr ⟨nf,dG.2.1,fun a ha b hb e => dj a ha (e ▸ List.mem_append_right _ hb)⟩,fun a ha => ?_⟩
    rcases List.mem_append.mp ha with z | z
    · exact .inr z
    · exact .inl (List.mem_append_right _ z)
  | u :: us,_,_,m + 1,t,v,f,⟨w,r,f1,f2,h1,h2,h3,h4⟩,hm,o,nd,nf,dj => by
    subst h1 h2
    have dG := List.nodup_append.mp nd
    obtain ⟨fw,q1,q2,q3⟩ := aK.setAt (m := m) h4 (Nat.lt_of_succ_lt_succ hm) o dG.2.1 nf fun a ha z => dj a ha (List.mem_append_right _ z)
    refine ⟨f1 ++ fw,⟨w,_,f1,fw,rfl,rfl,h3,q1⟩,List.nodup_append.mpr ⟨dG.1,q2,fun a ha b hb e => ?_⟩,fun a ha => ?_⟩
    · subst e
      rcases q3 a hb with z | z
      · exact dG.2.2 a ha a z rfl
      · exact dj a z (List.mem_append_left _ ha)
    · rcases List.mem_append.mp ha with z | z
      · exact .inl (List.mem_append_left _ z)
      · exact (q3 a z).imp (List.mem_append_right _) id
theorem Dr {ι : Type} {F : bb ι} {e : Expr} {ρ : En} {t : Tr} {pos : Pos} (j : Nat) {x : Str} {us : List Tr} {n : Int} {m : Nat} {nE : Expr} {p1 p2 : Pos} (h : ρ[j]? = some (some (.ow us))) (hn : bL F nE ρ (ti n)) (hm : fI us.length n = some m) (he : bL F e ρ t) (hN : ∀ i,(F.cx i).N[j]? = some x := by intro _; rfl)
    (hv : ∀ i,ip (F.cx i).env.scope x := by intro _; first | exact Or.inl rfl | exact Or.inr (Or.inl rfl) | exact Or.inr (Or.inr rfl)) (hd : (x == ("__debug__" : Str)) = false := by decide) (hc : (x == ("__classdict__" : Str)) = false := by decide)
    (hs : ∀ i,swapsWithSole [.Subscript (.Name x p1) nE p2] e pos.line (F.cx i).env = pure false := by intro _; rfl) (hw : ∀ i,swappedStores [.Subscript (.Name x p1) nE p2] e (F.cx i).env = pure none := by intro _; rfl)
    (h1 : ∀ i,(assignEach [.Subscript (.Name x p1) nE p2] (F.cx i).env).map (·.2) = [assign (.Subscript (.Name x p1) nE p2) (F.cx i).env] := by intro _; rfl)
    (hps : ∀ i,PG (F.cx i) (.Subscript (.Name x p1) nE p2) (x9 (cP j) (uE F nE) xv)) :
    Rn F (.Assign [.Subscript (.Name x p1) nE p2] e pos) ρ (.nx (ρ.set j (some (.ow (us.set m t))))) := by
  obtain ⟨τ,y,z⟩ := he
  obtain ⟨zo,yn,zn⟩ := hn
  refine ⟨kG τ (x9 (cP j) (uE F nE) xv),fun i => QQ (y i) (hps i) (hs i) (hw i) (h1 i),fun D σ G0 H0 G H r k => ?_⟩
  obtain ⟨fp,r⟩ := r
  refine z σ G H fp _ r.st.s r.own r.g fun v1 G1 H1 f1 s1 o1 w1 => ?_
  have r1 : dX F.K G0 H0 G1 H1 ρ σ fp := ⟨r.st.trans s1,r.own.mono s1.g s1.h,r.own.off s1 r.g,r.n,r.d⟩
  obtain ⟨l0,zf,zg,c1,c2,_⟩ := r1.mut h (.refl r1.st.s)
  refine ⟨_,c1,zo,yn,zn σ G1 H1 fp _ r1.st.s r1.own r1.g fun vn G2 H2 f2 s2 o2 w2 => ?_⟩
  obtain ⟨l,vs,fq,d1,d2,d3,d4,d5,d6,d7⟩ := r.mut h (s1.trans s2)
  rw [c1] at d1
  cases d1
  have Yj : m < us.length := (rR hm).2.1
  have nf : ∀ a ∈ f1,a ∉ fq := fun a ha hb => by
    obtain ⟨u,hu⟩ := r.own.there a (d6 a hb)
    rw [w1.n a ha] at hu; cases hu
  obtain ⟨fw,q1,q2,q3⟩ := d4.setAt Yj (o1.mono s2.g s2.h) d5 w1.d nf
  refine ⟨l0,vs,n,m,rfl,aV o2.2,d3,by rw [<- d4.length]; exact hm,k σ G2 _ (d7 (us.set m t) (vs.set m v1) fw q1 q2 fun a ha => (q3 a ha).imp id fun z => ⟨w1.n a z,?_⟩)⟩
  cases q : G2 a with
  | none => rfl
  | some u =>
    obtain ⟨u',aW⟩ := o1.there a z
    have := s2.n a (w1.g a z) (by rw [q]; exact fun z => nomatch z)
    rw [aW] at this; cases this
end L2
namespace L2
open PySem PySem.Spec PyProof.Rows
def Rk (ta : TA) : TE := fun σ H Q => ta σ H fun vs H1 => ∃ j : Int,vs = [.int j] /\ ∀ p,H1 p = none -> Q (.ref p) (upd H1 p (.bj 0 j))
section
variable {X : Cx}
theorem Nh {a : Expr} {ta : TA} {p pos : Pos} (hg : Gl X "range") (hm : X.mg "range" = none) (ha : PA X [a] ta) (hs : starEach [a] X.env = [(false,eval a X.env)] := by rfl) : PE X (.Call (.Name "range" p) [a] [] pos) (Rk ta) := by
  intro pins s σ H Q I h
  refine Call_ (kq I hg hm boot_range (PyProof.Rows.callWith_type1 (az (ha pos pins s σ H _ I h) fun us s1 ⟨vs,H1,I1,r1,q1⟩ => ?_) hs rfl))
  obtain ⟨j,e,q⟩ := q1
  subst e
  cases r1 with
  | cons r rr =>
    cases rr
    obtain ⟨t,rfl⟩ := r
    refine call_range_1 ⟨.ref _,_,I1.laid (t' := s1.toks + 1 + 1) (o := .bj 0 j) (fun b ob q => Heap.get?_push_of_some _ q) (Nat.le_refl _) ?_,rfl,q _ (I1.ay.fresh (Nat.le_refl _))⟩
    exact ⟨_,_,_,Heap.get?_push_size _ rfl⟩
theorem Ln (hc : X.calm = true) : eG X (.type "list") (fun xs H Q => ∃ p n,xs = [.ref p] /\ H p = some (.bj 0 n) /\ 0 <= n /\ n < 2 ^ 20 /\ ∀ l,H l = none -> Q (.ref l) (upd H l (.lst ((List.range n.toNat).map fun i => .int (0 + ((i : Nat) : Int)))))) := by
  intro pins s σ H xs us Q I r h
  obtain ⟨p,n,rfl,hH,h0,h1,q⟩ := h
  obtain ⟨u,rfl,rx⟩ := vals1 r
  cases rx
  obtain ⟨t,u,v,e⟩ := (show bM X.prog X.w H s.heap p (.bj 0 n) from I.ay p _ hH)
  have Sn : Builtin.Range.rangeSize 0 n 1 = (n.toNat : Nat) := by rw [rangeSize_pos (by decide) h0]; omega
  refine call_list_range (n := n.toNat) (I.ok.hd hc) e (ME h0 (by omega) (by decide) (by decide)) Sn (by omega) fun h' tk HJ c' kp e' it => ?_
  refine ⟨.ref s.heap.objs.size,_,I.laid (t' := tk) (o := .lst ((List.range n.toNat).map fun i => .int (0 + ((i : Nat) : Int)))) kp (Nat.le_refl _) ?_,rfl,q _ (I.ay.fresh (Nat.le_refl _))⟩
  have hs : sizeLine = 16777216 := sizeLine_eq
  refine ⟨by rw [List.length_map,List.length_range]; omega,HJ.toList,c',?_,by rw [Array.toArray_toList]; exact e'⟩
  obtain ⟨i1,i2⟩ := it
  have gen : ∀ (l : List Value) (k : Nat),(∀ j v,l[j]? = some v -> ∃ t,v = Value.int (0 + ((k + j : Nat) : Int)) t) -> Vals ((List.range l.length).map fun i => V.int (0 + ((k + i : Nat) : Int))) l := by
    intro l
    induction l with
    | nil => intro k _; exact .nil
    | cons a l ih =>
      intro k hk
      rw [List.length_cons,List.range_succ_eq_map,List.map_cons,List.map_map]
      obtain ⟨t,ht⟩ := hk 0 a rfl
      refine .cons ⟨t,by rw [ht]⟩ ?_
      have := ih (k + 1) (fun j v hj => by
        obtain ⟨t,ht⟩ := hk (j + 1) v hj
        exact ⟨t,by rw [ht,show k + (j + 1) = k + 1 + j by omega]⟩)
      refine (List.map_congr_left fun i _ => ?_) ▸ this
      show V.int (0 + ((k + 1 + i : Nat) : Int)) = V.int (0 + ((k + (i + 1) : Nat) : Int))
      rw [show k + 1 + i = k + (i + 1) by omega]
  have g0 := gen HJ.toList 0 fun j v hj => by
    obtain ⟨t,ht⟩ := i2 j v (by rw [<- Array.getElem?_toList]; exact hj)
    refine ⟨t,?_⟩
    rw [ht,Int.mul_one,Nat.zero_add]
  rw [Array.length_toList,i1] at g0
  have e0 : ((List.range n.toNat).map fun i => V.int (0 + ((0 + i : Nat) : Int))) = (List.range n.toNat).map fun i => V.int (0 + ((i : Nat) : Int)) := List.map_congr_left fun i _ => by rw [Nat.zero_add]
  rw [e0] at g0
  exact g0
def HK (K : PySem.W.Frag) : List V -> Hp -> VK -> Prop := fun xs H Q => ∃ (p : Addr) (bs : List Bool),xs = [.ref p] /\ aN K H p (bs.map V.bl) /\ Q (.bl (bs.any id)) H
theorem range_any (bs : List Bool) : ((List.range bs.length).any fun i => (bs[i]?).getD false) = bs.any id := by
  have := congrArg (fun l : List Bool => l.any id) (oh bs false id)
  simp only [List.any_map,List.map_id] at this
  exact this
theorem N7 (hc : X.calm = true) : eG X (.builtin "any") (HK X.K) := by
  intro pins s σ H xs us Q I r h
  obtain ⟨p,bs,rfl,hq,q⟩ := h
  cases r with
  | cons r1 rr =>
    cases rr
    cases r1
    obtain ⟨its,rv,pl,hz⟩ := I.list hq
    have hb := NZ rv
    have hl : s.heap.IsList p its.toArray := pl.isList
    have aZ : p < s.heap.objs.size := by obtain ⟨_,e,_⟩ := hl; exact Heap.lt_size e
    refine call_any_walk (wpAny_pyIter_list hl ?_)
    refine ⟨s.heap.objs.size,[s.heap.objs.size,p],[s.heap.objs.size],its.toArray.size,_,_,fun i => (bs[i]?).getD false,rfl,Walks.list (A := X.A.in1) (I.ok.hd hc) _ p (Nat.ne_of_lt aZ) its.toArray,
      ⟨⟨_,Heap.get?_push_size _ rfl,rfl,rfl⟩,hl.push _⟩,fun i v s' Q' E' hP hQ => ?_,fun h' tk hk => ?_⟩
    · obtain ⟨b,e,rfl⟩ := hb.get i v (by simpa using hP)
      simp only [e,Option.getD_some] at hQ
      exact wpAny_truthy_bool hQ
    · have e : ((List.range its.toArray.size).any fun i => (bs[i]?).getD false) = bs.any id := by
        rw [List.size_toArray,hb.length]; exact range_any bs
      rw [e]
      exact ⟨.bl _,H,I.kept (t' := tk) (LSm.kept_iter hk),rfl,q⟩
def unlike (ns : List Int) : Nat := (firstMet (fun i => ns.getD i 0) ns.length).length
theorem Lq (hc : X.calm = true) : eG X (.type "set") (fun xs H Q => ∃ (p : Addr) (ns : List Int),xs = [.ref p] /\ aN X.K H p (ns.map V.int) /\ ns.length < 1000 /\ ∀ l S,H l = none -> Q (.ref l) (upd H l (.set S (unlike ns)))) := by
  intro pins s σ H xs us Q I r h
  obtain ⟨p,ns,rfl,hq,hz,q⟩ := h
  obtain ⟨u,rfl,rx⟩ := vals1 r
  cases rx
  obtain ⟨its,rv,pl,_⟩ := I.list hq
  have hi := intsAre_of rv
  have hl := rv.length
  rw [List.length_map] at hl
  refine call_set_list (ns := ns) (I.ok.hd hc) pl.isList (by simpa using hi) (by rw [List.size_toArray,<- hl]; exact Nat.lt_of_lt_of_le (Nat.succ_lt_succ hz) (by decide)) fun h' tk hs kp => ?_
  have hsz : its.toArray.size = ns.length := by rw [List.size_toArray,<- hl]
  rw [hsz] at hs
  exact ⟨.ref s.heap.objs.size,_,I.laid (t' := tk) (o := .set _ (unlike ns)) (fun b o e => kp b o (Heap.lt_size e) e) (Nat.le_refl _) hs,rfl,q _ _ (I.ay.fresh (Nat.le_refl _))⟩
theorem Lr : eG X (.builtin "len") (fun xs H Q => ∃ p S n,xs = [.ref p] /\ H p = some (.set S n) /\ Q (.int n) H) := by
  intro pins s σ H xs us Q I r h
  obtain ⟨p,S,n,rfl,hH,q⟩ := h
  obtain ⟨u,rfl,rx⟩ := vals1 r
  cases rx
  obtain ⟨o,es,ep,t,h1,h2,h3,_,_,h4,h5,h6⟩ := (show bM X.prog X.w H s.heap p (.set S n) from I.ay p _ hH)
  subst h6
  refine call_len_set h1 h2 h3 h5 (by have : es.size < 4096 := h4; omega) ⟨.int _,H,I.tok _,⟨_,rfl⟩,q⟩
theorem LU {ns : List Int} (h : ns.Nodup) : unlike ns = ns.length := by
  have gen : ∀ i,i <= ns.length -> firstMet (fun i => ns.getD i 0) i = ns.take i := by
    intro i
    induction i with
    | zero => intro _; rw [firstMet_zero]; simp
    | succ i ih =>
      intro hi
      rw [firstMet_succ,ih (by omega)]
      have hx : ns[i]? = some (ns[i]'(by omega)) := List.getElem?_eq_getElem _
      rw [gM hx]
      have e : ns.getD i 0 = ns[i]'(by omega) := by rw [List.getD_eq_getElem?_getD,hx]; rfl
      show step_dedup (ns.take i) (ns.getD i 0) = _
      rw [e]
      unfold step_dedup
      have : ((ns.take i).any (· == ns[i]'(by omega))) = false := by
        rw [Bool.eq_false_iff]
        intro z
        obtain ⟨y,hy,Yk⟩ := List.any_eq_true.mp z
        have cD : y = ns[i]'(by omega) := by simpa using Yk
        subst cD
        obtain ⟨j,hj,JB⟩ := List.mem_iff_getElem.mp hy
        rw [List.getElem_take] at JB
        rw [List.length_take] at hj
        have := (List.getElem_inj (xs := ns) h).mp JB
        omega
      rw [this]
      rfl
  unfold unlike
  rw [gen ns.length (Nat.le_refl _),List.take_length]
theorem LV : eG X (.builtin "sorted") (fun xs H Q => ∃ (p : Addr) (ns : List Int),xs = [.ref p] /\ aN X.K H p (ns.map V.int) /\ ns.length < 64 /\ ∀ (l : Addr) (ms : List Int),H l = none -> ms.Perm ns -> ms.Pairwise (· <= ·) -> Q (.ref l) (upd H l (.lst (ms.map V.int)))) := by
  intro pins s σ H xs us Q I r h
  obtain ⟨p,ns,rfl,hq,hz,q⟩ := h
  obtain ⟨u,rfl,rx⟩ := vals1 r
  cases rx
  obtain ⟨its,rv,pl,dZ⟩ := I.list hq
  have hl := rv.length
  rw [List.length_map] at hl
  refine sorted_ints pl.isList (intsAre_of rv) (by omega) fun out ms io pm pw => ?_
  obtain ⟨e,he⟩ := sortedAll_at s.heap its out
  refine ⟨.ref (s.heap.objs.size + 1),_,I.laid (t' := s.toks) (o := .lst (ms.map V.int)) (fun b o e => sortedAll_old e) (Nat.le_succ _) ?_,rfl,q _ ms (I.ay.fresh (Nat.le_succ _)) pm pw⟩
  refine ⟨by rw [List.length_map,pm.length_eq]; rw [List.length_map] at dZ; exact dZ,out.toList,e,vj io,by rw [Array.toArray_toList]; exact he⟩
end
section
variable {ι : Type} {F : bb ι} {e a b c : Expr} {es : List Expr} {ρ : En} {t ta tb' : Tr} {ts : List Tr} {pos : Pos}
theorem mJ (l : List Int) : (l.map di).map Tr.fz = l.map fun n => Tr.fz (di n) := by rw [List.map_map]; rfl
theorem Cg {n : Int} (hm : F.mg "list" = none) (qA : F.mg "range" = none) (ha : Ev F a ρ (ti n)) (h0 : 0 <= n) (h1 : n < 2 ^ 20) {p1 p2 kL : Pos} (hg : ∀ i,Gl (F.cx i) "list" := by intro _; rfl) (qB : ∀ i,Gl (F.cx i) "range" := by intro _; rfl)
    (hs : ∀ i,starEach [a] (F.cx i).env = [(false,eval a (F.cx i).env)] := by intro _; rfl) (fL : ∀ i,starEach [.Call (.Name "range" p2) [a] [] kL] (F.cx i).env = [(false,eval (.Call (.Name "range" p2) [a] [] kL) (F.cx i).env)] := by intro _; rfl) :
    Ev F (.Call (.Name "list" p1) [.Call (.Name "range" p2) [a] [] kL] [] pos) ρ (.ow (((List.range n.toNat).map fun i => (0 + ((i : Nat) : Int))).map fun n => .fz (di n))) := by
  obtain ⟨τ,p,q⟩ := ha.use
  refine ⟨_,fun i => rB (Ln (F.calm i)) (hg i) ((F.hm i).symm ▸ hm) v7 (du (Nh (qB i) ((F.hm i).symm ▸ qA) (du (p i) eZ (hs i)) (hs i)) eZ (fL i)) (by decide) (by decide) (fL i) rfl,fun σ G H Q s rr k => q σ G H _ s rr fun x G1 H1 s1 hx => ?_⟩
  refine ⟨n,by rw [aV hx],fun p0 tX => ⟨p0,n,rfl,cL,h0,h1,fun l hl => ?_⟩⟩
  have k2 := k.step (s1.trans (Step.gY (o := .bj 0 n) s1.s tX))
  have e : ((List.range n.toNat).map fun i => V.int (0 + ((i : Nat) : Int))) = ((List.range n.toNat).map fun i => (0 + ((i : Nat) : Int))).map V.int := by rw [List.map_map]; rfl
  rw [e]
  refine k2.lst (s1.s.trans (ao.new tX)) ?_ hl
  rw [<- mJ]
  exact rJ.iD
theorem Fi {bs : List Bool} (hm : F.mg "any" = none) (ha : Ev F e ρ ta) (ea : er ta = .lst (bs.map db)) {p' : Pos} (hg : ∀ i,Gl (F.cx i) "any" := by intro _; rfl)
    (hs : ∀ i,starEach [e] (F.cx i).env = [(false,eval e (F.cx i).env)] := by intro _; rfl) : Ev F (.Call (.Name "any" p') [e] [] pos) ρ (tb (bs.any id)) :=
  rL (r := HK F.K) (fun i => F.hK i ▸ N7 (F.calm i)) hm Q3 (ag ha ax hs) (fun G H vs Q s hx k => by
    obtain ⟨x,rfl,fi⟩ := ig hx
    rw [ea] at fi
    obtain ⟨l,ys,rfl,h1,h2⟩ := fi
    have := CT h2
    subst this
    exact ⟨l,bs,rfl,s.seq h1,k.sc s rfl⟩) hg (by decide) (by decide) hs (fun _ => rfl)
theorem Rl : bootBuiltins "set" = some (.type "set") := by decide +kernel
theorem Ni {ns : List Int} (hm : F.mg "len" = none) (qA : F.mg "set" = none) (ha : Ev F a ρ ta) (ea : er ta = dis ns) (hz : ns.length < 1000) {p1 p2 kL : Pos} (hg : ∀ i,Gl (F.cx i) "len" := by intro _; rfl) (qB : ∀ i,Gl (F.cx i) "set" := by intro _; rfl)
    (hs : ∀ i,starEach [a] (F.cx i).env = [(false,eval a (F.cx i).env)] := by intro _; rfl) (fL : ∀ i,starEach [.Call (.Name "set" p2) [a] [] kL] (F.cx i).env = [(false,eval (.Call (.Name "set" p2) [a] [] kL) (F.cx i).env)] := by intro _; rfl) :
    Ev F (.Call (.Name "len" p1) [.Call (.Name "set" p2) [a] [] kL] [] pos) ρ (ti (unlike ns : Nat)) := by
  obtain ⟨τ,p,q⟩ := ha.use
  refine ⟨iA _ (dw (iA (fun xs H Q => ∃ (p : Addr) (ns : List Int),xs = [.ref p] /\ aN F.K H p (ns.map V.int) /\ ns.length < 1000 /\ ∀ l S,H l = none -> Q (.ref l) (upd H l (.set S (unlike ns)))) (dw τ e9)) e9),fun i => oK Lr (hg i) ((F.hm i).symm ▸ hm) wL (du (rB (F.hK i ▸ Lq (F.calm i)) (qB i) ((F.hm i).symm ▸ qA) Rl (du (p i) eZ (hs i)) (by decide) (by decide) (hs i) rfl) eZ (fL i)) (by decide) (by decide) (fL i) rfl,fun σ G H Q s rr k => q σ G H _ s rr fun x G1 H1 s1 hx => ?_⟩
  rw [ea] at hx
  obtain ⟨l,ys,rfl,h1,h2⟩ := hx
  have := oM h2
  subst this
  refine ⟨l,ns,rfl,s1.s.seq h1,hz,fun l0 S tY => ⟨l0,S,_,rfl,cL,?_⟩⟩
  exact (k.step (s1.trans (Step.gY (o := .set S (unlike ns)) s1.s tY))).sc (s1.s.trans (ao.new tY)) rfl
def sortI (ns : List Int) : List Int := ns.mergeSort (fun a b => decide (a <= b))
theorem sortI_perm (ns : List Int) : (sortI ns).Perm ns := List.mergeSort_perm ..
theorem Ds (ns : List Int) : (sortI ns).Pairwise (· <= ·) := by
  have := List.pairwise_mergeSort (le := fun a b : Int => decide (a <= b)) (fun a b c h1 h2 => by simp only [decide_eq_true_eq] at *; omega) (fun a b => by simp only [Bool.or_eq_true,decide_eq_true_eq]; omega) ns
  exact this.imp fun h => by simpa using h
theorem Cp {a b : List Int} (p : a.Perm b) (ha : a.Pairwise (· <= ·)) (hb : b.Pairwise (· <= ·)) : a = b := List.Perm.eq_of_pairwise (fun x y _ _ h1 h2 => Int.le_antisymm h1 h2) ha hb p
theorem Nj {ns : List Int} (hm : F.mg "sorted" = none) (ha : Ev F e ρ ta) (ea : er ta = dis ns) (hz : ns.length < 64) {p' : Pos} (hg : ∀ i,Gl (F.cx i) "sorted" := by intro _; rfl)
    (hs : ∀ i,starEach [e] (F.cx i).env = [(false,eval e (F.cx i).env)] := by intro _; rfl) : Ev F (.Call (.Name "sorted" p') [e] [] pos) ρ (.ow ((sortI ns).map fun n => .fz (di n))) :=
  rL (r := fun xs H Q => ∃ (p : Addr) (ns : List Int),xs = [.ref p] /\ aN F.K H p (ns.map V.int) /\ ns.length < 64 /\ ∀ (l : Addr) (ms : List Int),H l = none -> ms.Perm ns -> ms.Pairwise (· <= ·) -> Q (.ref l) (upd H l (.lst (ms.map V.int)))) (fun i => F.hK i ▸ LV) hm CN (ag ha ax hs) (fun G H vs Q s hx k => by
    obtain ⟨x,rfl,fi⟩ := ig hx
    rw [ea] at fi
    obtain ⟨l,ys,rfl,h1,h2⟩ := fi
    have := oM h2
    subst this
    refine ⟨l,ns,rfl,s.seq h1,hz,fun l0 ms tY pm pw => ?_⟩
    have em : ms = sortI ns := Cp (pm.trans (sortI_perm ns).symm) pw (Ds ns)
    subst em
    refine k.lst s ?_ tY
    rw [<- mJ]
    exact rJ.iD) hg (by decide) (by decide) hs (fun _ => rfl)
theorem Dt {K : PySem.W.Frag} {G : Hp} : ∀ {ws : List V} {vs : List V},aP K G (ws.map .fl) vs -> vs = ws /\ ws.all dR = true
  | [],_,h => ⟨h,rfl⟩
  | _ :: _,_,⟨x,r,h1,h2,h3⟩ => by
    obtain ⟨e1,e2⟩ := Dt h3
    subst h1
    refine ⟨by rw [h2.1,e1],?_⟩
    rw [List.all_cons,e2,h2.2]
    rfl
theorem Nk {v : V} {ws : List V} {o : Expr} {to : Tr} (ho : Ev F o ρ to) (eo : er to = .lst (ws.map .fl)) (ha : Ev F e ρ (.fz (.fl v))) {apos : Pos}
    (gk : ∀ i,attributeBase o "count" (F.cx i).env (eval o (F.cx i).env) = eval o (F.cx i).env := by intro _; rfl)
    (gC : ∀ i,((backTo pos (starEach [e] (F.cx i).env)).all (fun x => !x.1) && (backToKw pos (keywordEach [] (F.cx i).env)).all (fun x => x.1.isSome) && decide (([e] : List Expr).length + ([] : List Keyword).length + (if ([] : List Keyword).isEmpty then 0 else 1) < 30)) = true := by intro _; rfl)
    (hline : (apos.endLine == pos.line) = true := by rfl) (hs : ∀ i,starEach [e] (F.cx i).env = [(false,eval e (F.cx i).env)] := by intro _; rfl) : Ev F (.Call (.Attribute o "count" apos) [e] [] pos) ρ (ti (ws.countP (fun z => eQ z v) : Nat)) :=
  GU (r := wU F.K) PySem.F.slot_list_count PySem.F.type_list_count (fun i => F.hK i ▸ Dm) ho eo (ag ha ax hs) (fun G H x vs Q s hx hv k => by
    rw [eo] at hx
    obtain ⟨l,us,rfl,h1,h2⟩ := hx
    obtain ⟨rfl,hf⟩ := Dt h2
    obtain ⟨y,rfl,hy⟩ := ig hv
    refine ⟨l,_,y,rfl,rfl,s.seq h1,by rw [hy.1]; exact hy.2,hf,?_⟩
    rw [hy.1]
    exact k.sc s rfl) gk gC hline hs (fun _ => rfl)
theorem aK.erase {K : PySem.W.Frag} {G H : Hp} : ∀ {us : List Tr} {vs : List V} {fq : List Addr} {m : Nat} {u : Tr},aK K G H us vs fq -> us[m]? = some u -> fq.Nodup -> ∃ v f fw,vs[m]? = some v /\ Ow K G H u v f /\ aK K G H (us.eraseIdx m) (vs.eraseIdx m) fw /\ fw.Nodup /\ f.Nodup /\ (∀ a ∈ fw,a ∈ fq) /\ (∀ a ∈ f,a ∈ fq) /\ ∀ a ∈ f,a ∉ fw
  | t :: us,_,_,0,u,⟨v,r,f1,f2,h1,h2,h3,h4⟩,hu,nd => by
    cases hu
    subst h1 h2
    have dG := List.nodup_append.mp nd
    exact ⟨v,f1,f2,rfl,h3,h4,dG.2.1,dG.1,fun a ha => List.mem_append_right _ ha,fun a ha => List.mem_append_left _ ha,fun a ha hb => dG.2.2 a ha a hb rfl⟩
  | t :: us,_,_,m + 1,u,⟨v,r,f1,f2,h1,h2,h3,h4⟩,hu,nd => by
    subst h1 h2
    have dG := List.nodup_append.mp nd
    obtain ⟨v',f,fw,q1,q2,q3,q4,q5,q6,q7,q8⟩ := aK.erase (m := m) h4 hu dG.2.1
    refine ⟨v',f,f1 ++ fw,q1,q2,⟨v,_,f1,fw,rfl,rfl,h3,q3⟩,List.nodup_append.mpr ⟨dG.1,q4,fun a ha b hb e => dG.2.2 a ha b (q6 b hb) e⟩,q5,fun a ha => ?_,fun a ha => List.mem_append_right _ (q7 a ha),fun a ha hb => ?_⟩
    · rcases List.mem_append.mp ha with z | z
      · exact List.mem_append_left _ z
      · exact List.mem_append_right _ (q6 a z)
    · rcases List.mem_append.mp hb with z | z
      · exact dG.2.2 a z a (q7 a ha) rfl
      · exact q8 a ha z
theorem Ls (j j2 : Nat) {x y : Str} {us ws : List Tr} {d : Dv} {n : Int} {m : Nat} {nE : Expr} {p1 p2 p3 p4 p5 p6 : Pos} (Yl : j ≠ j2) (h : ρ[j]? = some (some (.ow us))) (h2 : ρ[j2]? = some (some (.ow ws))) (hn : bL F nE ρ (ti n)) (hm : fI ws.length n = some m) (hb : -(2 ^ 62) <= n /\ n < 2 ^ 62) (hu : ws[m]? = some (.fz d)) (hz : us.length < sizeLine)
    (hN : ∀ i,(F.cx i).N[j]? = some x := by intro _; rfl) (Ym : ∀ i,(F.cx i).N[j2]? = some y := by intro _; rfl)
    (hv : ∀ i,ip (F.cx i).env.scope x := by intro _; first | exact Or.inl rfl | exact Or.inr (Or.inl rfl) | exact Or.inr (Or.inr rfl)) (Yn : ∀ i,ip (F.cx i).env.scope y := by intro _; first | exact Or.inl rfl | exact Or.inr (Or.inl rfl) | exact Or.inr (Or.inr rfl))
    (hd : (x == ("__debug__" : Str)) = false := by decide) (hc : (x == ("__classdict__" : Str)) = false := by decide) (hd2 : (y == ("__debug__" : Str)) = false := by decide) (Yo : (y == ("__classdict__" : Str)) = false := by decide)
    (gk : ∀ i,attributeBase (.Name x p1) "append" (F.cx i).env (eval (.Name x p1) (F.cx i).env) = eval (.Name x p1) (F.cx i).env := by intro _; rfl) (Rm : ∀ i,attributeBase (.Name y p4) "pop" (F.cx i).env (eval (.Name y p4) (F.cx i).env) = eval (.Name y p4) (F.cx i).env := by intro _; rfl)
    (gC : ∀ i,((backTo p3 (starEach [.Call (.Attribute (.Name y p4) "pop" p5) [nE] [] p6] (F.cx i).env)).all (fun x => !x.1) && (backToKw p3 (keywordEach [] (F.cx i).env)).all (fun x => x.1.isSome) && decide (([.Call (.Attribute (.Name y p4) "pop" p5) [nE] [] p6] : List Expr).length + ([] : List Keyword).length + (if ([] : List Keyword).isEmpty then 0 else 1) < 30)) = true := by intro _; rfl)
    (Sq : ∀ i,((backTo p6 (starEach [nE] (F.cx i).env)).all (fun x => !x.1) && (backToKw p6 (keywordEach [] (F.cx i).env)).all (fun x => x.1.isSome) && decide (([nE] : List Expr).length + ([] : List Keyword).length + (if ([] : List Keyword).isEmpty then 0 else 1) < 30)) = true := by intro _; rfl)
    (hline : (p2.endLine == p3.line) = true := by rfl) (Ro : (p5.endLine == p6.line) = true := by rfl) (hs : ∀ i,starEach [.Call (.Attribute (.Name y p4) "pop" p5) [nE] [] p6] (F.cx i).env = [(false,eval (.Call (.Attribute (.Name y p4) "pop" p5) [nE] [] p6) (F.cx i).env)] := by intro _; rfl) (fL : ∀ i,starEach [nE] (F.cx i).env = [(false,eval nE (F.cx i).env)] := by intro _; rfl)
    (jz : ∀ i,swapsWith (.Call (.Attribute (.Name x p1) "append" p2) [.Call (.Attribute (.Name y p4) "pop" p5) [nE] [] p6] [] p3) none pos.line (F.cx i).env = pure false := by intro _; rfl) :
    Rn F (.Expr (.Call (.Attribute (.Name x p1) "append" p2) [.Call (.Attribute (.Name y p4) "pop" p5) [nE] [] p6] [] p3) pos) ρ (.nx ((ρ.set j2 (some (.ow (ws.eraseIdx m)))).set j (some (.ow (us ++ [.fz d]))))) := by
  obtain ⟨zo,yn,zn⟩ := hn
  refine ⟨pD (nO F.K "list" vZ (cP j) (dw (nO F.K "list" E2 (cP j2) (dw zo e9)) e9)),fun i => rQ (F.hK i ▸ pF PySem.F.plainAttrs_list PySem.F.slot_list_append PySem.F.type_list_append rC (ko (hN i) (hv i) hd hc) (du (pF PySem.F.plainAttrs_list PySem.F.slot_list_pop PySem.F.type_list_pop NT (ko (Ym i) (Yn i) hd2 Yo) (du (yn i) eZ (fL i)) (Rm i) (Sq i) Ro (fL i) rfl) eZ (hs i)) (gk i) (gC i) hline (hs i) rfl) (jz i),fun D σ G0 H0 G H r k => ?_⟩
  obtain ⟨fp,r⟩ := r
  obtain ⟨l0,zf,zg,c1,c2,_⟩ := r.mut h (.refl r.st.s)
  obtain ⟨l2,vs2,fq2,e1,e2,_⟩ := r.mut h2 (.refl r.st.s)
  refine ⟨_,c1,.inl ⟨rfl,_,aN.of c2⟩,_,e1,.inl ⟨rfl,_,aN.of e2⟩,?_⟩
  refine zn σ G H fp _ r.st.s r.own r.g fun vn G1 H1 f1 s1 o1 w1 => ?_
  obtain ⟨l,vs,fq,d1,d2,d3,d4,d5,d6,d7⟩ := r.mut h2 s1
  rw [e1] at d1
  cases d1
  obtain ⟨v,f,fw,g1,g2,g3,g4,g5,g6,g7,g8⟩ := d4.erase hu d5
  obtain ⟨rfl,qK⟩ := g2
  obtain ⟨Yp,ix2,ix3,ix4⟩ := rR hm
  refine ⟨l2,vs,n,m,v,rfl,by rw [aV o1.2],d3,by omega,by omega,by rw [<- d4.length]; exact Yp,g1,?_⟩
  have r2 := d7 (ws.eraseIdx m) (vs.eraseIdx m) fw g3 g4 fun a ha => .inl (g6 a ha)
  obtain ⟨fp2,r2⟩ := r2
  have nV : (ρ.set j2 (some (.ow (ws.eraseIdx m))))[j]? = some (some (.ow us)) := by rw [List.getElem?_set_ne (Ne.symm Yl)]; exact h
  obtain ⟨l3,JC,Yq,b1,b2,b3,b4,b5,b6,b7⟩ := r2.mut nV (.refl r2.st.s)
  rw [c1] at b1
  cases b1
  refine ⟨l0,JC,v,rfl,rfl,b2,by rw [<- b4.length]; exact hz,k σ G1 _ ?_⟩
  exact b7 (us ++ [.fz d]) (JC ++ [v]) (Yq ++ ([] ++ [])) (b4.append (us := [.fz d]) ⟨v,[],[],[],rfl,rfl,⟨rfl,qK⟩,rfl,rfl⟩) (by simpa using b5) fun a ha => .inl (by simpa using ha)
end
end L2
namespace L2
open PySem PySem.Spec PyProof.Rows
theorem wj {xs : List Dv} {k : Nat} {d : Dv} (h : (jm xs)[k]? = some d) : ∃ x,xs[k]? = some x /\ d = .tup [di (k : Nat),x] := by
  unfold jm at h
  rw [List.getElem?_zipWith] at h
  cases hx : xs[k]? with
  | none =>
    rw [hx] at h
    cases q2 : (List.range xs.length)[k]? with
    | none => rw [q2] at h; cases h
    | some z => rw [q2] at h; cases h
  | some x =>
    have lj : k < xs.length := (List.getElem?_eq_some_iff.mp hx).1
    rw [hx,List.getElem?_range lj] at h
    cases h
    exact ⟨x,rfl,rfl⟩
theorem Eg (xs : List Dv) : (jm xs).length = xs.length := by unfold jm; rw [List.length_zipWith,List.length_range,Nat.min_self]
theorem mY {α : Type} (l : List α) (f : α -> Int) : er (.ow (l.map fun k => Tr.fz (di (f k)))) = dis (l.map f) := by
  show Dv.lst _ = Dv.lst _
  rw [ja,List.map_map,List.map_map]; rfl
theorem N8 (ws : List V) : er (.ow (ws.map fun v => Tr.fz (.fl v))) = .lst (ws.map .fl) := by
  show Dv.lst _ = Dv.lst _
  rw [ja,List.map_map]; rfl
abbrev bB (l : List Int) : Tr := .ow (l.map fun n => .fz (di n))
abbrev ni (L : List (List Int)) : Tr := .ow (L.map bB)
theorem eY (l : List Int) : er (bB l) = dis l := by
  show Dv.lst _ = _
  rw [ja,List.map_map]; rfl
theorem Du (L : List (List Int)) : er (ni L) = .lst (L.map dis) := by
  show Dv.lst _ = _
  rw [ja,List.map_map]
  congr 1
  exact List.map_congr_left fun l _ => eY l
def bT (c : List Int) (os : List (List Int)) : Dv := .tup [dis c,.lst (os.map dis)]
def gq (n : Nat) (o : List Int) : List Int := ((List.range n).filter fun k => !o.contains (0 + ((k : Nat) : Int))).map fun k => 0 + ((k : Nat) : Int)
def aA (n : Nat) (o : List Int) : List Int := o ++ [(n : Int)] ++ gq n o
theorem rD (n : Nat) (o : List Int) : (gq n o).length <= n := by
  unfold gq
  rw [List.length_map]
  have := List.length_filter_le (fun k => !o.contains (0 + ((k : Nat) : Int))) (List.range n)
  rwa [List.length_range] at this
theorem N9 {α : Type} {l : List α} {k : Nat} {x : α} (h : l[k]? = some x) : aY l ((k : Nat) : Int) = some x := gg h
structure cN (c : List Int) (os : List (List Int)) : Prop where
  c6 : c.length <= 6
  cnt : ∀ x ∈ c,0 <= x /\ x <= 9
  o1 : 1 <= os.length
  o6 : os.length <= 6
  nd : ∀ o ∈ os,o.Nodup
  bj : ∀ o ∈ os,∀ x ∈ o,0 <= x /\ x < c.length
theorem vo {n : Nat} {l : List Int} (nd : l.Nodup) (h : ∀ x ∈ l,0 <= x /\ x < n) : l.length <= n := by
  have sub : l ⊆ (List.range n).map fun k => ((k : Nat) : Int) := fun x hx => by
    obtain ⟨h0,h1⟩ := h x hx
    exact List.mem_map.mpr ⟨x.toNat,List.mem_range.mpr (by omega),by omega⟩
  have := nd.length_le_of_subset sub
  simpa using this
theorem cN.fQ {c : List Int} {os : List (List Int)} (h : cN c os) {o : List Int} (ho : o ∈ os) : o.length <= 6 := Nat.le_trans (vo (h.nd o ho) (h.bj o ho)) h.c6
end L2
namespace L2
open PySem PySem.Spec PyProof.Rows
theorem bz.to {ι : Type} {F : bb ι} {tg iter : Expr} {ρ : En} {a b : List Dv} (h : bz F tg iter ρ a) (e : a = b) : bz F tg iter ρ b := e ▸ h
theorem CB {α : Type} : ∀ {l : List α} {m : Nat} (h : m < l.length),(l[m] :: l.eraseIdx m).Perm l
  | x :: l,0,_ => .refl _
  | x :: l,m + 1,h => by
    have h' : m < l.length := by simpa using h
    show (l[m] :: x :: l.eraseIdx m).Perm (x :: l)
    exact (List.Perm.swap ..).trans ((CB h').cons x)
theorem CV {α β : Type} (f : α -> β) : ∀ (l : List α) (m : Nat),(l.map f).eraseIdx m = (l.eraseIdx m).map f
  | [],_ => rfl
  | _ :: _,0 => rfl
  | x :: l,m + 1 => by
    show f x :: (l.map f).eraseIdx m = f x :: (l.eraseIdx m).map f
    rw [CV f l m]
end L2
namespace L2
open PySem PySem.Spec PyProof.Rows
section
variable {ι : Type} {F : bb ι} {e a b c : Expr} {es : List Expr} {ρ : En} {t ta tb' : Tr} {ts : List Tr} {pos : Pos}
theorem vK {α β : Type} (q : α -> Bool) (h : α -> β) (d : β) : ∀ l : List α,((List.range l.length).filter fun k => ((l[k]?).map q).getD false).map (fun k => ((l[k]?).map h).getD d) = (l.filter q).map h
  | [] => rfl
  | a :: l => by
    have ih := vK q h d l
    rw [List.length_cons,List.range_succ_eq_map,List.filter_cons,List.filter_cons,List.filter_map]
    show List.map _ (if q a = true then _ else _) = _
    cases q a with
    | true =>
      show h a :: ((_ : List Nat).map Nat.succ).map _ = h a :: _
      rw [List.map_map,<- ih]; rfl
    | false =>
      show ((_ : List Nat).map Nat.succ).map _ = _
      rw [List.map_map]; exact ih
variable {js : List Nat} {sp : Dv -> Option (List Dv)} {elt tg iter : Expr}
theorem yu {α : Type} (l : List α) (g : α -> Dv) (q : α -> Bool) (h : α -> Tr) {ifs : List Expr} {sc : Scope} {own : List Str} {fr : List Nat} {cl : ι -> List (Str × Addr)} (hi : bz F tg iter ρ (l.map g)) (hg : iE (cq F own fr sc cl) tg js sp) (iF : ∀ j ∈ js,j < own.length) (hz : l.length < sizeLine)
    (step : ∀ a ∈ l,∃ dd,sp (g a) = some dd /\ El (cq F own fr sc cl) ifs (bF js (dd.map .fz) (cg own fr ρ)) (q a) /\ (q a = true -> Ev (cq F own fr sc cl) elt (bF js (dd.map .fz) (cg own fr ρ)) (h a)))
    (gT : ∀ dd : List Dv,gh js (bF js (dd.map .fz) (cg own fr ρ)) = cg own fr ρ) : dH F own fr sc cl elt tg iter ifs ρ (.ow ((l.filter q).map h)) := by
  have := qE (ifs := ifs) hi hg iF (fun k => ((l[k]?).map q).getD false) (fun k => ((l[k]?).map h).getD tn) (by rw [List.length_map]; exact hz) (fun k d hd => by
    obtain ⟨a,ha,rfl⟩ := fO hd
    obtain ⟨dd,s1,s2,s3⟩ := step a (List.mem_of_getElem? ha)
    refine ⟨dd,s1,?_,?_⟩
    · show El _ _ _ (((l[k]?).map q).getD false)
      rw [ha]; exact s2
    · show ((l[k]?).map q).getD false = true -> Ev _ _ _ (((l[k]?).map h).getD tn)
      rw [ha]; exact s3) gT
  rw [List.length_map,vK] at this
  exact this
theorem yv {α : Type} (l : List α) (g : α -> Dv) (h : α -> Tr) {sc : Scope} {own : List Str} {fr : List Nat} {cl : ι -> List (Str × Addr)} (hi : bz F tg iter ρ (l.map g)) (hg : iE (cq F own fr sc cl) tg js sp) (iF : ∀ j ∈ js,j < own.length) (hz : l.length < sizeLine)
    (step : ∀ a ∈ l,∃ dd,sp (g a) = some dd /\ Ev (cq F own fr sc cl) elt (bF js (dd.map .fz) (cg own fr ρ)) (h a))
    (gT : ∀ dd : List Dv,gh js (bF js (dd.map .fz) (cg own fr ρ)) = cg own fr ρ) : dH F own fr sc cl elt tg iter [] ρ (.ow (l.map h)) := by
  have := yu l g (fun _ => true) h hi hg iF hz (fun a ha => let ⟨dd,s1,s2⟩ := step a ha; ⟨dd,s1,pd,fun _ => s2⟩) gT
  rwa [List.filter_eq_self.mpr fun _ _ => rfl] at this
theorem ph {α : Type} (l : List α) (g : α -> Dv) (q : α -> Bool) (h : α -> Tr) {ifs : List Expr} {sc : Scope} {own : List Str} {fr : List Nat} {cl : ι -> List (Str × Addr)} (L : ∀ i,hG (F.cx i) sc (cl i) fr) (hi : bz F tg iter ρ (l.map g)) (hg : iE (cq F own fr sc cl) tg js sp) (iF : ∀ j ∈ js,j < own.length) (hz : l.length < sizeLine)
    (step : ∀ a ∈ l,∃ dd,sp (g a) = some dd /\ El (cq F own fr sc cl) ifs (bF js (dd.map .fz) (cg own fr ρ)) (q a) /\ (q a = true -> Ev (cq F own fr sc cl) elt (bF js (dd.map .fz) (cg own fr ρ)) (h a)))
    (gT : ∀ dd : List Dv,gh js (bF js (dd.map .fz) (cg own fr ρ)) = cg own fr ρ) (hs : ∀ i x,foldedSetIterable iter (F.cx i).env x = pure x := by intro _ _; rfl) : Ev F (.ListComp elt [⟨tg,iter,ifs,0⟩] sc pos) ρ (.ow ((l.filter q).map h)) := by
  have := nh (ifs := ifs) (pos := pos) L hi hg iF (fun k => ((l[k]?).map q).getD false) (fun k => ((l[k]?).map h).getD tn) (by rw [List.length_map]; exact hz) (fun k d hd => by
    obtain ⟨a,ha,rfl⟩ := fO hd
    obtain ⟨dd,s1,s2,s3⟩ := step a (List.mem_of_getElem? ha)
    refine ⟨dd,s1,?_,?_⟩
    · show El _ _ _ (((l[k]?).map q).getD false)
      rw [ha]; exact s2
    · show ((l[k]?).map q).getD false = true -> Ev _ _ _ (((l[k]?).map h).getD tn)
      rw [ha]; exact s3) gT hs
  rw [List.length_map,vK] at this
  exact this
theorem jd {α : Type} (l : List α) (g : α -> Dv) (h : α -> Tr) {sc : Scope} {own : List Str} {fr : List Nat} {cl : ι -> List (Str × Addr)} (L : ∀ i,hG (F.cx i) sc (cl i) fr) (hi : bz F tg iter ρ (l.map g)) (hg : iE (cq F own fr sc cl) tg js sp) (iF : ∀ j ∈ js,j < own.length) (hz : l.length < sizeLine)
    (step : ∀ a ∈ l,∃ dd,sp (g a) = some dd /\ Ev (cq F own fr sc cl) elt (bF js (dd.map .fz) (cg own fr ρ)) (h a))
    (gT : ∀ dd : List Dv,gh js (bF js (dd.map .fz) (cg own fr ρ)) = cg own fr ρ) (hs : ∀ i x,foldedSetIterable iter (F.cx i).env x = pure x := by intro _ _; rfl) : Ev F (.ListComp elt [⟨tg,iter,[],0⟩] sc pos) ρ (.ow (l.map h)) := by
  have := ph (pos := pos) l g (fun _ => true) h L hi hg iF hz (fun a ha => let ⟨dd,s1,s2⟩ := step a ha; ⟨dd,s1,pd,fun _ => s2⟩) gT hs
  rwa [List.filter_eq_self.mpr fun _ _ => rfl] at this
theorem eW {α : Type} (l : List α) (h : α -> Tr) : er (.ow (l.map h)) = .lst (l.map fun a => er (h a)) := by
  show Dv.lst (dW _) = _
  rw [ja,List.map_map]; rfl
end
end L2
namespace L2
open PySem PySem.Spec PyProof.Rows dY
section
variable {ι : Type} {F : bb ι} {e a b c : Expr} {es : List Expr} {ρ : En} {t ta tb' : Tr} {ts : List Tr} {pos : Pos}
theorem ke {k : Nat} {f : Addr} {fd : FuncData} {ps : List Str} {R : List Dv -> Tr -> Prop} {x : Str} {n : Int} {tk : Tok} (Fn : Kn F.P F.w F.K F.mg F.base au k x f fd ps (spT F.K R)) (B : Binds F.K fd ps [.int n tk]) (hk : k <= F.room) (ha : gH F (e :: es) ρ ts) (hR : R (dW ts ++ [di n]) t) {p' : Pos} (hg : ∀ i,Gl (F.cx i) x := by intro _; rfl) (fH : (x == ("__debug__" : Str)) = false := by decide)
    (he : ∀ i,starEach (e :: es) (F.cx i).env = (false,eval e (F.cx i).env) :: starEach es (F.cx i).env := by intro _; rfl) (fh : ∀ i,(backTo pos (starEach es (F.cx i).env)).any (·.1) = false := by intro _; rfl) : Ev F (.Call (.Name x p') (e :: es) [] pos) ρ t := by
  obtain ⟨τ,y,z⟩ := ha.use
  refine ⟨ng (spT F.K R) [.int n] E0 τ,fun i => ?_,fun σ G H Q s rr k => z σ G H _ s rr fun vs G1 H1 s1 hx => ?_⟩
  · have qC : Kn (F.cx i).prog (F.cx i).w (F.cx i).K (F.cx i).mg (F.cx i).base au k x f fd ps (spT F.K R) := by
      rw [F.hP i,F.hw i,F.hK i,F.hm i,F.hb i]
      exact Fn
    exact D6 qC.ok ((F.hr i).mono hk) (hg i) qC.Jn qC.kp (by rw [F.hK i]; exact B) (.cons ⟨tk,rfl⟩ .nil) GD (y i) fH (he i) (fh i)
  · show spT F.K R (vs ++ [.int n]) H1 Q E0
    have app : ∀ {ds : List Dv} {vs : List V},aP F.K G1 ds vs -> aP F.K G1 (ds ++ [di n]) (vs ++ [.int n]) := by
      intro ds
      induction ds with
      | nil => intro vs h; have h' : vs = [] := h; subst h'; exact ⟨_,_,rfl,⟨rfl,rfl⟩,rfl⟩
      | cons d ds ih => intro vs ⟨x,r,h1,h2,h3⟩; subst h1; exact ⟨x,_,rfl,h2,ih h3⟩
    exact ⟨G1,_,t,s1.s,app hx,hR,k.step s1⟩
theorem Eh {q : Bool} (hm : F.mg "int" = none) (ha : Ev F e ρ (tb q)) {p' : Pos} (hg : ∀ i,Gl (F.cx i) "int" := by intro _; rfl)
    (hs : ∀ i,starEach [e] (F.cx i).env = [(false,eval e (F.cx i).env)] := by intro _; rfl) : Ev F (.Call (.Name "int" p') [e] [] pos) ρ (ti (if q then 1 else 0)) :=
  vG (r := fun xs H Q => (∃ i,xs = [.int i] /\ Q (.int i) H) \/ ∃ k,xs = [.bl k] /\ Q (.int (if k then 1 else 0)) H) (fun i => M3) hm E6 (ag ha ax hs) (fun G H vs Q s hx k => by
    obtain ⟨x,rfl,fi⟩ := ig hx
    exact .inr ⟨q,by rw [aV fi],k.sc s rfl⟩) hg (by decide) (by decide) hs (fun _ => rfl)
end
abbrev dF (p : Int × Int) : Dv := .tup [di p.1,di p.2]
abbrev tF (p : Int × Int) : Tr := .fz (dF p)
def fW (W s : Int) : Int × Int := (lT s W,lB s W)
theorem gi {W s : Int} (h : 0 < W) : 0 < (fW W s).2 := by have := sN (t := s) (show W ≠ 0 by omega); show 0 < lB s W; omega
theorem xD {W s : Int} (h : 0 < W) : (fW W s).2 <= W := by have := Sl (t := s) (show W ≠ 0 by omega); show lB s W <= W; omega
theorem Fj {W s : Int} (h : 0 < W) : (fW W s).1.natAbs <= s.natAbs := Rj (show W ≠ 0 by omega)
theorem gN {W s : Int} (h : 0 < W) : (fW W s).1 * W = s * (fW W s).2 := we (show W ≠ 0 by omega)
theorem Nm {W s : Int} (h : 0 < W) (hs : 0 <= s) : 0 <= (fW W s).1 := by
  have c := gN (s := s) h
  have p := gi (s := s) h
  rcases Int.lt_or_le (fW W s).1 0 with z | z
  · have : (fW W s).1 * W < 0 := Int.mul_neg_of_neg_of_pos z h
    have : 0 <= s * (fW W s).2 := Int.mul_nonneg hs (by omega)
    omega
  · exact z
theorem oV {W s t b : Int} (h : 0 < W) (hb : b ≠ 0) (e : t * W = s * b) : (lT t b,lB t b) = fW W s := by
  obtain ⟨h1,h2⟩ := Tb hb (show W ≠ 0 by omega) e
  show _ = (_,_)
  rw [h1,h2]
theorem Py {W s t : Int} (h : 0 < W) : (lT ((fW W s).1 * (fW W t).2 + (fW W t).1 * (fW W s).2) ((fW W s).2 * (fW W t).2),lB ((fW W s).1 * (fW W t).2 + (fW W t).1 * (fW W s).2) ((fW W s).2 * (fW W t).2)) = fW W (s + t) := by
  have p1 := gi (s := s) h
  have p2 := gi (s := t) h
  have c1 := gN (s := s) h
  have c2 := gN (s := t) h
  generalize (fW W s).1 = a at *
  generalize (fW W s).2 = b at *
  generalize (fW W t).1 = c at *
  generalize (fW W t).2 = d at *
  refine oV h (by have := Int.mul_pos p1 p2; omega) ?_
  have e1 : (a * d + c * b) * W = (a * W) * d + (c * W) * b := by
    rw [Int.add_mul,Int.mul_right_comm a d W,Int.mul_right_comm c b W]
  rw [e1,c1,c2,Int.add_mul,Int.mul_assoc s b d,Int.mul_assoc t d b,Int.mul_comm d b]
theorem Rp {W s t : Int} (h : 0 < W) (e : fW W s = fW W t) : s = t := by
  have c1 := gN (s := s) h
  have c2 := gN (s := t) h
  rw [e] at c1
  have p := gi (s := t) h
  have : s * (fW W t).2 = t * (fW W t).2 := by rw [<- c1,<- c2]
  exact Int.eq_of_mul_eq_mul_right (by omega) this
theorem Pz {W : Int} (h : 0 < W) : fW W W = (1,1) := by
  have := rM (t := W) (b := W) (p := 1) (q := 1) (by omega) (by decide) (by decide) (by rw [Int.one_mul,Int.mul_one])
  show (_,_) = _
  rw [<- this.1,<- this.2]
theorem Ei {W : Int} (h : 0 < W) : fW W 0 = (0,1) := by
  have := rM (t := 0) (b := W) (p := 0) (q := 1) (by omega) (by decide) (by decide) (by rw [Int.zero_mul,Int.zero_mul])
  show (_,_) = _
  rw [<- this.1,<- this.2]
theorem Sr {W s t : Int} (h : 0 < W) : (fW W s).1 * (fW W t).2 < (fW W t).1 * (fW W s).2 ↔ s < t := by
  have p1 := gi (s := s) h
  have p2 := gi (s := t) h
  have c1 := gN (s := s) h
  have c2 := gN (s := t) h
  generalize (fW W s).1 = a at *
  generalize (fW W s).2 = b at *
  generalize (fW W t).1 = c at *
  generalize (fW W t).2 = d at *
  have bd : 0 < b * d := Int.mul_pos p1 p2
  have e1 : a * d * W = s * (b * d) := by rw [Int.mul_right_comm,c1,Int.mul_assoc]
  have e2 : c * b * W = t * (b * d) := by rw [Int.mul_right_comm,c2,Int.mul_assoc,Int.mul_comm d b]
  constructor
  · intro z
    have := Int.mul_lt_mul_of_pos_right z h
    rw [e1,e2] at this
    exact Int.lt_of_mul_lt_mul_right this (by omega)
  · intro z
    have := Int.mul_lt_mul_of_pos_right z bd
    rw [<- e1,<- e2] at this
    exact Int.lt_of_mul_lt_mul_right this (by omega)
end L2
namespace L2
open PySem PySem.Spec PyProof.Rows
section
variable {ι : Type} {F : bb ι} {e a b c : Expr} {es : List Expr} {ρ : En} {t ta tb' : Tr} {ts : List Tr} {pos : Pos}
theorem Rn.to {st : Stmt} {ρ1 qJ : En} (h : Rn F st ρ (.nx ρ1)) (e : ρ1 = qJ) : Rn F st ρ (.nx qJ) := e ▸ h
end
end L2
namespace L2
open PySem PySem.Spec PyProof.Rows
theorem RS.cX {K : PySem.W.Frag} {G0 H0 G H : Hp} {ρ : En} {σ : St} {j : Nat} {t : Tr} (r : RS K G0 H0 G H ρ σ) (h : ρ[j]? = some (some t)) : ∃ G1,RS K G0 H0 G1 H (ρ.set j (some (.fz (er t)))) σ := by
  obtain ⟨fp,r⟩ := r
  obtain ⟨v,f,fr,q1,q2,q3,q4⟩ := r.own.split h
  have nd := q4.nodup_iff.mp r.d
  have inf : ∀ a ∈ f,a ∈ fp := fun a ha => q4.mem_iff.mpr (List.mem_append_left _ ha)
  have inr : ∀ a ∈ fr,a ∈ fp := fun a ha => q4.mem_iff.mpr (List.mem_append_right _ ha)
  have w : Nw H0 G f := ⟨fun a ha => r.n a (inf a ha),fun a ha => r.g a (inf a ha),(List.nodup_append.mp nd).1⟩
  have hv : Hv K (eK G H f) (er t) v := q2.hv (i7 w.g) fun a ha => jJ ha
  have Tc : aS K (eK G H f) H (ρ.set j none) σ fr := q3.mono (i7 w.g) (ao.refl H)
  have hj : j < ρ.length := by
    rcases Nat.lt_or_ge j ρ.length with z | z
    · exact z
    · rw [List.getElem?_eq_none z] at h; cases h
  obtain ⟨gI,p1,p2⟩ := Tc.put (rj hj) (t := .fz (er t)) (v := v) (f := []) ⟨rfl,hv⟩
  rw [List.set_set] at p1
  have es : σ.set j (some v) = σ := by
    refine List.ext_getElem? fun i => ?_
    rw [List.getElem?_set]
    split
    · rename_i e
      subst e
      split
      · exact q1.symm
      · rename_i z; rw [List.getElem?_eq_none (by omega)] at q1; cases q1
    · rfl
  rw [es] at p1
  have zp : ∀ a ∈ gI,a ∈ fr := fun a ha => by simpa using p2.mem_iff.mp ha
  refine ⟨eK G H f,gI,r.st.cX w,p1,fun a ha => ?_,fun a ha => r.n a (inr a (zp a ha)),p2.nodup_iff.mpr (by simpa using (List.nodup_append.mp nd).2.1)⟩
  have hn : a ∉ f := fun z => (List.nodup_append.mp nd).2.2 a z a (zp a ha) rfl
  rw [mF hn]
  exact r.g a (inr a (zp a ha))
section
variable {ι : Type} {F : bb ι} {cu : List Stmt} {ρ : En} {o : Out} {t : Tr}
theorem PB (j : Nat) (h : ρ[j]? = some (some t)) (hr : bp F cu (ρ.set j (some (.fz (er t)))) o) : bp F cu ρ o := by
  obtain ⟨τ,x,y⟩ := hr
  exact ⟨τ,x,fun D σ G0 H0 G H r k => by
    obtain ⟨G1,r1⟩ := r.cX h
    exact y D σ G0 H0 G1 H r1 k⟩
end
theorem GV {X : Cx} {jk : List Str} {jy : List Nat} {bP : Scope} {j4 : List (Str × Addr)} {C : Addr} {s : Shared} {H : Hp} {ex : List Addr} {pn : List (Addr × Obj)} {sc : Scope} {fr : List Nat} (N2 : List Str)
    (L : De N2 bP sc fr) (za : ∀ y,(y,NameKind.free) ∈ bP.names -> ∃ c,j4.lookup y = some c) (eN : (jk ++ jy.map fun j => X.N.getD j "") = N2 := by rfl) :
    hG (cB X jk jy bP j4 C s H ex pn) sc (eI (cellsFrom (C + 1) bP.names j4) sc.names []) fr := by
  subst eN
  exact S5 L za
end L2
namespace L2
open PySem PySem.Spec PyProof.Rows
section
variable {κ : Type} [DecidableEq κ]
def fe (ah : List (κ × V)) (k : κ) : Option V := (ah.find? fun kv => decide (kv.1 = k)).map (·.2)
def putK (ah : List (κ × V)) (k : κ) (v : V) : List (κ × V) :=
  if (ah.any fun kv => decide (kv.1 = k)) = true then ah.map (fun kv => if kv.1 = k then (kv.1,v) else kv) else ah ++ [(k,v)]
theorem vL {p : κ × V} {r : List (κ × V)} {k : κ} (e : p.1 = k) : fe (p :: r) k = some p.2 := by simp [fe,List.find?_cons,e]
theorem vM {p : κ × V} {r : List (κ × V)} {k : κ} (e : ¬ p.1 = k) : fe (p :: r) k = fe r k := by simp [fe,List.find?_cons,e]
theorem Dw (k : κ) : ∀ ah : List (κ × V),(ah.any fun kv => decide (kv.1 = k)) = (fe ah k).isSome
  | [] => rfl
  | p :: r => by
    rw [List.any_cons]
    by_cases e : p.1 = k
    · simp only [vL e,decide_eq_true e,Bool.true_or,Option.isSome_some]
    · rw [vM e,decide_eq_false e,Bool.false_or]; exact Dw k r
theorem Cq (ah : List (κ × V)) (k : κ) (v : V) : (putK ah k v).length <= ah.length + 1 := by
  unfold putK
  split
  · rw [List.length_map]; omega
  · rw [List.length_append,List.length_cons,List.length_nil]; omega
theorem gx.Nn {o : Option V} {u : Option Value} (r : gx o u) : o.isSome = u.isSome := by
  cases o with
  | none => cases u with
    | none => rfl
    | some _ => exact (show False from r).elim
  | some _ => cases u with
    | none => exact (show False from r).elim
    | some _ => rfl
theorem gx.getD {o : Option V} {u : Option Value} {d : V} {d' : Value} (r : gx o u) (rd : RelV d d') : RelV (o.getD d) (u.getD d') := by
  cases o with
  | none => cases u with
    | none => exact rd
    | some _ => exact (show False from r).elim
  | some _ => cases u with
    | none => exact (show False from r).elim
    | some _ => exact r
theorem KV.val {ah : List (κ × V)} {vs : List (κ × Value)} (r : KV ah vs) (k : κ) : gx (fe ah k) (valueAt vs k) := by
  unfold KV at r
  induction r with
  | nil => exact True.intro
  | @cons p q ps qs h t ih =>
    obtain ⟨h1,h2⟩ := h
    by_cases e : p.1 = k
    · have e' : q.1 = k := h1.symm.trans e
      have b : valueAt (q :: qs) k = some q.2 := by simp [valueAt,List.find?_cons,e']
      rw [vL e,b]; exact h2
    · have e' : ¬ q.1 = k := fun z => e (h1.trans z)
      have b : valueAt (q :: qs) k = valueAt qs k := by simp [valueAt,List.find?_cons,e']
      rw [vM e,b]; exact ih
theorem KV.any {ah : List (κ × V)} {vs : List (κ × Value)} (r : KV ah vs) (k : κ) : (ah.any fun kv => decide (kv.1 = k)) = vs.any fun kv => decide (kv.1 = k) := by
  unfold KV at r
  induction r with
  | nil => rfl
  | cons h t ih => rw [List.any_cons,List.any_cons,ih,h.1]
theorem KV.repl {ah : List (κ × V)} {vs : List (κ × Value)} (r : KV ah vs) (k : κ) {y : V} {u : Value} (ry : RelV y u) :
    KV (ah.map fun kv => if kv.1 = k then (kv.1,y) else kv) (vs.map fun kv => if kv.1 = k then (kv.1,u) else kv) := by
  unfold KV at r ⊢
  induction r with
  | nil => exact .nil
  | @cons p q ps qs h t ih =>
    rw [List.map_cons,List.map_cons]
    refine .cons ?_ ih
    obtain ⟨h1,h2⟩ := h
    by_cases e : p.1 = k
    · rw [if_pos e,if_pos (h1.symm.trans e)]; exact ⟨h1,ry⟩
    · rw [if_neg e,if_neg (fun z => e (h1.trans z))]; exact ⟨h1,h2⟩
theorem KV.put {ah : List (κ × V)} {vs : List (κ × Value)} (r : KV ah vs) (k : κ) {y : V} {u : Value} (ry : RelV y u) : KV (putK ah k y) (stored vs k u) := by
  unfold putK stored
  rw [r.any k]
  by_cases e : (vs.any fun kv => decide (kv.1 = k)) = true
  · rw [if_pos e,if_pos e]; exact r.repl k ry
  · rw [if_neg e,if_neg e]; exact Paired.snoc r ⟨rfl,ry⟩
theorem KV.length {ah : List (κ × V)} {vs : List (κ × Value)} (r : KV ah vs) : ah.length = vs.length := Paired.length r
end
theorem sO {P : Program} {w : World} {k : Key} {u : Value} (r : RelV (kV k) u) : (ft P w).is k u = true := by
  cases k with
  | inl i => obtain ⟨t,e⟩ := (show ∃ t,u = Value.int i t from r); subst e; exact Mb P w i t
  | inr x => obtain ⟨t,e⟩ := (show ∃ t,u = Value.str x t from r); subst e; exact Md P w x t
theorem CW {P : Program} {w : World} : ∀ {ks : List Key} {us : List Value},Vals (ks.map kV) us -> ItemsAre (ft P w) ks us
  | [],_,r => by rw [List.map_nil] at r; cases r; exact .nil
  | k :: ks,_,r => by
    rw [List.map_cons] at r
    cases r with
    | cons h t => exact .cons (sO h) (CW t)
abbrev KT (H : Hp) : List (List Key × V) -> List (List Key × Addr × Value) -> Prop := Paired fun p q => p.1 = q.1 /\ H q.2.1 = some (.tup (p.1.map kV)) /\ RelV p.2 q.2.2
theorem KT.val {H : Hp} {ah : List (List Key × V)} {xs : List (List Key × Addr × Value)} (r : KT H ah xs) (k : List Key) : gx (fe ah k) ((atKey xs k).map (·.2)) := by
  induction r with
  | nil => exact True.intro
  | @cons p q ps qs h t ih =>
    obtain ⟨h1,_,h2⟩ := h
    by_cases e : p.1 = k
    · have e' : q.1 = k := h1.symm.trans e
      have b : atKey (q :: qs) k = some q.2 := by simp [atKey,List.find?_cons,e']
      rw [vL e,b]; exact h2
    · have e' : ¬ q.1 = k := fun z => e (h1.trans z)
      have b : atKey (q :: qs) k = atKey qs k := by simp [atKey,List.find?_cons,e']
      rw [vM e,b]; exact ih
theorem KT.repl {H : Hp} {ah : List (List Key × V)} {xs : List (List Key × Addr × Value)} (r : KT H ah xs) (k : List Key) {y : V} {u : Value} (ry : RelV y u) :
    KT H (ah.map fun kv => if kv.1 = k then (kv.1,y) else kv) (xs.map (putAt k u)) := by
  induction r with
  | nil => exact .nil
  | @cons p q ps qs h t ih =>
    rw [List.map_cons,List.map_cons]
    refine .cons ?_ ih
    obtain ⟨h1,h2,h3⟩ := h
    unfold putAt
    by_cases e : p.1 = k
    · rw [if_pos e,if_pos (h1.symm.trans e)]; exact ⟨h1,h2,ry⟩
    · rw [if_neg e,if_neg (fun z => e (h1.trans z))]; exact ⟨h1,h2,h3⟩
theorem KT.put {H : Hp} {ah : List (List Key × V)} {xs : List (List Key × Addr × Value)} (r : KT H ah xs) (k : List Key) {b : Addr} {y : V} {u : Value} (hb : H b = some (.tup (k.map kV))) (ry : RelV y u) :
    KT H (putK ah k y) (storedH xs k b u) := by
  have e : (ah.any fun kv => decide (kv.1 = k)) = (atKey xs k).isSome := by
    rw [Dw,(r.val k).Nn,Option.isSome_map]
  unfold putK storedH
  rw [e]
  by_cases q : (atKey xs k).isSome = true
  · rw [if_pos q,if_pos q]; exact r.repl k ry
  · rw [if_neg q,if_neg q]; exact Paired.snoc r ⟨rfl,hb,ry⟩
theorem KT.keeps {H H' : Hp} {ah : List (List Key × V)} {xs : List (List Key × Addr × Value)} (r : KT H ah xs) (ht : ∀ b ys,H b = some (.tup ys) -> H' b = some (.tup ys)) : KT H' ah xs :=
  Paired.xY r fun _ _ z => ⟨z.1,ht _ _ z.2.1,z.2.2⟩
section
variable {P : Program} {w : World} {H : Hp} {h : Heap} {a : Addr}
theorem GW {u : HO} (ok : bO P w H h) (e : Rd H a u) : bM P w H h a u := e.ok ok
theorem pJ {ah : List (Key × V)} (ok : bO P w H h) (e : Rd H a (.dK ah)) : ah.length <= sizeLine /\ (a == sysModules) = false /\ ∃ vs,KV ah vs /\ h.DictOf (ft P w) a vs :=
  show bM P w H h a (.dK ah) from GW ok e
theorem Ss {ah : List (Key × V)} (ok : bO P w H h) (e : H a = some (.dK ah)) : ah.length <= sizeLine /\ (a == sysModules) = false /\ ∃ vs,KV ah vs /\ h.DictOf (ft P w) a vs := pJ ok (.inl e)
theorem ku {ks : List Key} (ok : bO P w H h) (e : H a = some (.tup (ks.map kV))) : (tupleKind (ft P w)).is h ks a := by
  obtain ⟨_,its,r,o,h1,h2,n,h3⟩ := (show bM P w H h a (.tup (ks.map kV)) from ok a _ e)
  exact ⟨o,its.toArray,n,h1,h2,h3,by simpa using CW r⟩
theorem pK {ah : List (List Key × V)} (ok : bO P w H h) (e : Rd H a (.dT ah)) : ah.length <= sizeLine /\ (a == sysModules) = false /\
    ∃ xs,KT H ah xs /\ h.DictOfH (tupleKind (ft P w)) a xs := by
  obtain ⟨z,y,xs,r,o,es,ep,h1,h2,h3,h4,h5⟩ := (show bM P w H h a (.dT ah) from GW ok e)
  refine ⟨z,y,xs,r,o,es,ep,h1,h2,h3,h4,fun x hx => ?_,h5⟩
  have all : ∀ {l : List (List Key × V)} {m : List (List Key × Addr × Value)},KT H l m -> ∀ x ∈ m,(tupleKind (ft P w)).is h x.1 x.2.1 := by
    intro l m q
    induction q with
    | nil => intro x hx; exact nomatch hx
    | @cons p q ps qs hq t ih =>
      intro x hx
      rcases List.mem_cons.mp hx with e | hx
      · subst e
        exact ku ok (by rw [<- hq.1]; exact hq.2.1)
      · exact ih x hx
  exact all r x hx
theorem Su {ah : List (List Key × V)} (ok : bO P w H h) (e : H a = some (.dT ah)) : ah.length <= sizeLine /\ (a == sysModules) = false /\
    ∃ xs,KT H ah xs /\ h.DictOfH (tupleKind (ft P w)) a xs := pK ok (.inl e)
end
def jn (H : Hp) (a : Addr) (y : V) (r : Option V) : Prop :=
  (∃ ah k,Rd H a (.dK ah) /\ y = kV k /\ r = fe ah k) \/ ∃ ah k b,Rd H a (.dT ah) /\ y = .ref b /\ H b = some (.tup (k.map kV)) /\ r = fe ah k
def pZ (H : Hp) (a : Addr) (y v : V) (H' : Hp) : Prop :=
  (∃ ah k,H a = some (.dK ah) /\ y = kV k /\ ah.length < sizeLine /\ H' = upd H a (.dK (putK ah k v))) \/
  ∃ ah k b,H a = some (.dT ah) /\ y = .ref b /\ H b = some (.tup (k.map kV)) /\ ah.length < sizeLine /\ H' = upd H a (.dT (putK ah k v))
theorem jn.t {H : Hp} {a b : Addr} {ah : List (List Key × V)} {k : List Key} (e : H a = some (.dT ah)) (eb : H b = some (.tup (k.map kV))) : jn H a (.ref b) (fe ah k) := .inr ⟨ah,k,b,.inl e,rfl,eb,rfl⟩
theorem pZ.t {H : Hp} {a b : Addr} {ah : List (List Key × V)} {k : List Key} {v : V} (e : H a = some (.dT ah)) (eb : H b = some (.tup (k.map kV))) (hl : ah.length < sizeLine) :
    pZ H a (.ref b) v (upd H a (.dT (putK ah k v))) := .inr ⟨ah,k,b,e,rfl,eb,hl,rfl⟩
section
variable {X : Cx} {pins : List (Addr × Obj)} {σ : St} {H : Hp} {s : Shared} {a : Addr} {y v : V} {u r : Value} {o : Option V} {A : Around} {E : Value -> Shared -> Prop}
theorem Inv.big (I : Inv X pins σ H s) : sysModules < s.heap.objs.size := by
  have h : mainGlobals < s.heap.objs.size := (I.mod.glob.keeps I.bk).lt
  exact Nat.lt_trans (by decide) h
theorem Np {Q : Value -> Shared -> Prop} (hu : A.units + 1 < cLine) (I : Inv X pins σ H s) (g : jn H a y (some v)) (ry : RelV y u) (h : ∀ w' s',Inv X pins σ H s' -> RelV v w' -> Q w' s') :
    wpAny (model X.prog X.w) A (getItem (.ref a) u) Q E s := by
  rcases g with ⟨ah,k,e,ey,l⟩ | ⟨ah,k,b,e,ey,eb,l⟩
  · subst ey
    obtain ⟨z,hd,vs,rel,dd⟩ := pJ I.ay e
    obtain ⟨w',hw,gF⟩ := gx.some_of (v := v) (o := valueAt vs k) (by rw [l]; exact rel.val k)
    exact wpAny_getItem_of (sO ry) dd.mapOf hw (h w' _ (I.tok _) gF)
  · subst ey
    cases (show u = Value.ref b from ry)
    obtain ⟨z,hd,xs,rel,dd⟩ := pK I.ay e
    obtain ⟨w',hw,gF⟩ := gx.some_of (v := v) (o := (atKey xs k).map (·.2)) (by rw [l]; exact rel.val k)
    obtain ⟨p,hp,zr⟩ := Option.map_eq_some_iff.mp hw
    refine wpAny_getItem_heap (tupleKind_room_in1 hu) (ku I.ay eb) dd hp ?_
    rw [zr]
    exact h w' _ (I.tok _) gF
theorem Ej {h' : Heap} {t' : Nat} {ob : HO} (I : Inv X pins σ H s) (mu : qc (H a)) (hs : Heap.SameBut a s.heap h') (he : ∃ q,h'.get? a = some q) (new : bM X.prog X.w (upd H a ob) h' a ob) :
    Inv X pins σ (upd H a ob) { s with heap := h',toks := t' } :=
  I.write (x := a) (e := a) mu (.inl rfl) (fun b q hb z => (hs.2 b hb).trans z) he new
theorem Rq {P : Program} {w : World} {H' : Hp} {h' : Heap} {ah : List (Key × V)} {vs : List (Key × Value)} (z : ah.length <= sizeLine) (hd : (a == sysModules) = false) (rel : KV ah vs) (dd : h'.DictOf (ft P w) a vs) :
    bM P w H' h' a (.dK ah) := ⟨z,hd,vs,rel,dd⟩
theorem Nq {H' : Hp} {Q : Unit -> Shared -> Prop} (hu : A.units + 1 < cLine) (I : Inv X pins σ H s) (g : pZ H a y v H') (ry : RelV y u) (rv : RelV v r) (h : ∀ s',Inv X pins σ H' s' -> Q () s') :
    wpAny (model X.prog X.w) A (setItem (.ref a) u r) Q E s := by
  rcases g with ⟨ah,k,e,ey,l,eH⟩ | ⟨ah,k,b,e,ey,eb,l,eH⟩
  · subst ey eH
    obtain ⟨z,hd,vs,rel,dd⟩ := Ss I.ay e
    have hz : vs.length <= sizeLine := by rw [<- rel.length]; exact z
    have hl : (putK ah k v).length <= sizeLine := by have := Cq ah k v; omega
    refine wpAny_setItem_pairs (hsz := hz) (sO ry) dd fun h' tZ hs => h _ ?_
    have he : ∃ q,h'.get? a = some q := let ⟨q,_,_,hq,_⟩ := tZ; ⟨q,hq⟩
    exact Ej I (by rw [e]; exact True.intro) hs he (Rq hl hd (rel.put k rv) tZ)
  · subst ey eH
    cases (show u = Value.ref b from ry)
    obtain ⟨z,hd,xs,rel,dd⟩ := Su I.ay e
    have hz : xs.length <= sizeLine := by rw [<- Paired.length rel]; exact z
    have hl : (putK ah k v).length <= sizeLine := by have := Cq ah k v; omega
    refine wpAny_setItem_heap (hsz := hz) (tupleKind_room_in1 hu) (ku I.ay eb) dd fun h' tZ hs => h _ ?_
    obtain ⟨q,es,ep,hq,h2,h3,h4,_,h5⟩ := tZ
    refine Ej I (by rw [e]; exact True.intro) hs ⟨q,hq⟩ ⟨hl,hd,_,(rel.put k eb rv).keeps fun c ys ec => ?_,q,es,ep,hq,h2,h3,h4,h5⟩
    rw [bh (R6 ec e (fun z => nomatch z))]
    exact ec
end
def HL (i : Expr) : Prop := ∀ ov iv,subscripted i false ov iv = operate [ov,iv] (getItem ov iv)
theorem PC {prog : Program} {w : World} {A : Around} {E : Value -> Shared -> Prop} {s : Shared} {env : Env} {value slice : Expr} {pos : Pos} {T id : String} {Q : Value -> Shared -> Prop}
    (hl : typeLookup (.type T) "__getitem__" = pure (some (.builtin id))) (hs : HL slice)
    (h : wpAny (model prog w) A (eval value env) (fun o bf => wpAny (model prog w) A (eval slice env) (fun i kE => kE.TypeIs o T /\ wpAny (model prog w) A (getItem o i) Q E kE) E bf) E s) :
    wpAny (model prog w) A (eval (.Subscript value slice pos) env) Q E s := by
  refine Subscript_ (wpAny_mono h (fun o bf Td => wpAny_mono Td (fun i kE yw => ?_) fun _ _ x => x) fun _ _ x => x)
  obtain ⟨hT,yw⟩ := yw
  unfold subscriptTail
  refine wpAny_bind ?_
  rw [getitemInPython_of_ne hT.not_modules]
  refine wpAny_bind (wpAny_specialOf hT hl ?_)
  have fin : wpAny (model prog w) A (subscripted slice false o i) (fun r HM => wpAny (model prog w) A (letTemporaryGo value o r >>= fun _ => pure r) Q E HM) E kE := by
    rw [hs o i]
    exact wpAny_operating (wpAny_mono yw (fun r HM Te => wpAny_bind (wpAny_letTemporaryGo (wpAny_pure Te))) fun _ _ x => x)
  first
    | exact wpAny_pure (wpAny_bind fin)
    | exact wpAny_bind (wpAny_pure (wpAny_bind fin))
    | exact wpAny_bind fin
theorem Mi {X : Cx} {pins : List (Addr × Obj)} {σ : St} {H : Hp} {s : Shared} {a : Addr} {y : V} {o : Option V} (I : Inv X pins σ H s) (g : jn H a y o) : s.TypeIs (.ref a) "dict" := by
  rcases g with ⟨ah,k,e,_,_⟩ | ⟨ah,k,b,e,_,_,_⟩
  · obtain ⟨_,_,vs,_,dd⟩ := pJ I.ay e
    exact dd.typeIs
  · obtain ⟨_,_,xs,_,dd⟩ := pK I.ay e
    exact dd.typeIs
def xE (td ty : TE) : TE := fun σ H Q => td σ H fun x H1 => ty σ H1 fun y H2 => ∃ a v,x = .ref a /\ jn H2 a y (some v) /\ Q v H2
def xF (td ty tv : TE) : TS := fun D σ H => tv σ H fun v H1 => td σ H1 fun x H2 => ty σ H2 fun y H3 => ∃ a H4,x = .ref a /\ pZ H3 a y v H4 /\ D.nx σ H4
section
variable {X : Cx} {o i e value : Expr} {pos pos' aaj : Pos} {td ty tv : TE}
theorem PD (hu : X.A.units + 1 < cLine) (ho : PE X o td) (hi : PE X i ty) (hs : HL i) : PE X (.Subscript o i pos) (xE td ty) := by
  intro pins s σ H Q I h
  refine PC PySem.F.slot_dict_getitem.lookup hs (az (ho pins s σ H _ I h) fun u s1 ⟨x,H1,I1,rx,q1⟩ => az (hi pins s1 σ H1 _ I1 q1) fun iv s2 ⟨y,H2,I2,ry,a,v,ex,g,q2⟩ => ?_)
  subst ex
  obtain rfl : u = Value.ref a := rx
  exact ⟨Mi I2 g,Np hu I2 g ry fun w' s3 I3 gF => ⟨v,H2,I3,gF,q2⟩⟩
theorem PF (hu : X.A.units + 1 < cLine) (ho : PE X o td) (hi : PE X i ty) (hv : PE X value tv) (hs : swapsWith value (some (.Subscript o i pos')) pos.line X.env = pure false) :
    PS X (.Assign [.Subscript o i pos'] value pos) (xF td ty tv) := by
  intro pins s σ H D I h
  refine wpAny_Assign_Subscript (az (hv pins s σ H _ I h) fun r s1 ⟨v,H1,I1,rv,q1⟩ => az (ho pins s1 σ H1 _ I1 q1) fun u s2 ⟨x,H2,I2,rx,q2⟩ => az (hi pins s2 σ H2 _ I2 q2) fun iv s3 ⟨y,H3,I3,ry,a,H4,ex,g,q3⟩ => ?_) hs
  subst ex
  obtain rfl : u = Value.ref a := rx
  exact Nq hu I3 g ry rv fun s4 I4 => ⟨σ,H4,I4,q3⟩
end
theorem Oa {P : Program} {w : World} {H : Hp} (h : Heap) (hb : sysModules < h.objs.size) : bM P w H (h.push { cls := .type "dict",data := .dict #[] }) h.objs.size (.dT []) :=
  ⟨Nat.zero_le _,beq_eq_false_iff_ne.mpr (Ne.symm (Nat.ne_of_lt hb)),[],.nil,_,#[],0,Heap.get?_push_size _ rfl,⟨rfl,rfl,rfl⟩,rfl,rfl,List.nodup_nil⟩
def Rr : TE := fun _ H Q => ∀ p,H p = none -> Q (.ref p) (upd H p (.dT []))
section
variable {X : Cx} {pos : Pos}
theorem Ob : PE X (.Dict [] [] pos) Rr := fun pins s σ H Q I h =>
  wpAny_Dict_empty ⟨.ref s.heap.objs.size,_,I.laid (a := s.heap.objs.size) (o := .dT []) (t' := s.toks) (fun _ _ q => Heap.get?_push_of_some _ q) (Nat.le_refl _) (Oa s.heap I.big),rfl,h _ (I.ay.fresh (Nat.le_refl _))⟩
end
structure M2 (X : Cx) (o : Expr) (m : Str) (apos : Pos) (e f : Expr) (dU : Pos) : Prop where
  base : attributeBase o m X.env (eval o X.env) = eval o X.env
  few : ((backTo dU (starEach [e,f] X.env)).all (fun x => !x.1) && (backToKw dU (keywordEach [] X.env)).all (fun x => x.1.isSome)
    && decide (([e,f] : List Expr).length + ([] : List Keyword).length + (if ([] : List Keyword).isEmpty then 0 else 1) < 30)) = true
  line : (apos.endLine == dU.line) = true
  trees : backTo dU (starEach [e,f] X.env) = [(false,eval e X.env),(false,eval f X.env)]
def JD (H : Hp) (a : Addr) : Prop := (∃ ah,Rd H a (.dK ah)) \/ ∃ ah,Rd H a (.dT ah)
theorem Rt {X : Cx} {pins : List (Addr × Obj)} {σ : St} {H : Hp} {s : Shared} {a : Addr} (I : Inv X pins σ H s) (d : JD H a) :
    s.TypeIs (.ref a) "dict" /\ (∀ b,Value.ref a = .ref b -> ∃ ob,s.heap.get? b = some ob /\ ob.dict = none) /\ (a == sysModules) = false := by
  rcases d with ⟨ah,e⟩ | ⟨ah,e⟩
  · obtain ⟨_,hd,vs,_,dd⟩ := pJ I.ay e
    refine ⟨dd.typeIs,fun b q => ?_,hd⟩
    cases q
    obtain ⟨ob,_,_,h1,h2,_⟩ := dd
    exact ⟨ob,h1,h2.2.1⟩
  · obtain ⟨_,hd,xs,_,dd⟩ := pK I.ay e
    refine ⟨dd.typeIs,fun b q => ?_,hd⟩
    cases q
    obtain ⟨ob,_,_,h1,h2,_⟩ := dd
    exact ⟨ob,h1,h2.2.1⟩
section
variable {X : Cx} {pins : List (Addr × Obj)} {σ : St} {H : Hp} {s : Shared} {a : Addr} {y d : V} {u r : Value} {o : Option V} {A : Around} {E : Value -> Shared -> Prop}
theorem Ru {Q : Value -> Shared -> Prop} (hu : A.units + 1 < cLine) (I : Inv X pins σ H s) (g : jn H a y o) (ry : RelV y u) (rd : RelV d r) (h : ∀ w' s',Inv X pins σ H s' -> RelV (o.getD d) w' -> Q w' s') :
    wpAny (model X.prog X.w) A (call (.builtin "dict.get") [.ref a,u,r]) Q E s := by
  rcases g with ⟨ah,k,e,ey,l⟩ | ⟨ah,k,b,e,ey,eb,l⟩
  · subst ey
    obtain ⟨z,hd,vs,rel,dd⟩ := pJ I.ay e
    refine call_meetsIn PySem.F.slot_dict_get dd.typeIs PySem.F.entry_dict_get (PySem.F.args_dict_get_3 _ _ _) (meets_dict_get_default (ft X.prog X.w) a (sO ry) hd r) ⟨_,dd.mapOf,h _ _ (I.tok _) ?_⟩
    rw [l]
    exact (rel.val k).getD rd
  · subst ey
    cases (show u = Value.ref b from ry)
    obtain ⟨z,hd,xs,rel,dd⟩ := pK I.ay e
    refine call_meetsIn PySem.F.slot_dict_get dd.typeIs PySem.F.entry_dict_get (PySem.F.args_dict_get_3 _ _ _) (meetsH_dict_get_default (tupleKind (ft X.prog X.w)) a b hd r) ⟨tupleKind_room_in1 hu,k,xs,ku I.ay eb,dd,h _ _ (I.tok _) ?_⟩
    rw [l]
    exact (rel.val k).getD rd
end
def wX (td ty tx : TE) : TE := fun σ H Q => td σ H fun x H1 => ∃ a,x = .ref a /\ JD H1 a /\ ty σ H1 fun y H2 => tx σ H2 fun z H3 => ∃ o,jn H3 a y o /\ Q (o.getD z) H3
section
variable {X : Cx} {o e f : Expr} {apos dU : Pos} {td ty tx : TE}
theorem Oc (hu : X.A.units + 1 < cLine) (ho : PE X o td) (he : PE X e ty) (hf : PE X f tx) (m : M2 X o "get" apos e f dU) : PE X (.Call (.Attribute o "get" apos) [e,f] [] dU) (wX td ty tx) := by
  intro pins s σ H Q I h
  refine wpAny_Call_method m.base m.few m.line PySem.F.plainAttrs_dict PySem.F.slot_dict_get PySem.F.type_dict_get (az (ho pins s σ H _ I h) fun u s1 ⟨x,H1,I1,rx,a,ex,d,q1⟩ => ?_)
  subst ex
  obtain rfl : u = Value.ref a := rx
  obtain ⟨t1,t2,_⟩ := Rt I1 d
  refine ⟨t1,t2,?_⟩
  rw [m.trees]
  refine Calls.callWith_builtin rfl (Calls.evalArgs_plain (Calls.spliced_cons (az (he pins s1 σ H1 _ I1 q1) fun iv s2 ⟨y,H2,I2,ry,q2⟩ =>
    Calls.spliced_cons (az (hf pins s2 σ H2 _ I2 q2) fun fv s3 ⟨z,H3,I3,rz,ov,g,q3⟩ => Calls.spliced_nil ?_))))
  exact Ru hu I3 g ry rz fun w' s4 I4 gF => ⟨_,H3,I4,gF,q3⟩
end
end L2
namespace L2
open PySem PySem.Spec PyProof.Rows
theorem fT.to {ι : Type} {F : bb ι} {e : Expr} {ρ : En} {p q : Bool} (h : fT F e ρ p) (z : p = q) : fT F e ρ q := z ▸ h
end L2
namespace So
open PySem PyProof.Rows
abbrev GC := Option (Option Nat) × Nat × Nat
abbrev SM := StateT SortSt Sem
def yx : Bool -> Keyed -> Array Keyed -> Nat -> Nat -> Nat -> SM (Option Nat) := sortPriv% PySem.Builtin.gallop
def Yr : Array Keyed -> Array Keyed -> SM (Array Keyed) := sortPriv% PySem.Builtin.mergeLo
def Ys : Array Keyed -> Array Keyed -> SM (Array Keyed) := sortPriv% PySem.Builtin.mergeHi
def p7 (left : Bool) (key : Keyed) (arr : Array Keyed) (base i : Nat) : SM (Option Bool) := do
  let x <- elem' arr (base + i)
  if left = true then lt' x key else do
    let r <- lt' key x
    pure (r.map fun b => !b)
section
variable {prog : Program} {w : World} {A : Around} {E : Value -> Shared -> Prop} {s : Shared}
theorem Ek {left : Bool} {key : Keyed} {arr : Array Keyed} {base n hint : Nat} {st : SortSt} {Q : Option Nat -> SortSt -> Prop} (p : Nat -> Bool)
    (qL : ∀ (i : Nat) (Q : Option Bool -> SortSt -> Prop),i < n -> Q (some (p i)) st -> wpS (model prog w) A E s (p7 left key arr base i) Q st)
    (mono : ∀ i j,i <= j -> j < n -> p j = true -> p i = true) (hh : hint < n)
    (h : ∀ k,k <= n -> (∀ i,i < k -> p i = true) -> (∀ i,k <= i -> i < n -> p i = false) -> Q (some k) st) :
    wpS (model prog w) A E s (yx left key arr base n hint) Q st := by
  have xG : ∀ i j,i <= j -> j < n -> p i = false -> p j = false := fun i j h1 h2 h3 => by
    cases e : p j with
    | false => rfl
    | true => rw [mono i j h1 h2 e] at h3; cases h3
  refine wpS_bind (qL hint _ hh ?_)
  dsimp only
  have bin : ∀ lo hi,lo <= hi -> hi <= n -> (∀ i,i < lo -> p i = true) -> (∀ i,hi <= i -> i < n -> p i = false) ->
      ∀ f : Nat -> GC -> SM (ForInStep GC),(∀ (x lo hi : Nat) (Q : ForInStep GC -> SortSt -> Prop),hi <= n ->
        (hi <= lo -> Q (.done (none,lo,hi)) st) -> (lo < hi -> p (lo + (hi - lo) / 2) = true -> Q (.yield (none,lo + (hi - lo) / 2 + 1,hi)) st) -> (lo < hi -> p (lo + (hi - lo) / 2) = false -> Q (.yield (none,lo,lo + (hi - lo) / 2)) st) ->
        wpS (model prog w) A E s (f x (none,lo,hi)) Q st) ->
      wpS (model prog w) A E s (forIn [0:n] ((none,lo,hi) : GC) f) (fun c af => af = st /\ ∃ lo,c = (none,lo,lo) /\ lo <= n /\ (∀ i,i < lo -> p i = true) /\ (∀ i,lo <= i -> i < n -> p i = false)) st := by
    intro lo hi h1 h2 h3 h4 f hf
    refine wpS_forRange (I := fun x c af => af = st /\ ∃ lo hi,c = (none,lo,hi) /\ lo <= hi /\ hi <= n /\ hi - lo <= n - x /\ (∀ i,i < lo -> p i = true) /\ (∀ i,hi <= i -> i < n -> p i = false)) ?_ ?_ ⟨rfl,lo,hi,rfl,h1,h2,by omega,h3,h4⟩
    · rintro x c af _ hx ⟨rfl,lo,hi,rfl,a1,a2,a3,a4,a5⟩
      refine hf x lo hi _ a2 (fun z => ?_) (fun z e => ?_) (fun z e => ?_)
      · have : lo = hi := by omega
        subst this
        exact ⟨rfl,lo,rfl,a2,a4,a5⟩
      · exact ⟨rfl,_,_,rfl,by omega,a2,by omega,fun i zt => mono i (lo + (hi - lo) / 2) (by omega) (by omega) e,a5⟩
      · exact ⟨rfl,_,_,rfl,by omega,by omega,by omega,a4,fun i b1 b2 => xG (lo + (hi - lo) / 2) i b1 b2 e⟩
    · rintro c af ⟨rfl,lo,hi,rfl,a1,a2,a3,a4,a5⟩
      have : lo = hi := by omega
      subst this
      exact ⟨rfl,lo,rfl,a2,a4,a5⟩
  cases hp : p hint with
  | true =>
    simp only [if_true]
    refine wpS_bind (wpS_mono (wpS_forRange (I := fun x c af => af = st /\ ∃ l o,c = (none,l,o) /\ o = 2 * l + 1 /\ x <= l /\ hint + l < n /\ p (hint + l) = true)
      (Q := fun c af => af = st /\ ∃ l o,c = (none,l,o) /\ l < o /\ hint + l < n /\ p (hint + l) = true /\ (n - hint <= o \/ p (hint + o) = false)) ?_ ?_ ⟨rfl,0,1,rfl,rfl,Nat.le_refl _,hh,hp⟩) ?_)
    · rintro x c af _ hx ⟨rfl,l,o,rfl,a1,a2,a3,a4⟩
      dsimp only
      by_cases eV : o >= n - hint
      · rw [if_pos eV]
        exact wpS_pure ⟨rfl,l,o,rfl,by omega,a3,a4,.inl eV⟩
      · rw [if_neg eV]
        refine wpS_bind (qL (hint + o) _ (by omega) ?_)
        dsimp only
        cases e : p (hint + o) with
        | true =>
          simp only [Bool.not_true,Bool.false_eq_true,if_false]
          exact wpS_pure ⟨rfl,o,2 * o + 1,rfl,rfl,by omega,by omega,e⟩
        | false =>
          simp only [Bool.not_false,if_true]
          exact wpS_pure ⟨rfl,l,o,rfl,by omega,a3,a4,.inr e⟩
    · rintro c af ⟨rfl,l,o,rfl,a1,a2,a3,a4⟩
      exact ⟨rfl,l,o,rfl,by omega,a3,a4,.inl (by omega)⟩
    · rintro c af ⟨rfl,l,o,rfl,a1,a2,a3,a4⟩
      dsimp only
      refine wpS_bind (wpS_mono (bin (hint + l + 1) (hint + min o (n - hint)) (by omega) (by omega) (fun i hi => mono i (hint + l) (by omega) (by omega) a3) (fun i b1 b2 => ?_) _ (fun x lo hi Q hn k1 k2 k3 => ?_)) ?_)
      · rcases a4 with z | z
        · omega
        · by_cases ho : hint + o <= i
          · exact xG (hint + o) i ho b2 z
          · omega
      · dsimp only
        by_cases eV : lo >= hi
        · rw [if_pos eV]; exact wpS_pure (k1 eV)
        · rw [if_neg eV]
          refine wpS_bind (qL _ _ (by omega) ?_)
          dsimp only
          cases e : p (lo + (hi - lo) / 2) with
          | true => simp only [if_true]; exact wpS_pure (k2 (by omega) e)
          | false => simp only [Bool.false_eq_true,if_false]; exact wpS_pure (k3 (by omega) e)
      · rintro c af ⟨rfl,lo,rfl,b1,b2,b3⟩
        exact wpS_pure (h lo b1 b2 b3)
  | false =>
    simp only [Bool.false_eq_true,if_false]
    refine wpS_bind (wpS_mono (wpS_forRange (I := fun x c af => af = st /\ ∃ l o,c = (none,l,o) /\ o = 2 * l + 1 /\ x <= l /\ l <= hint /\ p (hint - l) = false)
      (Q := fun c af => af = st /\ ∃ l o,c = (none,l,o) /\ l < o /\ l <= hint /\ p (hint - l) = false /\ (hint + 1 <= o \/ (o <= hint /\ p (hint - o) = true))) ?_ ?_ ⟨rfl,0,1,rfl,rfl,Nat.le_refl _,Nat.zero_le _,hp⟩) ?_)
    · rintro x c af _ hx ⟨rfl,l,o,rfl,a1,a2,a3,a4⟩
      dsimp only
      by_cases eV : o >= hint + 1
      · rw [if_pos eV]
        exact wpS_pure ⟨rfl,l,o,rfl,by omega,a3,a4,.inl eV⟩
      · rw [if_neg eV]
        refine wpS_bind (qL (hint - o) _ (by omega) ?_)
        dsimp only
        cases e : p (hint - o) with
        | true =>
          simp only [if_true]
          exact wpS_pure ⟨rfl,l,o,rfl,by omega,a3,a4,.inr ⟨by omega,e⟩⟩
        | false =>
          simp only [Bool.false_eq_true,if_false]
          exact wpS_pure ⟨rfl,o,2 * o + 1,rfl,rfl,by omega,by omega,e⟩
    · rintro c af ⟨rfl,l,o,rfl,a1,a2,a3,a4⟩
      exact ⟨rfl,l,o,rfl,by omega,a3,a4,.inl (by omega)⟩
    · rintro c af ⟨rfl,l,o,rfl,a1,a2,a3,a4⟩
      dsimp only
      refine wpS_bind (wpS_mono (bin (hint + 1 - min o (hint + 1)) (hint - l) (by omega) (by omega) (fun i hi => ?_) (fun i b1 b2 => xG (hint - l) i b1 b2 a3) _ (fun x lo hi Q hn k1 k2 k3 => ?_)) ?_)
      · rcases a4 with z | z
        · omega
        · exact mono i (hint - o) (by omega) (by omega) z.2
      · dsimp only
        by_cases eV : lo >= hi
        · rw [if_pos eV]; exact wpS_pure (k1 eV)
        · rw [if_neg eV]
          refine wpS_bind (qL _ _ (by omega) ?_)
          dsimp only
          cases e : p (lo + (hi - lo) / 2) with
          | true => simp only [if_true]; exact wpS_pure (k2 (by omega) e)
          | false => simp only [Bool.false_eq_true,if_false]; exact wpS_pure (k3 (by omega) e)
      · rintro c af ⟨rfl,lo,rfl,b1,b2,b3⟩
        exact wpS_pure (h lo b1 b2 b3)
end
end So
namespace So
open PySem PyProof.Rows
section
variable {κ : KeyKind}
def kf (κ : KeyKind) (x : Keyed) : κ.α := (κ.keyOf x.1).getD κ.dflt
def cZ (κ : KeyKind) (l : List Keyed) : Prop := l.Pairwise fun x y => κ.kle (kf κ x) (kf κ y)
def Kd (κ : KeyKind) (l : List Keyed) : Prop := ∀ x ∈ l,(κ.keyOf x.1).isSome = true
structure MI (κ : KeyKind) (a b out : List Keyed) (ia ib : Nat) : Prop where
  p : (out ++ (a.drop ia ++ b.drop ib)).Perm (a ++ b)
  x : cZ κ (out ++ a.drop ia)
  y : cZ κ (out ++ b.drop ib)
def Gd (κ : KeyKind) (a b m : List Keyed) : Prop := m.Perm (a ++ b) /\ cZ κ m
variable {a b out : List Keyed} {ia ib : Nat}
theorem cv {l r : List Keyed} : cZ κ (l ++ r) ↔ cZ κ l /\ cZ κ r /\ ∀ x ∈ l,∀ y ∈ r,κ.kle (kf κ x) (kf κ y) := List.pairwise_append
theorem MI.sP (h : MI κ a b out ia ib) (hb : b.length <= ib) : Gd κ a b (out ++ a.drop ia ++ b.drop ib) := by
  have e : b.drop ib = [] := List.drop_eq_nil_of_le hb
  have p := h.p
  rw [e,List.append_nil] at p ⊢
  exact ⟨p,h.x⟩
theorem MI.Sv (h : MI κ a b out ia ib) (ha : a.length <= ia) : Gd κ a b (out ++ a.drop ia ++ b.drop ib) := by
  have e : a.drop ia = [] := List.drop_eq_nil_of_le ha
  have p := h.p
  rw [e,List.nil_append] at p
  rw [e,List.append_nil]
  exact ⟨p,h.y⟩
theorem MI.Sw (h : MI κ a b out ia ib) (hl : ∀ x ∈ b.drop ib,∀ y ∈ a.drop ia,κ.kle (kf κ x) (kf κ y)) : Gd κ a b (out ++ b.drop ib ++ a.drop ia) := by
  refine ⟨?_,?_⟩
  · refine List.Perm.trans ?_ h.p
    rw [List.append_assoc]
    exact List.Perm.append_left _ List.perm_append_comm
  · have hx := cv.mp h.x
    refine cv.mpr ⟨h.y,hx.2.1,fun x fj y hy => ?_⟩
    rcases List.mem_append.mp fj with z | z
    · exact hx.2.2 x z y hy
    · exact hl x z y hy
theorem MI.pL (h : MI κ a b out ia ib) (k : Nat) (hl : ∀ x ∈ (a.drop ia).take k,∀ y ∈ b.drop ib,κ.kle (kf κ x) (kf κ y)) : MI κ a b (out ++ (a.drop ia).take k) (ia + k) ib := by
  have e : (a.drop ia).take k ++ a.drop (ia + k) = a.drop ia := by rw [<- List.drop_drop]; exact List.take_append_drop k _
  have hy := cv.mp h.y
  have hx := cv.mp h.x
  refine ⟨?_,?_,?_⟩
  · have := h.p
    rw [<- e] at this
    rw [List.append_assoc]
    rw [List.append_assoc] at this
    exact this
  · rw [List.append_assoc,e]; exact h.x
  · rw [cv,cv]
    have hs : cZ κ ((a.drop ia).take k) := List.Pairwise.sublist (List.take_sublist k _) hx.2.1
    refine ⟨⟨hy.1,hs,fun x fj y cD => hx.2.2 x fj y (List.mem_of_mem_take cD)⟩,hy.2.1,fun x fj y cD => ?_⟩
    rcases List.mem_append.mp fj with z | z
    · exact hy.2.2 x z y cD
    · exact hl x z y cD
theorem MI.pM (h : MI κ a b out ia ib) (k : Nat) (hl : ∀ x ∈ (b.drop ib).take k,∀ y ∈ a.drop ia,κ.kle (kf κ x) (kf κ y)) : MI κ a b (out ++ (b.drop ib).take k) ia (ib + k) := by
  have e : (b.drop ib).take k ++ b.drop (ib + k) = b.drop ib := by rw [<- List.drop_drop]; exact List.take_append_drop k _
  have hy := cv.mp h.y
  have hx := cv.mp h.x
  refine ⟨?_,?_,?_⟩
  · refine List.Perm.trans ?_ h.p
    generalize (b.drop ib).take k = B1 at e
    generalize b.drop (ib + k) = B2 at e
    rw [<- e]
    generalize a.drop ia = A1
    rw [List.append_assoc]
    refine List.Perm.append_left _ ?_
    rw [<- List.append_assoc,<- List.append_assoc]
    exact List.Perm.append_right _ List.perm_append_comm
  · rw [cv,cv]
    have hs : cZ κ ((b.drop ib).take k) := List.Pairwise.sublist (List.take_sublist k _) hy.2.1
    refine ⟨⟨hx.1,hs,fun x fj y cD => hy.2.2 x fj y (List.mem_of_mem_take cD)⟩,hx.2.1,fun x fj y cD => ?_⟩
    rcases List.mem_append.mp fj with z | z
    · exact hx.2.2 x z y cD
    · exact hl x z y cD
  · rw [List.append_assoc,e]; exact h.y
theorem mK {l : List Keyed} {i : Nat} {x : Keyed} (h : l[i]? = some x) : l.drop i = x :: l.drop (i + 1) := by
  obtain ⟨h1,rfl⟩ := List.getElem?_eq_some_iff.mp h
  exact List.drop_eq_getElem_cons h1
theorem kg {l : List Keyed} {i : Nat} {x : Keyed} (h : cZ κ (l.drop i)) (e : l[i]? = some x) : ∀ y ∈ l.drop i,κ.kle (kf κ x) (kf κ y) := fun y hy => by
  rw [mK e] at h hy
  rcases List.mem_cons.mp hy with rfl | z
  · exact KeyOrd.kle_refl _
  · exact (List.pairwise_cons.mp h).1 y z
theorem MI.nj {y : Keyed} (h : MI κ a b out ia ib) (e : a[ia]? = some y) (hl : ∀ z ∈ b.drop ib,κ.kle (kf κ y) (kf κ z)) : MI κ a b (out ++ [y]) (ia + 1) ib := by
  have := h.pL 1 (by rw [mK e]; intro x hx z hz; rw [List.take_succ_cons,List.take_zero,List.mem_singleton] at hx; rw [hx]; exact hl z hz)
  rw [mK e] at this
  exact this
theorem MI.nk {y : Keyed} (h : MI κ a b out ia ib) (e : b[ib]? = some y) (hl : ∀ z ∈ a.drop ia,κ.kle (kf κ y) (kf κ z)) : MI κ a b (out ++ [y]) ia (ib + 1) := by
  have := h.pM 1 (by rw [mK e]; intro x hx z hz; rw [List.take_succ_cons,List.take_zero,List.mem_singleton] at hx; rw [hx]; exact hl z hz)
  rw [mK e] at this
  exact this
end
abbrev cV (st : SortSt) (g : Nat) : SortSt := SortSt.mk' (kindOf st) (arrOf st) (pendingOf st) g (failedOf st)
theorem mL {α : Type} (a : Array α) (i : Nat) : (a.extract i a.size).toList = a.toList.drop i := by
  rw [Array.toList_extract,List.extract_eq_take_drop,List.take_of_length_le (by rw [List.length_drop,Array.length_toList]; omega)]
theorem Em {α : Type} (a : Array α) (i k : Nat) : (a.extract i (i + k)).toList = (a.toList.drop i).take k := by simp [List.extract_eq_take_drop]
structure gJ (prog : Program) (w : World) (A : Around) (E : Value -> Shared -> Prop) (s : Shared) (kd : SortKind) (κ : KeyKind) : Prop where
  lt : ∀ (st : SortSt) (x y : Keyed) (Q : Option Bool -> SortSt -> Prop),kindOf st = kd -> (κ.keyOf x.1).isSome = true -> (κ.keyOf y.1).isSome = true -> Q (some (κ.blt (kf κ x) (kf κ y))) st -> wpS (model prog w) A E s (lt' x y) Q st
section
variable {prog : Program} {w : World} {A : Around} {E : Value -> Shared -> Prop} {s : Shared} {kd : SortKind} {κ : KeyKind}
theorem cF {arr : Array Keyed} {i : Nat} {x : Keyed} {st : SortSt} {Q : Keyed -> SortSt -> Prop} (e : arr[i]? = some x) (h : Q x st) : wpS (model prog w) A E s (elem' arr i) Q st := by
  rw [elem'_eq,e]; exact wpS_pure h
theorem Yt (C : gJ prog w A E s kd κ) {key x : Keyed} {arr : Array Keyed} {base i : Nat} {st : SortSt} {Q : Option Bool -> SortSt -> Prop} (hk : kindOf st = kd) (e : arr[base + i]? = some x) (k1 : (κ.keyOf key.1).isSome = true) (k2 : (κ.keyOf x.1).isSome = true) (h : Q (some (κ.blt (kf κ x) (kf κ key))) st) :
    wpS (model prog w) A E s (p7 true key arr base i) Q st := by
  unfold p7
  refine wpS_bind (cF e ?_)
  rw [if_pos rfl]
  exact C.lt st x key _ hk k2 k1 h
theorem Yu (C : gJ prog w A E s kd κ) {key x : Keyed} {arr : Array Keyed} {base i : Nat} {st : SortSt} {Q : Option Bool -> SortSt -> Prop} (hk : kindOf st = kd) (e : arr[base + i]? = some x) (k1 : (κ.keyOf key.1).isSome = true) (k2 : (κ.keyOf x.1).isSome = true) (h : Q (some (!κ.blt (kf κ key) (kf κ x))) st) :
    wpS (model prog w) A E s (p7 false key arr base i) Q st := by
  unfold p7
  refine wpS_bind (cF e ?_)
  rw [if_neg (by decide)]
  exact wpS_bind (C.lt st key x _ hk k1 k2 (wpS_pure h))
def kA (κ : KeyKind) (arr : Array Keyed) (i : Nat) : κ.α := match arr[i]? with | some x => kf κ x | none => κ.dflt
theorem bw {arr : Array Keyed} {i : Nat} {x : Keyed} (e : arr[i]? = some x) : kA κ arr i = kf κ x := by unfold kA; rw [e]
theorem dg {α : Type} {arr : Array α} {i : Nat} (h : i < arr.size) : ∃ x,arr[i]? = some x /\ x ∈ arr.toList := ⟨arr[i],getElem?_pos arr i h,by simp⟩
theorem jN {arr : Array Keyed} (h : cZ κ arr.toList) {i j : Nat} (bD : i <= j) (hj : j < arr.size) : κ.kle (kA κ arr i) (kA κ arr j) := by
  have li : i < arr.toList.length := by rw [Array.length_toList]; omega
  have lj : j < arr.toList.length := by rw [Array.length_toList]; omega
  have ei : arr[i]? = some arr.toList[i] := by rw [<- Array.getElem?_toList,List.getElem?_eq_getElem li]
  have ej : arr[j]? = some arr.toList[j] := by rw [<- Array.getElem?_toList,List.getElem?_eq_getElem lj]
  rw [bw ei,bw ej]
  rcases Nat.lt_or_ge i j with z | z
  · exact List.pairwise_iff_getElem.mp h i j li lj z
  · have : i = j := by omega
    subst this
    exact KeyOrd.kle_refl _
theorem mem_mid {arr : Array Keyed} {i k : Nat} {x : Keyed} (h : x ∈ (arr.toList.drop i).take k) : ∃ j,j < k /\ arr[i + j]? = some x := by
  obtain ⟨n,hn,e⟩ := List.getElem_of_mem h
  rw [List.length_take] at hn
  refine ⟨n,by omega,?_⟩
  rw [<- Array.getElem?_toList,<- List.getElem?_drop,<- e]
  rw [List.getElem_take,List.getElem?_eq_getElem]
theorem vp (C : gJ prog w A E s kd κ) {key : Keyed} {arr : Array Keyed} {base n hint : Nat} {st : SortSt} {Q : Option Nat -> SortSt -> Prop} (hk : kindOf st = kd) (k1 : (κ.keyOf key.1).isSome = true) (ka : Kd κ arr.toList) (hn : base + n <= arr.size) (hh : hint < n)
    (qM : ∀ i j,i <= j -> j < n -> κ.kle (kA κ arr (base + i)) (kA κ arr (base + j)))
    (h : ∀ k,k <= n -> (∀ i,i < k -> κ.kle (kA κ arr (base + i)) (kf κ key)) -> (∀ i,k <= i -> i < n -> κ.klt (kf κ key) (kA κ arr (base + i))) -> Q (some k) st) :
    wpS (model prog w) A E s (yx false key arr base n hint) Q st := by
  refine Ek (fun i => !κ.blt (kf κ key) (kA κ arr (base + i))) (fun i Q hi hq => ?_) (fun i j bD hj e => ?_) hh (fun k zu h1 h2 => h k zu (fun i hi => ?_) (fun i b1 b2 => ?_))
  · obtain ⟨x,ex,mx⟩ := dg (arr := arr) (i := base + i) (by omega)
    rw [bw ex] at hq
    exact Yu C hk ex k1 (ka x mx) hq
  · have e' : κ.blt (kf κ key) (kA κ arr (base + j)) = false := by simpa using e
    have : κ.kle (kA κ arr (base + i)) (kf κ key) := KeyOrd.kle_trans (qM i j bD hj) e'
    unfold KeyOrd.kle at this
    rw [this]; rfl
  · have := h1 i hi
    show κ.blt _ _ = false
    simpa using this
  · have := h2 i b1 b2
    show κ.blt _ _ = true
    simpa using this
theorem vN (C : gJ prog w A E s kd κ) {key : Keyed} {arr : Array Keyed} {base n hint : Nat} {st : SortSt} {Q : Option Nat -> SortSt -> Prop} (hk : kindOf st = kd) (k1 : (κ.keyOf key.1).isSome = true) (ka : Kd κ arr.toList) (hn : base + n <= arr.size) (hh : hint < n)
    (qM : ∀ i j,i <= j -> j < n -> κ.kle (kA κ arr (base + i)) (kA κ arr (base + j)))
    (h : ∀ k,k <= n -> (∀ i,i < k -> κ.klt (kA κ arr (base + i)) (kf κ key)) -> (∀ i,k <= i -> i < n -> κ.kle (kf κ key) (kA κ arr (base + i))) -> Q (some k) st) :
    wpS (model prog w) A E s (yx true key arr base n hint) Q st := by
  refine Ek (fun i => κ.blt (kA κ arr (base + i)) (kf κ key)) (fun i Q hi hq => ?_) (fun i j bD hj e => ?_) hh (fun k zu h1 h2 => h k zu (fun i hi => h1 i hi) (fun i b1 b2 => h2 i b1 b2))
  · obtain ⟨x,ex,mx⟩ := dg (arr := arr) (i := base + i) (by omega)
    rw [bw ex] at hq
    exact Yt C hk ex k1 (ka x mx) hq
  · exact KeyOrd.klt_of_kle_of_klt (qM i j bD hj) e
end
end So
namespace So
open PySem PyProof.Rows
section
variable {prog : Program} {w : World} {A : Around} {E : Value -> Shared -> Prop} {s : Shared} {kd : SortKind} {κ : KeyKind}
theorem PH (C : gJ prog w A E s kd κ) {a b : Array Keyed} {st : SortSt} {Q : Array Keyed -> SortSt -> Prop} (hk : kindOf st = kd) (ka : Kd κ a.toList) (kb : Kd κ b.toList) (sa : cZ κ a.toList) (sb : cZ κ b.toList) (na : 0 < a.size) (nb : 0 < b.size)
    (h0 : ∀ x y,b[0]? = some x -> a[0]? = some y -> κ.kle (kf κ x) (kf κ y)) (hl : ∀ x ∈ b.toList,∀ y,a[a.size - 1]? = some y -> κ.kle (kf κ x) (kf κ y))
    (h : ∀ (m : Array Keyed) g,Gd κ a.toList b.toList m.toList -> Q m (cV st g)) : wpS (model prog w) A E s (Yr a b) Q st := by
  have la : a.toList.length = a.size := Array.length_toList
  have lb : b.toList.length = b.size := Array.length_toList
  have ga : ∀ {i x},a[i]? = some x -> a.toList[i]? = some x := fun {i x} e => by rw [Array.getElem?_toList]; exact e
  have gb : ∀ {i x},b[i]? = some x -> b.toList[i]? = some x := fun {i x} e => by rw [Array.getElem?_toList]; exact e
  have dl : ∀ (out : Array Keyed) ia ib,(out ++ a.extract ia a.size ++ b.extract ib b.size).toList = out.toList ++ a.toList.drop ia ++ b.toList.drop ib := fun out ia ib => by
    rw [Array.toList_append,Array.toList_append,mL,mL]
  have ll : ∀ (out : Array Keyed) ia ib,(out ++ b.extract ib b.size ++ a.extract ia a.size).toList = out.toList ++ b.toList.drop ib ++ a.toList.drop ia := fun out ia ib => by
    rw [Array.toList_append,Array.toList_append,mL,mL]
  have last : ∀ {out : Array Keyed} {ia ib},MI κ a.toList b.toList out.toList ia ib -> ia + 1 = a.size -> Gd κ a.toList b.toList (out ++ b.extract ib b.size ++ a.extract ia a.size).toList := fun {out ia ib} mi e => by
    rw [ll]
    refine mi.Sw fun x hx y hy => ?_
    obtain ⟨z,ez,_⟩ := dg (arr := a) (i := ia) (by omega)
    rw [mK (ga ez),List.drop_eq_nil_of_le (by omega),List.mem_singleton] at hy
    rw [hy]
    exact hl x (List.mem_of_mem_drop hx) z (by rw [show a.size - 1 = ia by omega]; exact ez)
  refine wpS_bind (wpS_lift (wpAny_rule ⟨rfl,?_⟩))
  (with_reducible conv => arg 5; whnf)
  obtain ⟨x0,e0,m0⟩ := dg nb
  refine wpS_bind (cF e0 ?_)
  (with_reducible conv => arg 5; whnf)
  obtain ⟨y0,f0,_⟩ := dg na
  have qN : MI κ a.toList b.toList [x0] 0 1 := by
    have : MI κ a.toList b.toList [] 0 0 := ⟨List.Perm.refl _,sa,sb⟩
    refine this.nk (gb e0) fun z hz => KeyOrd.kle_trans (h0 x0 y0 e0 f0) (kg (i := 0) sa (ga f0) z hz)
  by_cases fK : (1 == b.size) = true
  · rw [if_pos fK]
    have := (beq_iff_eq.mp fK).symm
    exact wpS_pure (h _ (gallopOf st) (by rw [dl]; exact qN.sP (by omega)))
  rw [if_neg fK]
  have Tf : 1 ≠ b.size := fun z => fK (beq_iff_eq.mpr z)
  by_cases jB : (0 + 1 == a.size) = true
  · rw [if_pos jB]
    have := (beq_iff_eq.mp jB)
    exact wpS_pure (h _ (gallopOf st) (last qN this))
  rw [if_neg jB]
  have Tg : 0 + 1 ≠ a.size := fun z => jB (beq_iff_eq.mpr z)
  refine wpS_bind (wpS_get ?_)
  (with_reducible conv => arg 5; whnf)
  generalize gallopOf st = Yv
  refine wpS_bind (wpS_mono (wpS_forRange (I := fun t c af => (∃ g,af = cV st g) /\ ∃ out ia ib mg,c = (none,out,ia,ib,mg) /\ MI κ a.toList b.toList out.toList ia ib /\ ia + 1 < a.size /\ ib < b.size /\ t <= ia + ib)
    (Q := fun c af => (∃ g,af = cV st g) /\ ∃ m,c.1 = some m /\ Gd κ a.toList b.toList m.toList) ?_ ?_ ⟨⟨gallopOf st,rfl⟩,_,0,1,_,rfl,qN,by omega,by omega,by omega⟩) ?_)
  rotate_left
  · rintro c af ⟨_,out,ia,ib,mg,rfl,mi,h1,h2,h3⟩
    omega
  · rintro c af ⟨⟨g,rfl⟩,m,e,gd⟩
    dsimp only
    rw [e]
    exact wpS_pure (h m g gd)
  rintro t c af _ ht ⟨⟨g,rfl⟩,out,ia,ib,mg,rfl,mi,h1,h2,h3⟩
  (with_reducible conv => arg 5; whnf)
  (try dsimp -zeta only)
  refine wpS_bind (wpS_mono (wpS_forRange (I := fun q c af => af = cV st g /\ ∃ out ia ib ac bc,c = (none,out,ia,ib,ac,bc) /\ MI κ a.toList b.toList out.toList ia ib /\ ia + 1 < a.size /\ ib < b.size /\ t + q <= ia + ib)
    (Q := fun c af => af = cV st g /\ ((∃ m,c.1 = some m /\ Gd κ a.toList b.toList m.toList) \/ ∃ out ia ib ac bc,c = (none,out,ia,ib,ac,bc) /\ MI κ a.toList b.toList out.toList ia ib /\ ia + 1 < a.size /\ ib < b.size /\ t + 1 <= ia + ib)) ?_ ?_ ⟨rfl,out,ia,ib,0,0,rfl,mi,h1,h2,by omega⟩) ?_)
  rotate_left
  · rintro c af ⟨_,out,ia,ib,ac,bc,rfl,mi,h1,h2,h3⟩
    omega
  rotate_left
  · clear mi h1 h2 h3
    rintro q c af _ hq ⟨rfl,out,ia,ib,ac,bc,rfl,mi,h1,h2,h3⟩
    (with_reducible conv => arg 5; whnf)
    (try dsimp -zeta only)
    obtain ⟨xb,eb,mb⟩ := dg h2
    obtain ⟨xa,ea,ma⟩ := dg (arr := a) (i := ia) (by omega)
    have sA := (cv.mp mi.x).2.1
    have sB := (cv.mp mi.y).2.1
    refine wpS_bind (cF eb (wpS_bind (cF ea (wpS_bind (C.lt _ xb xa _ hk (kb _ mb) (ka _ ma) ?_)))))
    (try dsimp -zeta only)
    cases aZ : κ.blt (kf κ xb) (kf κ xa) with
    | true =>
      rw [if_pos rfl]
      refine wpS_bind (cF eb ?_)
      (with_reducible conv => arg 5; whnf)
      have bu : MI κ a.toList b.toList (out.push xb).toList ia (ib + 1) := by
        rw [Array.toList_push]
        exact mi.nk (gb eb) fun z hz => KeyOrd.kle_trans (KeyOrd.kle_of_klt aZ) (kg sA (ga ea) z hz)
      by_cases hz : (ib + 1 == b.size) = true
      · rw [if_pos hz]
        have := beq_iff_eq.mp hz
        exact wpS_pure ⟨rfl,.inl ⟨_,rfl,by rw [dl]; exact bu.sP (by omega)⟩⟩
      · rw [if_neg hz]
        have dZ : ib + 1 ≠ b.size := fun z => hz (beq_iff_eq.mpr z)
        split
        · exact wpS_pure ⟨rfl,.inr ⟨_,_,_,_,_,rfl,bu,h1,by omega,by omega⟩⟩
        · exact wpS_pure ⟨rfl,_,_,_,_,_,rfl,bu,h1,by omega,by omega⟩
    | false =>
      rw [if_neg (by decide)]
      refine wpS_bind (cF ea ?_)
      (with_reducible conv => arg 5; whnf)
      have bu : MI κ a.toList b.toList (out.push xa).toList (ia + 1) ib := by
        rw [Array.toList_push]
        exact mi.nj (ga ea) fun z hz => KeyOrd.kle_trans aZ (kg sB (gb eb) z hz)
      by_cases hz : (ia + 1 + 1 == a.size) = true
      · rw [if_pos hz]
        exact wpS_pure ⟨rfl,.inl ⟨_,rfl,last bu (beq_iff_eq.mp hz)⟩⟩
      · rw [if_neg hz]
        have dZ : ia + 1 + 1 ≠ a.size := fun z => hz (beq_iff_eq.mpr z)
        split
        · exact wpS_pure ⟨rfl,.inr ⟨_,_,_,_,_,rfl,bu,by omega,h2,by omega⟩⟩
        · exact wpS_pure ⟨rfl,_,_,_,_,_,rfl,bu,by omega,h2,by omega⟩
  clear mi h1 h2 h3
  rintro c af ⟨rfl,⟨m,e,gd⟩ | ⟨out,ia,ib,ac,bc,rfl,mi,h1,h2,h3⟩⟩
  · obtain ⟨c1,c2⟩ := c
    simp only at e
    subst e
    (with_reducible conv => arg 5; whnf)
    (try dsimp -zeta only)
    exact wpS_pure ⟨⟨g,rfl⟩,m,rfl,gd⟩
  (with_reducible conv => arg 5; whnf)
  (try dsimp -zeta only)
  refine wpS_bind (wpS_lift (wpAny_rule ⟨rfl,?_⟩))
  (with_reducible conv => arg 5; whnf)
  refine wpS_bind (wpS_mono (wpS_forRange (I := fun q c af => (∃ g,af = cV st g) /\ ∃ out ia ib mg ac bc,c = (none,out,ia,ib,mg,ac,bc) /\ MI κ a.toList b.toList out.toList ia ib /\ ia + 1 < a.size /\ ib < b.size /\ t + 1 + q <= ia + ib)
    (Q := fun c af => (∃ g,af = cV st g) /\ ((∃ m,c.1 = some m /\ Gd κ a.toList b.toList m.toList) \/ ∃ out ia ib mg ac bc,c = (none,out,ia,ib,mg,ac,bc) /\ MI κ a.toList b.toList out.toList ia ib /\ ia + 1 < a.size /\ ib < b.size /\ t + 1 <= ia + ib)) ?_ ?_ ⟨⟨g,rfl⟩,out,ia,ib,_,ac,bc,rfl,mi,h1,h2,by omega⟩) ?_)
  rotate_left
  · rintro c af ⟨_,out,ia,ib,mg,ac,bc,rfl,mi,h1,h2,h3⟩
    omega
  · rintro c af ⟨⟨g,rfl⟩,⟨m,e,gd⟩ | ⟨out,ia,ib,mg,ac,bc,rfl,mi,h1,h2,h3⟩⟩
    · obtain ⟨c1,c2⟩ := c
      simp only at e
      subst e
      (with_reducible conv => arg 5; whnf)
      (try dsimp -zeta only)
      exact wpS_pure ⟨⟨g,rfl⟩,m,rfl,gd⟩
    · (with_reducible conv => arg 5; whnf)
      (try dsimp -zeta only)
      (with_reducible conv => arg 5; whnf)
      exact wpS_bind (wpS_modify (wpS_pure ⟨⟨_,rfl⟩,out,ia,ib,_,rfl,mi,h1,h2,h3⟩))
  clear mi h1 h2 h3
  rintro q c af _ hq ⟨⟨g,rfl⟩,out,ia,ib,mg,ac,bc,rfl,mi,h1,h2,h3⟩
  (extract_lets +onlyGivenNames -merge -underBinder PJ PK PL PN PQ PR PU PV PX PY Od; subst PJ PK PL PN PQ PR PU PV PX PY Od)
  (try dsimp -zeta only)
  extract_lets +onlyGivenNames -merge -underBinder Fl
  obtain ⟨jp,dI⟩ : ∃ z,z = Fl := ⟨Fl,rfl⟩
  rw [<- dI]
  suffices J : ∀ mg,wpS (model prog w) A E s (jp () mg) _ (cV st g) by
    (try dsimp -zeta only)
    split
    · (with_reducible conv => arg 5; whnf); exact J _
    · exact J _
  intro mg
  rw [dI]
  (try dsimp -zeta only)
  refine wpS_bind (wpS_modify ?_)
  obtain ⟨xb,eb,mb⟩ := dg h2
  refine wpS_bind (cF eb ?_)
  refine wpS_bind (vp C (key := xb) hk (kb _ mb) ka (by omega) (by omega) (fun i j bD hj => jN sa (by omega) (by omega)) fun k k1 k2 k3 => ?_)
  (try dsimp -zeta only)
  (try dsimp -zeta only)
  (rw [show k = id k from rfl]; extract_lets +onlyGivenNames -merge -underBinder Sx; subst Sx; (try dsimp -zeta only [id]))
  extract_lets +onlyGivenNames -merge -underBinder Fm
  obtain ⟨qO,ik⟩ : ∃ z,z = Fm := ⟨Fm,rfl⟩
  rw [<- ik]
  have sB := (cv.mp mi.y).2.1
  suffices J2 : ∀ (out : Array Keyed) (ia : Nat),MI κ a.toList b.toList out.toList ia ib -> ia + 1 < a.size -> t + 1 + q <= ia + ib -> κ.klt (kf κ xb) (kA κ a ia) -> wpS (model prog w) A E s (qO () out ia) _ (cV st mg) by
    by_cases iI : k > 0
    · rw [if_pos iI]
      (with_reducible conv => arg 5; whnf)
      have bu : MI κ a.toList b.toList (out ++ a.extract ia (ia + k)).toList (ia + k) ib := by
        rw [Array.toList_append,Em]
        refine mi.pL k fun x hx z hz => ?_
        obtain ⟨j,hj,ex⟩ := mem_mid hx
        have := k2 j hj
        rw [bw ex] at this
        exact KeyOrd.kle_trans this (kg sB (gb eb) z hz)
      by_cases hz : (ia + k + 1 == a.size) = true
      · rw [if_pos hz]
        exact wpS_pure ⟨⟨_,rfl⟩,.inl ⟨_,rfl,last bu (beq_iff_eq.mp hz)⟩⟩
      · rw [if_neg hz]
        have dZ : ia + k + 1 ≠ a.size := fun z => hz (beq_iff_eq.mpr z)
        by_cases hy : (ia + k == a.size) = true
        · rw [if_pos hy]
          have := beq_iff_eq.mp hy
          exact wpS_pure ⟨⟨_,rfl⟩,.inl ⟨_,rfl,by rw [dl]; exact bu.Sv (by omega)⟩⟩
        · rw [if_neg hy]
          have cD : ia + k ≠ a.size := fun z => hy (beq_iff_eq.mpr z)
          exact J2 _ _ bu (by omega) (by omega) (k3 k (Nat.le_refl _) (by omega))
    · rw [if_neg iI]
      exact J2 _ _ mi h1 h3 (k3 0 (by omega) (by omega))
  clear mi h1 h3 k1 k2 k3 sB
  intro out ia mi h1 h3 aZ
  rw [ik]
  (try dsimp -zeta only)
  obtain ⟨xa,ea,ma⟩ := dg (arr := a) (i := ia) (by omega)
  rw [bw ea] at aZ
  have sA := (cv.mp mi.x).2.1
  refine wpS_bind (cF eb ?_)
  (with_reducible conv => arg 5; whnf)
  have bu : MI κ a.toList b.toList (out.push xb).toList ia (ib + 1) := by
    rw [Array.toList_push]
    exact mi.nk (gb eb) fun z hz => KeyOrd.kle_trans (KeyOrd.kle_of_klt aZ) (kg sA (ga ea) z hz)
  by_cases hz : (ib + 1 == b.size) = true
  · rw [if_pos hz]
    have := beq_iff_eq.mp hz
    exact wpS_pure ⟨⟨_,rfl⟩,.inl ⟨_,rfl,by rw [dl]; exact bu.sP (by omega)⟩⟩
  rw [if_neg hz]
  have dZ : ib + 1 ≠ b.size := fun z => hz (beq_iff_eq.mpr z)
  refine wpS_bind (cF ea ?_)
  refine wpS_bind (vN C (key := xa) hk (ka _ ma) kb (by omega) (by omega) (fun i j bD hj => jN sb (by omega) (by omega)) fun k k1 k2 k3 => ?_)
  (try dsimp -zeta only)
  (try dsimp -zeta only)
  (rw [show k = id k from rfl]; extract_lets +onlyGivenNames -merge -underBinder Sy; subst Sy; (try dsimp -zeta only [id]))
  extract_lets +onlyGivenNames -merge -underBinder Fo
  obtain ⟨zv,p8⟩ : ∃ z,z = Fo := ⟨Fo,rfl⟩
  rw [<- p8]
  suffices J3 : ∀ (out : Array Keyed) (ib : Nat),MI κ a.toList b.toList out.toList ia ib -> ib < b.size -> t + 1 + q <= ia + ib -> κ.kle (kf κ xa) (kA κ b ib) -> wpS (model prog w) A E s (zv () out ib) _ (cV st mg) by
    by_cases iI : k > 0
    · rw [if_pos iI]
      (with_reducible conv => arg 5; whnf)
      have nW : MI κ a.toList b.toList (out.push xb ++ b.extract (ib + 1) (ib + 1 + k)).toList ia (ib + 1 + k) := by
        rw [Array.toList_append,Em]
        refine bu.pM k fun x hx z hz => ?_
        obtain ⟨j,hj,ex⟩ := mem_mid hx
        have := k2 j hj
        rw [bw ex] at this
        exact KeyOrd.kle_trans (KeyOrd.kle_of_klt this) (kg sA (ga ea) z hz)
      by_cases hy : (ib + 1 + k == b.size) = true
      · rw [if_pos hy]
        have := beq_iff_eq.mp hy
        exact wpS_pure ⟨⟨_,rfl⟩,.inl ⟨_,rfl,by rw [dl]; exact nW.sP (by omega)⟩⟩
      · rw [if_neg hy]
        have cD : ib + 1 + k ≠ b.size := fun z => hy (beq_iff_eq.mpr z)
        exact J3 _ _ nW (by omega) (by omega) (k3 k (Nat.le_refl _) (by omega))
    · rw [if_neg iI]
      exact J3 _ _ bu (by omega) (by omega) (k3 0 (by omega) (by omega))
  clear mi bu h2 h3 k1 k2 k3 sA hz dZ eb
  intro out ib mi h2 h3 hle
  rw [p8]
  (try dsimp -zeta only)
  obtain ⟨xc,ec,mc⟩ := dg h2
  rw [bw ec] at hle
  have sB := (cv.mp mi.y).2.1
  refine wpS_bind (cF ea ?_)
  (with_reducible conv => arg 5; whnf)
  have bu : MI κ a.toList b.toList (out.push xa).toList (ia + 1) ib := by
    rw [Array.toList_push]
    exact mi.nj (ga ea) fun z hz => KeyOrd.kle_trans hle (kg sB (gb ec) z hz)
  by_cases hz : (ia + 1 + 1 == a.size) = true
  · rw [if_pos hz]
    exact wpS_pure ⟨⟨_,rfl⟩,.inl ⟨_,rfl,last bu (beq_iff_eq.mp hz)⟩⟩
  · rw [if_neg hz]
    have dZ : ia + 1 + 1 ≠ a.size := fun z => hz (beq_iff_eq.mpr z)
    split
    · exact wpS_pure ⟨⟨_,rfl⟩,.inr ⟨_,_,_,_,_,_,rfl,bu,by omega,h2,by omega⟩⟩
    · exact wpS_pure ⟨⟨_,rfl⟩,_,_,_,_,_,_,rfl,bu,by omega,h2,by omega⟩
end
end So
namespace So
open PySem PyProof.Rows
structure MH (κ : KeyKind) (a b r : List Keyed) (na nb : Nat) : Prop where
  p : ((a.take na ++ b.take nb) ++ r).Perm (a ++ b)
  x : cZ κ (a.take na ++ r)
  y : cZ κ (b.take nb ++ r)
section
variable {κ : KeyKind} {a b r : List Keyed} {na nb : Nat}
theorem MH.pL (h : MH κ a b r na nb) (t : Nat) (ht : t <= na) (hl : ∀ x ∈ b.take nb,∀ y ∈ (a.take na).drop t,κ.kle (kf κ x) (kf κ y)) : MH κ a b ((a.take na).drop t ++ r) t nb := by
  have e : a.take t ++ (a.take na).drop t = a.take na := by
    have := List.take_append_drop t (a.take na)
    rwa [List.take_take,Nat.min_eq_left ht] at this
  have hx := h.x
  have hp := h.p
  have hy := cv.mp h.y
  generalize (a.take na).drop t = A2 at e hl
  rw [<- e] at hx hp
  rw [List.append_assoc] at hx
  have Yw := cv.mp hx
  refine ⟨List.Perm.trans ?_ hp,hx,cv.mpr ⟨hy.1,Yw.2.1,fun x fj y cD => ?_⟩⟩
  · generalize a.take t = A1
    generalize b.take nb = B
    rw [List.append_assoc,List.append_assoc A1 A2 B,List.append_assoc A1 (A2 ++ B) r]
    refine List.Perm.append_left _ ?_
    rw [<- List.append_assoc]
    exact List.Perm.append_right _ List.perm_append_comm
  · rcases List.mem_append.mp cD with z | z
    · exact hl x fj y z
    · exact hy.2.2 x fj y z
theorem MH.pM (h : MH κ a b r na nb) (t : Nat) (ht : t <= nb) (hl : ∀ x ∈ a.take na,∀ y ∈ (b.take nb).drop t,κ.kle (kf κ x) (kf κ y)) : MH κ a b ((b.take nb).drop t ++ r) na t := by
  have e : b.take t ++ (b.take nb).drop t = b.take nb := by
    have := List.take_append_drop t (b.take nb)
    rwa [List.take_take,Nat.min_eq_left ht] at this
  have hy := h.y
  have hp := h.p
  have hx := cv.mp h.x
  generalize (b.take nb).drop t = B2 at e hl
  rw [<- e] at hy hp
  rw [List.append_assoc] at hy
  have Yx := cv.mp hy
  refine ⟨?_,cv.mpr ⟨hx.1,Yx.2.1,fun x fj y cD => ?_⟩,hy⟩
  · rw [<- List.append_assoc,List.append_assoc (a.take na)]
    exact hp
  · rcases List.mem_append.mp cD with z | z
    · exact hl x fj y z
    · exact hx.2.2 x fj y z
theorem rE {l : List Keyed} {n : Nat} {x : Keyed} (e : l[n]? = some x) : (l.take (n + 1)).drop n = [x] := by
  obtain ⟨h1,rfl⟩ := List.getElem?_eq_some_iff.mp e
  rw [List.take_succ_eq_append_getElem h1,List.drop_append_of_le_length (by rw [List.length_take]; omega),List.drop_eq_nil_of_le (by rw [List.length_take]; omega),List.nil_append]
theorem MH.nj {y : Keyed} (h : MH κ a b r (na + 1) nb) (e : a[na]? = some y) (hl : ∀ z ∈ b.take nb,κ.kle (kf κ z) (kf κ y)) : MH κ a b (y :: r) na nb := by
  have := h.pL na (Nat.le_succ _) (by rw [rE e]; intro x hx z hz; rw [List.mem_singleton.mp hz]; exact hl x hx)
  rwa [rE e] at this
theorem MH.nk {y : Keyed} (h : MH κ a b r na (nb + 1)) (e : b[nb]? = some y) (hl : ∀ z ∈ a.take na,κ.kle (kf κ z) (kf κ y)) : MH κ a b (y :: r) na nb := by
  have := h.pM nb (Nat.le_succ _) (by rw [rE e]; intro x hx z hz; rw [List.mem_singleton.mp hz]; exact hl x hx)
  rwa [rE e] at this
theorem MH.done (h : MH κ a b r na nb) (hz : na = 0 \/ nb = 0) : Gd κ a b (a.take na ++ b.take nb ++ r) := by
  refine ⟨h.p,?_⟩
  rcases hz with rfl | rfl
  · rw [List.take_zero,List.nil_append]; exact h.y
  · rw [List.take_zero,List.append_nil]; exact h.x
theorem MH.first (h : MH κ a b r na nb) (hl : ∀ x ∈ b.take nb,∀ y ∈ a.take na,κ.kle (kf κ x) (kf κ y)) : Gd κ a b (b.take nb ++ a.take na ++ r) := by
  refine ⟨(List.Perm.append_right _ List.perm_append_comm).trans h.p,?_⟩
  have hy := cv.mp h.y
  rw [List.append_assoc]
  refine cv.mpr ⟨hy.1,h.x,fun x hx y cD => ?_⟩
  rcases List.mem_append.mp cD with z | z
  · exact hl x hx y z
  · exact hy.2.2 x hx y z
theorem kx {arr : Array Keyed} {n : Nat} {x : Keyed} (h : x ∈ arr.toList.take n) : ∃ j,j < n /\ arr[j]? = some x := by
  obtain ⟨m,hm,e⟩ := List.getElem_of_mem h
  rw [List.length_take] at hm
  refine ⟨m,by omega,?_⟩
  rw [<- Array.getElem?_toList,<- e,List.getElem_take,List.getElem?_eq_getElem]
theorem wY {arr : Array Keyed} {t n : Nat} {x : Keyed} (h : x ∈ (arr.toList.take n).drop t) : ∃ j,t <= j /\ j < n /\ arr[j]? = some x := by
  obtain ⟨m,hm,e⟩ := List.getElem_of_mem h
  rw [List.length_drop,List.length_take] at hm
  refine ⟨t + m,by omega,by omega,?_⟩
  rw [<- Array.getElem?_toList,<- e,List.getElem_drop,List.getElem_take,List.getElem?_eq_getElem]
theorem pA {α : Type} (a : Array α) (n : Nat) : (a.extract 0 n).toList = a.toList.take n := by
  rw [Array.toList_extract,List.extract_eq_take_drop,List.drop_zero,Nat.sub_zero]
theorem mZ {α : Type} (a : Array α) (t n : Nat) : (a.extract t n).toList = (a.toList.take n).drop t := by
  rw [Array.toList_extract,List.extract_eq_take_drop,List.drop_take]
end
section
variable {prog : Program} {w : World} {A : Around} {E : Value -> Shared -> Prop} {s : Shared} {kd : SortKind} {κ : KeyKind}
theorem PZ (C : gJ prog w A E s kd κ) {a b : Array Keyed} {st : SortSt} {Q : Array Keyed -> SortSt -> Prop} (hk : kindOf st = kd) (ka : Kd κ a.toList) (kb : Kd κ b.toList) (sa : cZ κ a.toList) (sb : cZ κ b.toList) (Yy : 0 < a.size) (nb0 : 0 < b.size)
    (h0 : ∀ x y,b[0]? = some x -> a[0]? = some y -> κ.kle (kf κ x) (kf κ y)) (hl : ∀ x ∈ b.toList,∀ y,a[a.size - 1]? = some y -> κ.kle (kf κ x) (kf κ y))
    (h : ∀ (m : Array Keyed) g,Gd κ a.toList b.toList m.toList -> Q m (cV st g)) : wpS (model prog w) A E s (Ys a b) Q st := by
  have la : a.toList.length = a.size := Array.length_toList
  have lb : b.toList.length = b.size := Array.length_toList
  have ga : ∀ {i x},a[i]? = some x -> a.toList[i]? = some x := fun {i x} e => by rw [Array.getElem?_toList]; exact e
  have gb : ∀ {i x},b[i]? = some x -> b.toList[i]? = some x := fun {i x} e => by rw [Array.getElem?_toList]; exact e
  have HN : ∀ {n j : Nat} {x y : Keyed},x ∈ a.toList.take n -> a[j]? = some y -> n <= j + 1 -> κ.kle (kf κ x) (kf κ y) := fun {n j x y} hx ey hn => by
    obtain ⟨i,hi,ex⟩ := kx hx
    have := jN (arr := a) (κ := κ) sa (i := i) (j := j) (by omega) (Array.getElem?_eq_some_iff.mp ey).1
    rwa [bw ex,bw ey] at this
  have HP : ∀ {n j : Nat} {x y : Keyed},x ∈ b.toList.take n -> b[j]? = some y -> n <= j + 1 -> κ.kle (kf κ x) (kf κ y) := fun {n j x y} hx ey hn => by
    obtain ⟨i,hi,ex⟩ := kx hx
    have := jN (arr := b) (κ := κ) sb (i := i) (j := j) (by omega) (Array.getElem?_eq_some_iff.mp ey).1
    rwa [bw ex,bw ey] at this
  have dl : ∀ (out : Array Keyed) na nb,(a.extract 0 na ++ b.extract 0 nb ++ out.reverse).toList = a.toList.take na ++ b.toList.take nb ++ out.toList.reverse := fun out na nb => by
    rw [Array.toList_append,Array.toList_append,pA,pA,Array.toList_reverse]
  have first : ∀ {out : Array Keyed} {na nb},MH κ a.toList b.toList out.toList.reverse na nb -> nb = 1 -> Gd κ a.toList b.toList (b.extract 0 nb ++ a.extract 0 na ++ out.reverse).toList := fun {out na nb} mi e => by
    rw [Array.toList_append,Array.toList_append,pA,pA,Array.toList_reverse]
    refine mi.first fun x hx y hy => ?_
    obtain ⟨i,hi,ex⟩ := kx hx
    have Yz : i = 0 := by omega
    subst Yz
    obtain ⟨j,hj,ey⟩ := kx hy
    obtain ⟨y0,f0,_⟩ := dg Yy
    have := jN (arr := a) (κ := κ) sa (i := 0) (j := j) (by omega) (Array.getElem?_eq_some_iff.mp ey).1
    rw [bw f0,bw ey] at this
    exact KeyOrd.kle_trans (h0 x y0 ex f0) this
  refine wpS_bind (wpS_lift (wpAny_rule ⟨rfl,?_⟩))
  (with_reducible conv => arg 5; whnf)
  obtain ⟨x0,e0,m0⟩ := dg (arr := a) (i := a.size - 1) (by omega)
  refine wpS_bind (cF e0 ?_)
  (with_reducible conv => arg 5; whnf)
  have qN : MH κ a.toList b.toList [x0] (a.size - 1) b.size := by
    have : MH κ a.toList b.toList [] (a.size - 1 + 1) b.size := by
      refine ⟨?_,?_,?_⟩
      · rw [List.append_nil,List.take_of_length_le (by omega),List.take_of_length_le (by omega)]
      · rw [List.append_nil,List.take_of_length_le (by omega)]; exact sa
      · rw [List.append_nil,List.take_of_length_le (by omega)]; exact sb
    exact this.nj (ga e0) fun z hz => hl z (List.mem_of_mem_take hz) x0 e0
  have yy : MH κ a.toList b.toList (#[x0] : Array Keyed).toList.reverse (a.size - 1) b.size := qN
  by_cases fK : (a.size - 1 == 0) = true
  · rw [if_pos fK]
    have := beq_iff_eq.mp fK
    exact wpS_pure (h _ (gallopOf st) (by rw [dl]; exact yy.done (.inl this)))
  rw [if_neg fK]
  have Tf : a.size - 1 ≠ 0 := fun z => fK (beq_iff_eq.mpr z)
  by_cases jB : (b.size == 1) = true
  · rw [if_pos jB]
    exact wpS_pure (h _ (gallopOf st) (first yy (beq_iff_eq.mp jB)))
  rw [if_neg jB]
  have Tg : b.size ≠ 1 := fun z => jB (beq_iff_eq.mpr z)
  refine wpS_bind (wpS_get ?_)
  (with_reducible conv => arg 5; whnf)
  generalize gallopOf st = Yv
  refine wpS_bind (wpS_mono (wpS_forRange (I := fun t c af => (∃ g,af = cV st g) /\ ∃ out na nb mg,c = (none,na,nb,out,mg) /\ MH κ a.toList b.toList out.toList.reverse na nb /\ 0 < na /\ 1 < nb /\ na <= a.size /\ nb <= b.size /\ na + nb + t <= a.size + b.size)
    (Q := fun c af => (∃ g,af = cV st g) /\ ∃ m,c.1 = some m /\ Gd κ a.toList b.toList m.toList) ?_ ?_ ⟨⟨gallopOf st,rfl⟩,_,_,_,_,rfl,yy,by omega,by omega,by omega,by omega,by omega⟩) ?_)
  rotate_left
  · rintro c af ⟨_,out,na,nb,mg,rfl,mi,h1,h2,h3,h4,h5⟩
    omega
  · rintro c af ⟨⟨g,rfl⟩,m,e,gd⟩
    dsimp only
    rw [e]
    exact wpS_pure (h m g gd)
  rintro t c af _ ht ⟨⟨g,rfl⟩,out,na,nb,mg,rfl,mi,h1,h2,h3,h4,h5⟩
  (with_reducible conv => arg 5; whnf)
  (try dsimp -zeta only)
  refine wpS_bind (wpS_mono (wpS_forRange (I := fun q c af => af = cV st g /\ ∃ out na nb ac bc,c = (none,na,nb,out,ac,bc) /\ MH κ a.toList b.toList out.toList.reverse na nb /\ 0 < na /\ 1 < nb /\ na <= a.size /\ nb <= b.size /\ na + nb + t + q <= a.size + b.size)
    (Q := fun c af => af = cV st g /\ ((∃ m,c.1 = some m /\ Gd κ a.toList b.toList m.toList) \/ ∃ out na nb ac bc,c = (none,na,nb,out,ac,bc) /\ MH κ a.toList b.toList out.toList.reverse na nb /\ 0 < na /\ 1 < nb /\ na <= a.size /\ nb <= b.size /\ na + nb + t + 1 <= a.size + b.size)) ?_ ?_ ⟨rfl,out,na,nb,0,0,rfl,mi,h1,h2,h3,h4,by omega⟩) ?_)
  rotate_left
  · rintro c af ⟨_,out,na,nb,ac,bc,rfl,mi,h1,h2,h3,h4,h5⟩
    omega
  rotate_left
  · clear mi h1 h2 h3 h4 h5
    rintro q c af _ hq ⟨rfl,out,na,nb,ac,bc,rfl,mi,h1,h2,h3,h4,h5⟩
    (with_reducible conv => arg 5; whnf)
    (try dsimp -zeta only)
    obtain ⟨na,rfl⟩ : ∃ n,na = n + 1 := ⟨na - 1,by omega⟩
    obtain ⟨nb,rfl⟩ : ∃ n,nb = n + 1 := ⟨nb - 1,by omega⟩
    obtain ⟨xb,eb,mb⟩ := dg (arr := b) (i := nb) (by omega)
    obtain ⟨xa,ea,ma⟩ := dg (arr := a) (i := na) (by omega)
    simp only [Nat.add_sub_cancel]
    refine wpS_bind (cF eb (wpS_bind (cF ea (wpS_bind (C.lt _ xb xa _ hk (kb _ mb) (ka _ ma) ?_)))))
    (try dsimp -zeta only)
    cases aZ : κ.blt (kf κ xb) (kf κ xa) with
    | true =>
      rw [if_pos rfl]
      (try dsimp -zeta only)
      refine wpS_bind (cF ea ?_)
      (try dsimp -zeta only)
      have bu : MH κ a.toList b.toList (out.push xa).toList.reverse na (nb + 1) := by
        rw [Array.toList_push,List.reverse_append]
        exact mi.nj (ga ea) fun z hz => KeyOrd.kle_trans (HP hz eb (Nat.le_refl _)) (KeyOrd.kle_of_klt aZ)
      by_cases hz : (na == 0) = true
      · rw [if_pos hz]
        exact wpS_pure ⟨rfl,.inl ⟨_,rfl,by rw [dl]; exact bu.done (.inl (beq_iff_eq.mp hz))⟩⟩
      · rw [if_neg hz]
        have dZ : na ≠ 0 := fun z => hz (beq_iff_eq.mpr z)
        split
        · exact wpS_pure ⟨rfl,.inr ⟨_,_,_,_,_,rfl,bu,by omega,by omega,by omega,by omega,by omega⟩⟩
        · exact wpS_pure ⟨rfl,_,_,_,_,_,rfl,bu,by omega,by omega,by omega,by omega,by omega⟩
    | false =>
      rw [if_neg (by decide)]
      (try dsimp -zeta only)
      refine wpS_bind (cF eb ?_)
      (try dsimp -zeta only)
      have bu : MH κ a.toList b.toList (out.push xb).toList.reverse (na + 1) nb := by
        rw [Array.toList_push,List.reverse_append]
        exact mi.nk (gb eb) fun z hz => KeyOrd.kle_trans (HN hz ea (Nat.le_refl _)) aZ
      by_cases hz : (nb == 1) = true
      · rw [if_pos hz]
        exact wpS_pure ⟨rfl,.inl ⟨_,rfl,first bu (beq_iff_eq.mp hz)⟩⟩
      · rw [if_neg hz]
        have dZ : nb ≠ 1 := fun z => hz (beq_iff_eq.mpr z)
        split
        · exact wpS_pure ⟨rfl,.inr ⟨_,_,_,_,_,rfl,bu,by omega,by omega,by omega,by omega,by omega⟩⟩
        · exact wpS_pure ⟨rfl,_,_,_,_,_,rfl,bu,by omega,by omega,by omega,by omega,by omega⟩
  clear mi h1 h2 h3 h4 h5
  rintro c af ⟨rfl,⟨m,e,gd⟩ | ⟨out,na,nb,ac,bc,rfl,mi,h1,h2,h3,h4,h5⟩⟩
  · obtain ⟨c1,c2⟩ := c
    simp only at e
    subst e
    (with_reducible conv => arg 5; whnf)
    (try dsimp -zeta only)
    exact wpS_pure ⟨⟨g,rfl⟩,m,rfl,gd⟩
  (with_reducible conv => arg 5; whnf)
  (try dsimp -zeta only)
  refine wpS_bind (wpS_lift (wpAny_rule ⟨rfl,?_⟩))
  (with_reducible conv => arg 5; whnf)
  refine wpS_bind (wpS_mono (wpS_forRange (I := fun q c af => (∃ g,af = cV st g) /\ ∃ out na nb mg ac bc,c = (none,na,nb,out,mg,ac,bc) /\ MH κ a.toList b.toList out.toList.reverse na nb /\ 0 < na /\ 1 < nb /\ na <= a.size /\ nb <= b.size /\ na + nb + t + 1 + q <= a.size + b.size)
    (Q := fun c af => (∃ g,af = cV st g) /\ ((∃ m,c.1 = some m /\ Gd κ a.toList b.toList m.toList) \/ ∃ out na nb mg ac bc,c = (none,na,nb,out,mg,ac,bc) /\ MH κ a.toList b.toList out.toList.reverse na nb /\ 0 < na /\ 1 < nb /\ na <= a.size /\ nb <= b.size /\ na + nb + t + 1 <= a.size + b.size)) ?_ ?_ ⟨⟨g,rfl⟩,out,na,nb,_,ac,bc,rfl,mi,h1,h2,h3,h4,by omega⟩) ?_)
  rotate_left
  · rintro c af ⟨_,out,na,nb,mg,ac,bc,rfl,mi,h1,h2,h3,h4,h5⟩
    omega
  · rintro c af ⟨⟨g,rfl⟩,⟨m,e,gd⟩ | ⟨out,na,nb,mg,ac,bc,rfl,mi,h1,h2,h3,h4,h5⟩⟩
    · obtain ⟨c1,c2⟩ := c
      simp only at e
      subst e
      (with_reducible conv => arg 5; whnf)
      (try dsimp -zeta only)
      exact wpS_pure ⟨⟨g,rfl⟩,m,rfl,gd⟩
    · (with_reducible conv => arg 5; whnf)
      (try dsimp -zeta only)
      (with_reducible conv => arg 5; whnf)
      exact wpS_bind (wpS_modify (wpS_pure ⟨⟨_,rfl⟩,out,na,nb,_,rfl,mi,h1,h2,h3,h4,h5⟩))
  clear mi h1 h2 h3 h4 h5
  rintro q c af _ hq ⟨⟨g,rfl⟩,out,na,nb,mg,ac,bc,rfl,mi,h1,h2,h3,h4,h5⟩
  (extract_lets +onlyGivenNames -merge -underBinder P0 P1 P2 P4 P5 P6 P7 P8 P9 Qa Oe; subst P0 P1 P2 P4 P5 P6 P7 P8 P9 Qa Oe)
  (try dsimp -zeta only)
  extract_lets +onlyGivenNames -merge -underBinder Fp
  obtain ⟨jp,dI⟩ : ∃ z,z = Fp := ⟨Fp,rfl⟩
  rw [<- dI]
  suffices J : ∀ mg,wpS (model prog w) A E s (jp () mg) _ (cV st g) by
    (try dsimp -zeta only)
    split
    · (with_reducible conv => arg 5; whnf); exact J _
    · exact J _
  intro mg
  rw [dI]
  (try dsimp -zeta only)
  refine wpS_bind (wpS_modify ?_)
  obtain ⟨xb,eb,mb⟩ := dg (arr := b) (i := nb - 1) (by omega)
  refine wpS_bind (cF eb ?_)
  refine wpS_bind (vp C (key := xb) hk (kb _ mb) ka (by omega) (by omega) (fun i j bD hj => jN sa (by omega) (by omega)) fun k k1 k2 k3 => ?_)
  simp only [Nat.zero_add] at k2 k3
  (try dsimp -zeta only)
  (try dsimp -zeta only)
  (extract_lets +onlyGivenNames -merge -underBinder Qb Qc; subst Qb Qc)
  extract_lets +onlyGivenNames -merge -underBinder Fq
  obtain ⟨qO,ik⟩ : ∃ z,z = Fq := ⟨Fq,rfl⟩
  rw [<- ik]
  suffices J2 : ∀ (na : Nat) (out : Array Keyed),MH κ a.toList b.toList out.toList.reverse na nb -> 0 < na -> na <= a.size -> na + nb + t + 1 + q <= a.size + b.size -> (∀ i,i < na -> κ.kle (kA κ a i) (kf κ xb)) -> wpS (model prog w) A E s (qO () na out) _ (cV st mg) by
    by_cases iI : na - k > 0
    · rw [if_pos iI]
      (with_reducible conv => arg 5; whnf)
      have bu : MH κ a.toList b.toList (out ++ (a.extract k na).reverse).toList.reverse k nb := by
        rw [Array.toList_append,Array.toList_reverse,List.reverse_append,List.reverse_reverse,mZ]
        refine mi.pL k (by omega) fun x hx y hy => ?_
        obtain ⟨j,j6,lA,ey⟩ := wY hy
        have := k3 j j6 lA
        rw [bw ey] at this
        exact KeyOrd.kle_trans (HP hx eb (by omega)) (KeyOrd.kle_of_klt this)
      by_cases hz : (k == 0) = true
      · rw [if_pos hz]
        exact wpS_pure ⟨⟨_,rfl⟩,.inl ⟨_,rfl,by rw [dl]; exact bu.done (.inl (beq_iff_eq.mp hz))⟩⟩
      · rw [if_neg hz]
        have dZ : k ≠ 0 := fun z => hz (beq_iff_eq.mpr z)
        exact J2 _ _ bu (by omega) (by omega) (by omega) k2
    · rw [if_neg iI]
      have : k = na := by omega
      subst this
      exact J2 _ _ mi h1 h3 (by omega) k2
  clear mi h1 h3 h5 k1 k2 k3
  intro na out mi h1 h3 h5 hle
  rw [ik]
  (with_reducible conv => arg 5; whnf)
  obtain ⟨nb,rfl⟩ : ∃ n,nb = n + 1 := ⟨nb - 1,by omega⟩
  simp -zeta only [Nat.add_sub_cancel] at eb ⊢
  refine wpS_bind (cF eb ?_)
  (with_reducible conv => arg 5; whnf)
  have bu : MH κ a.toList b.toList (out.push xb).toList.reverse na nb := by
    rw [Array.toList_push,List.reverse_append]
    refine mi.nk (gb eb) fun z hz => ?_
    obtain ⟨i,hi,ez⟩ := kx hz
    have := hle i hi
    rwa [bw ez] at this
  by_cases hz : (nb == 1) = true
  · rw [if_pos hz]
    exact wpS_pure ⟨⟨_,rfl⟩,.inl ⟨_,rfl,first bu (beq_iff_eq.mp hz)⟩⟩
  rw [if_neg hz]
  have dZ : nb ≠ 1 := fun z => hz (beq_iff_eq.mpr z)
  obtain ⟨xa,ea,ma⟩ := dg (arr := a) (i := na - 1) (by omega)
  refine wpS_bind (cF ea ?_)
  refine wpS_bind (vN C (key := xa) hk (ka _ ma) kb (by omega) (by omega) (fun i j bD hj => jN sb (by omega) (by omega)) fun k k1 k2 k3 => ?_)
  simp only [Nat.zero_add] at k2 k3
  (try dsimp -zeta only)
  (try dsimp -zeta only)
  (extract_lets +onlyGivenNames -merge -underBinder Qd Qe; subst Qd Qe)
  extract_lets +onlyGivenNames -merge -underBinder Fs
  obtain ⟨zv,p8⟩ : ∃ z,z = Fs := ⟨Fs,rfl⟩
  rw [<- p8]
  suffices J3 : ∀ (nb : Nat) (out : Array Keyed),MH κ a.toList b.toList out.toList.reverse na nb -> 1 < nb -> nb <= b.size -> na + nb + t + 1 + q + 1 <= a.size + b.size -> (∀ i,i < nb -> κ.kle (kA κ b i) (kf κ xa)) -> wpS (model prog w) A E s (zv () nb out) _ (cV st mg) by
    by_cases iI : nb - k > 0
    · rw [if_pos iI]
      (with_reducible conv => arg 5; whnf)
      have nW : MH κ a.toList b.toList (out.push xb ++ (b.extract k nb).reverse).toList.reverse na k := by
        rw [Array.toList_append,Array.toList_reverse,List.reverse_append,List.reverse_reverse,mZ]
        refine bu.pM k (by omega) fun x hx y hy => ?_
        obtain ⟨j,j6,lA,ey⟩ := wY hy
        have := k3 j j6 lA
        rw [bw ey] at this
        exact KeyOrd.kle_trans (HN hx ea (by omega)) this
      by_cases hy : (k == 1) = true
      · rw [if_pos hy]
        exact wpS_pure ⟨⟨_,rfl⟩,.inl ⟨_,rfl,first nW (beq_iff_eq.mp hy)⟩⟩
      · rw [if_neg hy]
        have cD : k ≠ 1 := fun z => hy (beq_iff_eq.mpr z)
        by_cases hx : (k == 0) = true
        · rw [if_pos hx]
          exact wpS_pure ⟨⟨_,rfl⟩,.inl ⟨_,rfl,by rw [dl]; exact nW.done (.inr (beq_iff_eq.mp hx))⟩⟩
        · rw [if_neg hx]
          have fj : k ≠ 0 := fun z => hx (beq_iff_eq.mpr z)
          exact J3 _ _ nW (by omega) (by omega) (by omega) fun i hi => KeyOrd.kle_of_klt (k2 i hi)
    · rw [if_neg iI]
      have : k = nb := by omega
      subst this
      exact J3 _ _ bu (by omega) (by omega) (by omega) fun i hi => KeyOrd.kle_of_klt (k2 i hi)
  clear mi bu h2 h4 h5 k1 k2 k3 hz dZ eb
  intro nb out mi h2 h4 h5 Th
  rw [p8]
  (with_reducible conv => arg 5; whnf)
  obtain ⟨na,rfl⟩ : ∃ n,na = n + 1 := ⟨na - 1,by omega⟩
  simp only [Nat.add_sub_cancel] at ea ⊢
  refine wpS_bind (cF ea ?_)
  (try dsimp -zeta only)
  have bu : MH κ a.toList b.toList (out.push xa).toList.reverse na nb := by
    rw [Array.toList_push,List.reverse_append]
    refine mi.nj (ga ea) fun z hz => ?_
    obtain ⟨i,hi,ez⟩ := kx hz
    have := Th i hi
    rwa [bw ez] at this
  by_cases hz : (na == 0) = true
  · rw [if_pos hz]
    exact wpS_pure ⟨⟨_,rfl⟩,.inl ⟨_,rfl,by rw [dl]; exact bu.done (.inl (beq_iff_eq.mp hz))⟩⟩
  · rw [if_neg hz]
    have dZ : na ≠ 0 := fun z => hz (beq_iff_eq.mpr z)
    split
    · exact wpS_pure ⟨⟨_,rfl⟩,.inr ⟨_,_,_,_,_,_,rfl,bu,by omega,h2,by omega,h4,by omega⟩⟩
    · exact wpS_pure ⟨⟨_,rfl⟩,_,_,_,_,_,_,rfl,bu,by omega,h2,by omega,h4,by omega⟩
end
end So
namespace So
open PySem PyProof.Rows
structure SB (kd : SortKind) (a0 : Array Keyed) (p : Array (Nat × Nat × Nat)) (lo : Nat) (x0 : Array Keyed) (st : SortSt) : Prop where
  perm : (arrOf st).Perm a0
  kind : kindOf st = kd
  fail : failedOf st = none
  pend : pendingOf st = p
  low : ∀ i,i < lo -> (arrOf st)[i]? = x0[i]?
def SS (κ : KeyKind) (xs : Array Keyed) (lo n : Nat) : Prop := ∀ i j,i <= j -> j < n -> κ.kle (kA κ xs (lo + i)) (kA κ xs (lo + j))
def DS (κ : KeyKind) (xs : Array Keyed) (lo n : Nat) : Prop := ∀ i j,i <= j -> j < n -> κ.kle (kA κ xs (lo + j)) (kA κ xs (lo + i))
section
variable {κ : KeyKind} {kd : SortKind} {a0 x0 : Array Keyed} {p : Array (Nat × Nat × Nat)} {lo : Nat} {st : SortSt}
theorem SB.size (h : SB kd a0 p lo x0 st) : (arrOf st).size = a0.size := h.perm.size_eq
theorem SB.set (h : SB kd a0 p lo x0 st) {xs : Array Keyed} (hp : xs.Perm (arrOf st)) (hl : ∀ i,i < lo -> xs[i]? = (arrOf st)[i]?) : SB kd a0 p lo x0 (setArr st xs) :=
  ⟨hp.trans h.perm,h.kind,h.fail,h.pend,fun i hi => (hl i hi).trans (h.low i hi)⟩
theorem SB.keys (h : SB kd a0 p lo x0 st) (k : Kd κ a0.toList) : Kd κ (arrOf st).toList := fun x hx => k x ((Array.perm_iff_toList_perm.mp h.perm).mem_iff.mp hx)
theorem kh {xs ys : Array Keyed} {i j : Nat} (e : xs[i]? = ys[j]?) : kA κ xs i = kA κ ys j := by unfold kA; rw [e]
theorem vq {xs : Array Keyed} {i j : Nat} (hj : j <= xs.size) (k : Nat) : kA κ (mirror xs i j ((j - i) / 2)) k = if i <= k /\ k < j then kA κ xs (i + j - 1 - k) else kA κ xs k := by
  have e := getElem?_mirror_all (i := i) hj k
  split
  · rename_i z; rw [if_pos z] at e; exact kh e
  · rename_i z; rw [if_neg z] at e; exact kh e
theorem rp {xs : Array Keyed} {i j : Nat} (hj : j <= xs.size) (k : Nat) (hk : k < i) : (mirror xs i j ((j - i) / 2))[k]? = xs[k]? := by
  rw [getElem?_mirror_all hj,if_neg (by omega)]
theorem oW {xs : Array Keyed} {i j : Nat} (hj : j <= xs.size) (he : ∀ k,i <= k -> k < j -> kA κ xs k = kA κ xs (j - 1)) (k : Nat) : kA κ (mirror xs i j ((j - i) / 2)) k = kA κ xs k := by
  rw [vq hj]
  split
  · rw [he _ (by omega) (by omega),he k (by omega) (by omega)]
  · rfl
theorem CY {xs : Array Keyed} {src d : Nat} (hs : src < xs.size) (hd : d <= src) (k : Nat) : kA κ (bubble xs src d) k = if k = src - d then kA κ xs src else if src - d < k /\ k <= src then kA κ xs (k - 1) else kA κ xs k := by
  have e := getElem?_bubble hs d hd k
  split
  · rename_i z; rw [if_pos z] at e; exact kh e
  · rename_i z
    rw [if_neg z] at e
    split
    · rename_i z2; rw [if_pos z2] at e; exact kh e
    · rename_i z2; rw [if_neg z2] at e; exact kh e
theorem MJ {xs : Array Keyed} {src d : Nat} (hs : src < xs.size) (hd : d <= src) (k : Nat) (hk : k < src - d) : (bubble xs src d)[k]? = xs[k]? := by
  rw [getElem?_bubble hs d hd,if_neg (by omega),if_neg (by omega)]
end
section
variable {prog : Program} {w : World} {A : Around} {E : Value -> Shared -> Prop} {s : Shared} {kd : SortKind} {κ : KeyKind} {a0 x0 : Array Keyed} {p : Array (Nat × Nat × Nat)} {lo : Nat}
theorem m4 (C : gJ prog w A E s kd κ) (k0 : Kd κ a0.toList) {st : SortSt} (hB : SB kd a0 p lo x0 st) {i j : Nat} {Q : Option Bool -> SortSt -> Prop} (hi : i < a0.size) (hj : j < a0.size) (h : Q (some (κ.blt (kA κ (arrOf st) i) (kA κ (arrOf st) j))) st) : wpS (model prog w) A E s (ltAt' i j) Q st := by
  obtain ⟨x,ex,mx⟩ := dg (arr := arrOf st) (i := i) (by rw [hB.size]; exact hi)
  obtain ⟨y,ey,my⟩ := dg (arr := arrOf st) (i := j) (by rw [hB.size]; exact hj)
  rw [bw ex,bw ey] at h
  rw [ltAt'_eq]
  refine wpS_bind (wpS_get ?_)
  show wpS _ _ _ _ (elem' (arrOf st) i >>= fun x => elem' (arrOf st) j >>= fun y => lt' x y) Q st
  exact wpS_bind (cF ex (wpS_bind (cF ey (C.lt st x y _ hB.kind (hB.keys k0 x mx) (hB.keys k0 y my) h))))
theorem Ft (C : gJ prog w A E s kd κ) (k0 : Kd κ a0.toList) {st : SortSt} (hB : SB kd a0 p lo x0 st) {n dh : Nat} (n1 : 1 <= n) (hn : n <= dh) (hr : lo + dh <= a0.size) (hs : SS κ (arrOf st) lo n)
    (f : Nat -> (Option (Option Nat) × Nat) -> SM (ForInStep (Option (Option Nat) × Nat)))
    (hf : ∀ (x n : Nat) (Q : ForInStep (Option (Option Nat) × Nat) -> SortSt -> Prop),1 <= n -> n < dh -> (κ.klt (kA κ (arrOf st) (lo + n)) (kA κ (arrOf st) (lo + n - 1)) -> Q (.done (none,n)) st) -> (κ.kle (kA κ (arrOf st) (lo + n - 1)) (kA κ (arrOf st) (lo + n)) -> Q (.yield (none,n + 1)) st) -> wpS (model prog w) A E s (f x (none,n)) Q st) :
    wpS (model prog w) A E s (forIn [n:dh] ((none,n) : Option (Option Nat) × Nat) f) (fun c af => af = st /\ ∃ m,c = (none,m) /\ n <= m /\ m <= dh /\ SS κ (arrOf st) lo m /\ (m = dh \/ κ.klt (kA κ (arrOf st) (lo + m)) (kA κ (arrOf st) (lo + m - 1)))) st := by
  refine wpS_forRange (I := fun t c af => af = st /\ c = (none,t) /\ SS κ (arrOf st) lo t) ?_ ?_ ⟨rfl,rfl,hs⟩
  · rintro t c af h1 h2 ⟨rfl,rfl,jC⟩
    refine hf t t _ (by omega) h2 (fun z => ⟨rfl,t,rfl,h1,by omega,jC,.inr z⟩) (fun z => ⟨rfl,rfl,fun i j bD hj => ?_⟩)
    by_cases e : j < t
    · exact jC i j bD e
    · have : j = t := by omega
      subst this
      by_cases e2 : i = j
      · subst e2; exact KeyOrd.kle_refl _
      · refine KeyOrd.kle_trans (jC i (j - 1) (by omega) (by omega)) ?_
        rw [show lo + (j - 1) = lo + j - 1 by omega]; exact z
  · rintro c af ⟨rfl,rfl,jC⟩
    rw [show max n dh = dh by omega] at jC ⊢
    exact ⟨rfl,dh,rfl,hn,Nat.le_refl _,jC,.inl rfl⟩
theorem Fu (C : gJ prog w A E s kd κ) (k0 : Kd κ a0.toList) {st : SortSt} (hB : SB kd a0 p lo x0 st) {dh : Nat} {Q : Option Nat -> SortSt -> Prop} (n1 : 1 <= dh) (hr : lo + dh <= a0.size)
    (h : ∀ m af,SB kd a0 p lo x0 af -> 1 <= m -> m <= dh -> SS κ (arrOf af) lo m -> Q (some m) af) : wpS (model prog w) A E s (countRun' lo dh) Q st := by
  have s1 : SS κ (arrOf st) lo 1 := fun i j bD hj => by
    have : i = j := by omega
    subst this
    exact KeyOrd.kle_refl _
  refine wpS_bind (wpS_mono (Ft C k0 hB (Nat.le_refl 1) n1 hr s1 _ fun x n Q h1 h2 q1 q2 => ?_) ?_)
  · (with_reducible conv => arg 5; whnf)
    refine wpS_bind (m4 C k0 hB (by omega) (by omega) ?_)
    (try dsimp -zeta only)
    cases e : κ.blt (kA κ (arrOf st) (lo + n)) (kA κ (arrOf st) (lo + n - 1)) with
    | true => rw [if_pos rfl]; exact wpS_pure (q1 e)
    | false => rw [if_neg (by decide)]; (with_reducible conv => arg 5; whnf); exact wpS_pure (q2 e)
  rintro c af ⟨rfl,n,rfl,m1,m2,hs,t4⟩
  (with_reducible conv => arg 5; whnf)
  (try dsimp -zeta only)
  by_cases hz : (n == dh) = true
  · rw [if_pos hz]
    exact wpS_pure (h n _ hB m1 m2 hs)
  rw [if_neg hz]
  have dZ : n ≠ dh := fun z => hz (beq_iff_eq.mpr z)
  have aZ := t4.resolve_left dZ
  extract_lets +onlyGivenNames -merge -underBinder GX
  obtain ⟨jp,dI⟩ : ∃ z,z = GX := ⟨GX,rfl⟩
  rw [<- dI]
  suffices J : ∀ st,SB kd a0 p lo x0 st -> DS κ (arrOf st) lo (n + 1) -> wpS (model prog w) A E s (jp ()) Q st by
    by_cases hg : n > 1
    · rw [if_pos hg]
      refine wpS_bind (m4 C k0 hB (by omega) (by omega) ?_)
      (try dsimp -zeta only)
      cases e : κ.blt (kA κ (arrOf af) lo) (kA κ (arrOf af) (lo + n - 1)) with
      | true => rw [if_pos rfl]; exact wpS_pure (h n _ hB m1 m2 hs)
      | false =>
        rw [if_neg (by decide)]
        have hsz : lo + n <= (arrOf af).size := by rw [hB.size]; omega
        have all : ∀ k,lo <= k -> k < lo + n -> kA κ (arrOf af) k = kA κ (arrOf af) (lo + n - 1) := fun k b1 b2 => by
          have c1 := hs 0 (k - lo) (by omega) (by omega)
          have c2 := hs (k - lo) (n - 1) (by omega) (by omega)
          rw [show lo + (k - lo) = k by omega] at c1 c2
          rw [show lo + (n - 1) = lo + n - 1 by omega] at c2
          exact KeyOrd.kle_antisymm c2 (KeyOrd.kle_trans (show κ.kle _ _ from e) c1)
        refine wpS_bind (wpS_modify (J _ (hB.set (mirror_perm _ _ _ _) fun i hi => rp hsz i hi) fun i j bD hj => ?_))
        show κ.kle (kA κ (mirror (arrOf af) _ _ _) _) (kA κ (mirror (arrOf af) _ _ _) _)
        rw [oW hsz all,oW hsz all]
        by_cases hjn : j < n
        · rw [all (lo + i) (by omega) (by omega),all (lo + j) (by omega) (by omega)]; exact KeyOrd.kle_refl _
        · have : j = n := by omega
          subst this
          by_cases e2 : i = j
          · subst e2; exact KeyOrd.kle_refl _
          · rw [all (lo + i) (by omega) (by omega)]; exact KeyOrd.kle_of_klt aZ
    · rw [if_neg hg]
      have : n = 1 := by omega
      subst this
      refine J _ hB fun i j bD hj => ?_
      by_cases e2 : i = j
      · subst e2; exact KeyOrd.kle_refl _
      · have i0 : i = 0 := by omega
        have j1 : j = 1 := by omega
        subst i0 j1
        exact KeyOrd.kle_of_klt aZ
  clear hs t4 aZ hB s1
  intro st hB hd
  rw [dI]
  (try dsimp -zeta only)
  refine wpS_bind (wpS_lift (wpAny_rule ⟨rfl,?_⟩))
  (with_reducible conv => arg 5; whnf)
  refine wpS_bind (wpS_mono (wpS_forRange (I := fun t c af => ∃ q,c = (none,t,q) /\ SB kd a0 p lo x0 af /\ DS κ (arrOf af) lo t /\ q + 1 <= t /\ ∀ i,t - (q + 1) <= i -> i < t -> kA κ (arrOf af) (lo + i) = kA κ (arrOf af) (lo + t - 1))
    (Q := fun c af => ∃ t q,c = (none,t,q) /\ 1 <= t /\ t <= dh /\ SB kd a0 p lo x0 af /\ DS κ (arrOf af) lo t /\ q + 1 <= t /\ ∀ i,t - (q + 1) <= i -> i < t -> kA κ (arrOf af) (lo + i) = kA κ (arrOf af) (lo + t - 1)) ?_ ?_ ⟨0,rfl,hB,hd,by omega,fun i b1 b2 => by rw [show lo + i = lo + (n + 1) - 1 by omega]⟩) ?_)
  · rintro t c af t1 t2 ⟨q,rfl,hB,hd,hq,he⟩
    have hsz : lo + t <= (arrOf af).size := by rw [hB.size]; omega
    (with_reducible conv => arg 5; whnf)
    (try dsimp -zeta only)
    refine wpS_bind (m4 C k0 hB (by omega) (by omega) ?_)
    (try dsimp -zeta only)
    extract_lets +onlyGivenNames -merge -underBinder Fv
    obtain ⟨j1,j6⟩ : ∃ z,z = Fv := ⟨Fv,rfl⟩
    rw [<- j6]
    cases e : κ.blt (kA κ (arrOf af) (lo + t)) (kA κ (arrOf af) (lo + t - 1)) with
    | true =>
      rw [if_pos rfl]
      extract_lets +onlyGivenNames -merge -underBinder Fw
      obtain ⟨j2,lA⟩ : ∃ z,z = Fw := ⟨Fw,rfl⟩
      rw [<- lA]
      have step : ∀ xs : Array Keyed,(∀ k,kA κ xs k = kA κ (arrOf af) k) -> DS κ xs lo (t + 1) := fun xs hk i j bD hj => by
        rw [hk,hk]
        by_cases zC : j < t
        · exact hd i j bD zC
        · have : j = t := by omega
          subst this
          by_cases e2 : i = j
          · subst e2; exact KeyOrd.kle_refl _
          · refine KeyOrd.kle_trans (KeyOrd.kle_of_klt e) ?_
            have := hd i (j - 1) (by omega) (by omega)
            rwa [show lo + (j - 1) = lo + j - 1 by omega] at this
      have nX : ∀ k,lo + t - (q + 1) <= k -> k < lo + t -> kA κ (arrOf af) k = kA κ (arrOf af) (lo + t - 1) := fun k b1 b2 => by
        have := he (k - lo) (by omega) (by omega)
        rwa [show lo + (k - lo) = k by omega] at this
      split
      · refine wpS_bind (wpS_modify ?_)
        rw [lA]
        (with_reducible conv => arg 5; whnf)
        rw [j6]
        (with_reducible conv => arg 5; whnf)
        exact wpS_pure ⟨0,rfl,hB.set (mirror_perm _ _ _ _) fun i hi => rp hsz i (by omega),step _ (oW hsz nX),by omega,fun i b1 b2 => by rw [show lo + i = lo + (t + 1) - 1 by omega]⟩
      · rw [lA]
        (with_reducible conv => arg 5; whnf)
        rw [j6]
        (with_reducible conv => arg 5; whnf)
        exact wpS_pure ⟨0,rfl,hB,step _ (fun _ => rfl),by omega,fun i b1 b2 => by rw [show lo + i = lo + (t + 1) - 1 by omega]⟩
    | false =>
      rw [if_neg (by decide)]
      refine wpS_bind (m4 C k0 hB (by omega) (by omega) ?_)
      (try dsimp -zeta only)
      cases e2 : κ.blt (kA κ (arrOf af) (lo + t - 1)) (kA κ (arrOf af) (lo + t)) with
      | true =>
        rw [if_pos rfl]
        exact wpS_pure ⟨t,q,rfl,by omega,by omega,hB,hd,hq,he⟩
      | false =>
        rw [if_neg (by decide)]
        (with_reducible conv => arg 5; whnf)
        rw [j6]
        (with_reducible conv => arg 5; whnf)
        have eq : kA κ (arrOf af) (lo + t) = kA κ (arrOf af) (lo + t - 1) := KeyOrd.kle_antisymm e2 e
        refine wpS_pure ⟨q + 1,rfl,hB,fun i j bD hj => ?_,by omega,fun i b1 b2 => ?_⟩
        · by_cases zC : j < t
          · exact hd i j bD zC
          · have : j = t := by omega
            subst this
            by_cases e3 : i = j
            · subst e3; exact KeyOrd.kle_refl _
            · rw [eq]
              have := hd i (j - 1) (by omega) (by omega)
              rwa [show lo + (j - 1) = lo + j - 1 by omega] at this
        · rw [show lo + (t + 1) - 1 = lo + t by omega]
          by_cases hit : i = t
          · subst hit; rfl
          · rw [eq]; exact he i (by omega) (by omega)
  · rintro c af ⟨q,rfl,hB,hd,hq,he⟩
    rw [show max (n + 1) dh = dh by omega] at hd hq he ⊢
    exact ⟨dh,q,rfl,by omega,Nat.le_refl _,hB,hd,hq,he⟩
  clear hB hd
  rintro c af ⟨t,q,rfl,t1,t2,hB,hd,hq,he⟩
  have hsz : lo + t <= (arrOf af).size := by rw [hB.size]; omega
  (extract_lets +onlyGivenNames -merge -underBinder Qf Qg Qh Qi; subst Qf Qg Qh Qi)
  (try dsimp -zeta only)
  extract_lets +onlyGivenNames -merge -underBinder Fx
  obtain ⟨j3,JE⟩ : ∃ z,z = Fx := ⟨Fx,rfl⟩
  rw [<- JE]
  suffices J3 : ∀ st,SB kd a0 p lo x0 st -> DS κ (arrOf st) lo t -> wpS (model prog w) A E s (j3 ()) Q st by
    split
    · have nX : ∀ k,lo + t - (q + 1) <= k -> k < lo + t -> kA κ (arrOf af) k = kA κ (arrOf af) (lo + t - 1) := fun k b1 b2 => by
        have := he (k - lo) (by omega) (by omega)
        rwa [show lo + (k - lo) = k by omega] at this
      refine wpS_bind (wpS_modify (J3 _ (hB.set (mirror_perm _ _ _ _) fun i hi => rp hsz i (by omega)) fun i j bD hj => ?_))
      show κ.kle (kA κ (mirror (arrOf af) _ _ _) _) (kA κ (mirror (arrOf af) _ _ _) _)
      rw [oW hsz nX,oW hsz nX]
      exact hd i j bD hj
    · exact J3 _ hB hd
  clear hB hd he hsz
  intro st hB hd
  rw [JE]
  (try dsimp -zeta only)
  have hsz : lo + t <= (arrOf st).size := by rw [hB.size]; omega
  refine wpS_bind (wpS_modify ?_)
  have iJ : SB kd a0 p lo x0 (setArr st (mirror (arrOf st) lo (lo + t) ((lo + t - lo) / 2))) := hB.set (mirror_perm _ _ _ _) fun i hi => rp hsz i hi
  refine wpS_bind (wpS_mono (Ft C k0 iJ t1 t2 hr (fun i j bD hj => ?_) _ fun x n Q h1 h2 q1 q2 => ?_) ?_)
  · show κ.kle (kA κ (mirror (arrOf st) _ _ _) _) (kA κ (mirror (arrOf st) _ _ _) _)
    rw [vq hsz,vq hsz,if_pos (by omega),if_pos (by omega)]
    have := hd (t - 1 - j) (t - 1 - i) (by omega) (by omega)
    rwa [show lo + (t - 1 - i) = lo + (lo + t) - 1 - (lo + i) by omega,show lo + (t - 1 - j) = lo + (lo + t) - 1 - (lo + j) by omega] at this
  · (with_reducible conv => arg 5; whnf)
    refine wpS_bind (m4 C k0 iJ (by omega) (by omega) ?_)
    (try dsimp -zeta only)
    cases e : κ.blt (kA κ (arrOf (setArr st (mirror (arrOf st) lo (lo + t) ((lo + t - lo) / 2)))) (lo + n)) (kA κ (arrOf (setArr st (mirror (arrOf st) lo (lo + t) ((lo + t - lo) / 2)))) (lo + n - 1)) with
    | true => rw [if_pos rfl]; exact wpS_pure (q1 e)
    | false => rw [if_neg (by decide)]; (with_reducible conv => arg 5; whnf); exact wpS_pure (q2 e)
  · rintro c af ⟨rfl,m,rfl,b1,b2,hs,_⟩
    (with_reducible conv => arg 5; whnf)
    (try dsimp -zeta only)
    exact wpS_pure (h m _ iJ (by omega) b2 hs)
end
end So
namespace So
open PySem PyProof.Rows
section
variable {prog : Program} {w : World} {A : Around} {E : Value -> Shared -> Prop} {s : Shared} {kd : SortKind} {κ : KeyKind} {a0 x0 : Array Keyed} {p : Array (Nat × Nat × Nat)} {lo : Nat}
theorem Fy (C : gJ prog w A E s kd κ) (k0 : Kd κ a0.toList) {st : SortSt} (hB : SB kd a0 p lo x0 st) {n ok : Nat} {Q : Bool -> SortSt -> Prop} (hn : lo + n <= a0.size) (ay : ok <= n) (hs : SS κ (arrOf st) lo ok)
    (h : ∀ af,SB kd a0 p lo x0 af -> SS κ (arrOf af) lo n -> Q true af) : wpS (model prog w) A E s (binarySort' lo n ok) Q st := by
  refine wpS_bind (wpS_mono (wpS_forRange (I := fun t c af => c = (none,()) /\ SB kd a0 p lo x0 af /\ SS κ (arrOf af) lo (min t n))
    (Q := fun c af => c = (none,()) /\ SB kd a0 p lo x0 af /\ SS κ (arrOf af) lo n) ?_ ?_ ⟨rfl,hB,fun i j bD hj => ?_⟩) ?_)
  · rintro t c af t1 t2 ⟨rfl,hB,hs⟩
    rw [show min t n = t by omega] at hs
    (with_reducible conv => arg 5; whnf)
    refine wpS_bind (wpS_mono (wpS_forRange (I := fun x c aG => aG = af /\ ∃ l r,c = (none,l,r) /\ l <= r /\ r <= t /\ r - l <= t - x /\ (∀ i,i < l -> κ.kle (kA κ (arrOf af) (lo + i)) (kA κ (arrOf af) (lo + t))) /\ (∀ i,r <= i -> i < t -> κ.klt (kA κ (arrOf af) (lo + t)) (kA κ (arrOf af) (lo + i))))
      (Q := fun c aG => aG = af /\ ∃ l,c = (none,l,l) /\ l <= t /\ (∀ i,i < l -> κ.kle (kA κ (arrOf af) (lo + i)) (kA κ (arrOf af) (lo + t))) /\ (∀ i,l <= i -> i < t -> κ.klt (kA κ (arrOf af) (lo + t)) (kA κ (arrOf af) (lo + i)))) ?_ ?_ ⟨rfl,0,t,rfl,by omega,by omega,by omega,fun i z => by omega,fun i z1 z2 => by omega⟩) ?_)
    · rintro x c aG _ hx ⟨rfl,l,r,rfl,a1,a2,a3,a4,a5⟩
      (with_reducible conv => arg 5; whnf)
      (try dsimp -zeta only)
      by_cases hg : l >= r
      · rw [if_pos hg]
        have : l = r := by omega
        subst this
        exact wpS_pure ⟨rfl,l,rfl,a2,a4,a5⟩
      · rw [if_neg hg]
        (with_reducible conv => arg 5; whnf)
        refine wpS_bind (m4 C k0 hB (by omega) (by omega) ?_)
        (try dsimp -zeta only)
        cases e : κ.blt (kA κ (arrOf aG) (lo + t)) (kA κ (arrOf aG) (lo + (l + r) / 2)) with
        | true =>
          rw [if_pos rfl]
          (with_reducible conv => arg 5; whnf)
          exact wpS_pure ⟨rfl,l,(l + r) / 2,rfl,by omega,by omega,by omega,a4,fun i z1 z2 => KeyOrd.klt_of_klt_of_kle e (hs _ _ z1 z2)⟩
        | false =>
          rw [if_neg (by decide)]
          (with_reducible conv => arg 5; whnf)
          exact wpS_pure ⟨rfl,(l + r) / 2 + 1,r,rfl,by omega,by omega,by omega,fun i z => KeyOrd.kle_trans (hs i ((l + r) / 2) (by omega) (by omega)) e,a5⟩
    · rintro c aG ⟨rfl,l,r,rfl,a1,a2,a3,a4,a5⟩
      have : l = r := by omega
      subst this
      exact ⟨rfl,l,rfl,a2,a4,a5⟩
    · rintro c aG ⟨rfl,l,rfl,a2,a4,a5⟩
      (with_reducible conv => arg 5; whnf)
      (try dsimp -zeta only)
      have hsz : lo + t < (arrOf aG).size := by rw [hB.size]; omega
      refine wpS_bind (wpS_modify (wpS_pure ⟨rfl,hB.set (bubble_perm _ _ _) fun i hi => MJ hsz (by omega) i (by omega),?_⟩))
      rw [show min (t + 1) n = t + 1 by omega]
      intro i j bD hj
      show κ.kle (kA κ (bubble (arrOf aG) (lo + t) (lo + t - (lo + l))) _) (kA κ (bubble (arrOf aG) (lo + t) (lo + t - (lo + l))) _)
      rw [CY hsz (by omega),CY hsz (by omega),show lo + t - (lo + t - (lo + l)) = lo + l by omega]
      repeat' split
      all_goals first
        | (exfalso; omega)
        | exact KeyOrd.kle_refl _
        | exact a4 _ (by omega)
        | exact hs _ _ (by omega) (by omega)
        | (have z := a5 (j - 1) (by omega) (by omega); rw [show lo + (j - 1) = lo + j - 1 by omega] at z; exact KeyOrd.kle_of_klt z)
        | (have z := hs (i - 1) (j - 1) (by omega) (by omega); rw [show lo + (i - 1) = lo + i - 1 by omega,show lo + (j - 1) = lo + j - 1 by omega] at z; exact z)
        | (have z := hs i (j - 1) (by omega) (by omega); rw [show lo + (j - 1) = lo + j - 1 by omega] at z; exact z)
  · rintro c af ⟨rfl,hB,hs⟩
    rw [show min (max (max ok 1) n) n = n by omega] at hs
    exact ⟨rfl,hB,hs⟩
  · by_cases e : ok = 0
    · have : i = j := by omega
      subst this; exact KeyOrd.kle_refl _
    · exact hs i j bD (by omega)
  · rintro c af ⟨rfl,hB,hs⟩
    (with_reducible conv => arg 5; whnf)
    (try dsimp -zeta only)
    exact wpS_pure (h af hB hs)
theorem Dx {α : Type} (sa : Nat) : ∀ (m : List α) (k : Nat) (xs : Array α),sa + k + m.length <= xs.size -> ((m.zipIdx k).foldl (fun a x => a.setIfInBounds (sa + x.2) x.1) xs).toList = xs.toList.take (sa + k) ++ m ++ xs.toList.drop (sa + k + m.length)
  | [],k,xs,h => by
    rw [List.zipIdx_nil,List.foldl_nil,List.append_nil,List.length_nil,Nat.add_zero,List.take_append_drop]
  | x :: m,k,xs,h => by
    rw [List.length_cons] at h
    rw [List.zipIdx_cons,List.foldl_cons,Dx sa m (k + 1) _ (by rw [Array.size_setIfInBounds]; omega),Array.toList_setIfInBounds]
    have hl : sa + k < xs.toList.length := by rw [Array.length_toList]; omega
    rw [show sa + (k + 1) = sa + k + 1 by omega,List.take_succ_eq_append_getElem (by rw [List.length_set]; exact hl),List.getElem_set_self,List.take_set_of_le (Nat.le_refl _),List.drop_set_of_lt (by omega),List.length_cons,show sa + k + 1 + m.length = sa + k + (m.length + 1) by omega]
    simp
theorem mM {arr : Array Keyed} {x : Keyed} {i n : Nat} (h : x ∈ (arr.extract i n).toList) : ∃ j,i <= j /\ j < n /\ arr[j]? = some x := by
  rw [mZ] at h
  exact wY h
theorem r6 {arr : Array Keyed} {i n : Nat} (h : ∀ a b,i <= a -> a <= b -> b < n -> κ.kle (kA κ arr a) (kA κ arr b)) (hn : n <= arr.size) : cZ κ (arr.extract i n).toList := by
  unfold cZ
  rw [List.pairwise_iff_getElem]
  intro a b ha hb nQ
  have get : ∀ c (hc : c < (arr.extract i n).toList.length),arr[i + c]? = some ((arr.extract i n).toList[c]) := fun c hc => by
    have e1 : (arr.extract i n).toList[c]? = some ((arr.extract i n).toList[c]) := List.getElem?_eq_getElem hc
    have e3 : c < (arr.extract i n).size := by rw [<- Array.length_toList]; exact hc
    rw [Array.size_extract] at e3
    rw [<- e1,mZ,List.getElem?_drop,List.getElem?_take,if_pos (by omega),Array.getElem?_toList]
  have lb : b < (arr.extract i n).size := by rw [<- Array.length_toList]; exact hb
  rw [Array.size_extract] at lb
  have := h (i + a) (i + b) (by omega) (by omega) (by omega)
  rwa [bw (get a ha),bw (get b hb)] at this
end
end So
namespace So
open PySem PyProof.Rows
section
variable {prog : Program} {w : World} {A : Around} {E : Value -> Shared -> Prop} {s : Shared} {kd : SortKind} {κ : KeyKind} {a0 x0 : Array Keyed}
theorem Ep {arr : Array Keyed} {n1 n : Nat} (h1 : SS κ arr 0 n1) (h2 : SS κ arr n1 (n - n1)) (h : ∀ i j,i < n1 -> n1 <= j -> j < n -> κ.kle (kA κ arr i) (kA κ arr j)) : ∀ i j,i <= j -> j < n -> κ.kle (kA κ arr i) (kA κ arr j) := fun i j bD hj => by
  by_cases z1 : j < n1
  · have := h1 i j bD z1
    rwa [Nat.zero_add,Nat.zero_add] at this
  · by_cases z2 : i < n1
    · exact h i j z2 (by omega) hj
    · have := h2 (i - n1) (j - n1) (by omega) (by omega)
      rwa [show n1 + (i - n1) = i by omega,show n1 + (j - n1) = j by omega] at this
structure yz (kd : SortKind) (κ : KeyKind) (a0 : Array Keyed) (st : SortSt) : Prop where
  perm : (arrOf st).Perm a0
  fail : failedOf st = none
  one : (pendingOf st).size = 1
  qM : ∀ i j,i <= j -> j < a0.size -> κ.kle (kA κ (arrOf st) i) (kA κ (arrOf st) j)
theorem Mj (C : gJ prog w A E s kd κ) (k0 : Kd κ a0.toList) {st : SortSt} {n1 pw q : Nat} (hB : SB kd a0 #[(0,n1,pw),(n1,a0.size - n1,q)] 0 x0 st) {Q : Bool -> SortSt -> Prop} (h1 : 1 <= n1) (h2 : n1 < a0.size) (s1 : SS κ (arrOf st) 0 n1) (s2 : SS κ (arrOf st) n1 (a0.size - n1))
    (h : ∀ af,yz kd κ a0 af -> Q true af) : wpS (model prog w) A E s (mergeAt' 0) Q st := by
  have sz := hB.size
  have kk := hB.keys k0
  refine wpS_bind (wpS_get ?_)
  (try dsimp -zeta only)
  have e0 : (pendingOf st)[0]? = some (0,n1,pw) := by rw [hB.pend]; rfl
  have e1 : (pendingOf st)[0 + 1]? = some (n1,a0.size - n1,q) := by rw [hB.pend]; rfl
  obtain ⟨P,eP,hP⟩ : ∃ P,((pendingOf st).setIfInBounds 0 (0,n1 + (a0.size - n1),pw)).eraseIdxIfInBounds (0 + 1) = P /\ P.size = 1 := ⟨_,rfl,by rw [hB.pend]; simp [Array.eraseIdxIfInBounds]⟩
  show wpS (model prog w) A E s (match ((pendingOf st)[0]?,(pendingOf st)[0 + 1]?) with | _ => _) Q st
  rw [e0,e1]
  (try dsimp -zeta only)
  refine wpS_bind ?_
  show wpS (model prog w) A E s (set (SortSt.mk' (kindOf st) (arrOf st) (((pendingOf st).setIfInBounds 0 (0,n1 + (a0.size - n1),pw)).eraseIdxIfInBounds (0 + 1)) (gallopOf st) (failedOf st))) _ st
  rw [eP]
  unfold wpS
  rw [StateT.run_set]
  refine wpAny_pure ⟨rfl,?_⟩
  show wpS (model prog w) A E s _ Q (SortSt.mk' (kindOf st) (arrOf st) P (gallopOf st) (failedOf st))
  obtain ⟨xb,eb,mb⟩ := dg (arr := arrOf st) (i := n1) (by omega)
  refine wpS_bind (cF eb ?_)
  refine wpS_bind (vp C (arr := arrOf st) (key := xb) hB.kind (kk _ mb) kk (by omega) (by omega) (fun i j bD hj => s1 i j bD hj) fun k k1 k2 k3 => ?_)
  simp only [Nat.zero_add] at k2 k3
  (try dsimp -zeta only)
  have up : ∀ i j,n1 <= i -> i <= j -> j < a0.size -> κ.kle (kA κ (arrOf st) i) (kA κ (arrOf st) j) := fun i j z1 z2 z3 => by
    have := s2 (i - n1) (j - n1) (by omega) (by omega)
    rwa [show n1 + (i - n1) = i by omega,show n1 + (j - n1) = j by omega] at this
  have dn : ∀ i j,i <= j -> j < n1 -> κ.kle (kA κ (arrOf st) i) (kA κ (arrOf st) j) := fun i j z1 z2 => by
    have := s1 i j z1 z2
    rwa [Nat.zero_add,Nat.zero_add] at this
  by_cases hz : (n1 - k == 0) = true
  · rw [if_pos hz]
    have dZ := beq_iff_eq.mp hz
    refine wpS_pure (h _ ⟨hB.perm,hB.fail,hP,Ep s1 s2 fun i j z1 z2 z3 => ?_⟩)
    have := k2 i (by omega)
    rw [<- bw (κ := κ) eb] at this
    exact KeyOrd.kle_trans this (up n1 j (Nat.le_refl _) z2 z3)
  rw [if_neg hz]
  have dZ : n1 - k ≠ 0 := fun z => hz (beq_iff_eq.mpr z)
  obtain ⟨xa,ea,ma⟩ := dg (arr := arrOf st) (i := 0 + k + (n1 - k) - 1) (by omega)
  refine wpS_bind (cF ea ?_)
  rw [show 0 + k + (n1 - k) - 1 = n1 - 1 by omega] at ea
  refine wpS_bind (vN C (arr := arrOf st) (key := xa) hB.kind (kk _ ma) kk (by omega) (by omega) (fun i j bD hj => s2 i j bD hj) fun l l1 l2 l3 => ?_)
  (try dsimp -zeta only)
  by_cases hy : (l == 0) = true
  · rw [if_pos hy]
    have cD := beq_iff_eq.mp hy
    refine wpS_pure (h _ ⟨hB.perm,hB.fail,hP,Ep s1 s2 fun i j z1 z2 z3 => ?_⟩)
    have := l3 (j - n1) (by omega) (by omega)
    rw [<- bw (κ := κ) ea,show n1 + (j - n1) = j by omega] at this
    exact KeyOrd.kle_trans (dn i (n1 - 1) (by omega) (by omega)) this
  rw [if_neg hy]
  have cD : l ≠ 0 := fun z => hy (beq_iff_eq.mpr z)
  (extract_lets +onlyGivenNames -merge -underBinder Rv Rw; subst Rv Rw)
  extract_lets +onlyGivenNames -merge -underBinder xH
  obtain ⟨jp,dI⟩ : ∃ z,z = xH := ⟨xH,rfl⟩
  rw [<- dI]
  unfold xH at dI
  rw [Nat.zero_add] at dI ⊢
  have sA : cZ κ ((arrOf st).extract k n1).toList := r6 (fun a b z1 z2 z3 => dn a b z2 z3) (by omega)
  have sB : cZ κ ((arrOf st).extract n1 (n1 + l)).toList := r6 (fun a b z1 z2 z3 => up a b z1 z2 (by omega)) (by omega)
  have JF : Kd κ ((arrOf st).extract k n1).toList := fun x hx => by
    obtain ⟨j,_,_,e⟩ := mM hx
    exact kk x (by have := List.mem_of_getElem? (by rw [Array.getElem?_toList]; exact e : (arrOf st).toList[j]? = some x); exact this)
  have JG : Kd κ ((arrOf st).extract n1 (n1 + l)).toList := fun x hx => by
    obtain ⟨j,_,_,e⟩ := mM hx
    exact kk x (by have := List.mem_of_getElem? (by rw [Array.getElem?_toList]; exact e : (arrOf st).toList[j]? = some x); exact this)
  have zA : ((arrOf st).extract k n1).size = n1 - k := by rw [Array.size_extract]; omega
  have zB : ((arrOf st).extract n1 (n1 + l)).size = l := by rw [Array.size_extract]; omega
  have gA : ∀ i,i < n1 - k -> ((arrOf st).extract k n1)[i]? = (arrOf st)[k + i]? := fun i hi => by rw [Array.getElem?_extract,if_pos (by omega)]
  have gB : ∀ i,i < l -> ((arrOf st).extract n1 (n1 + l))[i]? = (arrOf st)[n1 + i]? := fun i hi => by rw [Array.getElem?_extract,if_pos (by omega)]
  have first : ∀ x y,((arrOf st).extract n1 (n1 + l))[0]? = some x -> ((arrOf st).extract k n1)[0]? = some y -> κ.kle (kf κ x) (kf κ y) := fun x y ex ey => by
    rw [gB 0 (by omega)] at ex
    rw [gA 0 (by omega)] at ey
    have := k3 k (Nat.le_refl _) (by omega)
    rw [<- bw (κ := κ) eb] at this
    rw [<- bw (κ := κ) ex,<- bw (κ := κ) ey]
    exact KeyOrd.kle_of_klt this
  have last : ∀ x ∈ ((arrOf st).extract n1 (n1 + l)).toList,∀ y,((arrOf st).extract k n1)[((arrOf st).extract k n1).size - 1]? = some y -> κ.kle (kf κ x) (kf κ y) := fun x hx y ey => by
    obtain ⟨j,j1,j2,e⟩ := mM hx
    rw [zA,gA _ (by omega),show k + (n1 - k - 1) = n1 - 1 by omega,ea] at ey
    cases ey
    have := l2 (j - n1) (by omega)
    rw [show n1 + (j - n1) = j by omega,bw e] at this
    exact KeyOrd.kle_of_klt this
  suffices J : ∀ (m : Array Keyed) g,Gd κ ((arrOf st).extract k n1).toList ((arrOf st).extract n1 (n1 + l)).toList m.toList -> wpS (model prog w) A E s (jp m) Q (cV (SortSt.mk' (kindOf st) (arrOf st) P (gallopOf st) (failedOf st)) g) by
    split
    · exact wpS_bind (PH C (a := (arrOf st).extract k n1) (b := (arrOf st).extract n1 (n1 + l)) hB.kind JF JG sA sB (by rw [zA]; omega) (by rw [zB]; omega) first last J)
    · exact wpS_bind (PZ C (a := (arrOf st).extract k n1) (b := (arrOf st).extract n1 (n1 + l)) hB.kind JF JG sA sB (by rw [zA]; omega) (by rw [zB]; omega) first last J)
  intro m g gd
  rw [dI]
  (try dsimp -zeta only)
  have lm : m.toList.length = (n1 - k) + l := by
    rw [gd.1.length_eq,List.length_append,Array.length_toList,Array.length_toList,zA,zB]
  have eL := Dx k m.toList 0 (arrOf st) (by omega)
  rw [Nat.add_zero,lm,show k + (n1 - k + l) = n1 + l by omega] at eL
  refine wpS_bind (wpS_modify (wpS_bind (wpS_get ?_)))
  have fin : ∀ xs : Array Keyed,xs.toList = (arrOf st).toList.take k ++ m.toList ++ (arrOf st).toList.drop (n1 + l) -> xs.Perm a0 /\ ∀ i j,i <= j -> j < a0.size -> κ.kle (kA κ xs i) (kA κ xs j) := fun xs ex => by
    have hp : xs.toList.Perm (arrOf st).toList := by
      rw [ex]
      have e1 : (arrOf st).toList = (arrOf st).toList.take k ++ (((arrOf st).extract k n1).toList ++ ((arrOf st).extract n1 (n1 + l)).toList) ++ (arrOf st).toList.drop (n1 + l) := by
        rw [mZ,mZ]
        have t1 : (arrOf st).toList.take k ++ ((arrOf st).toList.take n1).drop k = (arrOf st).toList.take n1 := by
          have := List.take_append_drop k ((arrOf st).toList.take n1)
          rwa [List.take_take,Nat.min_eq_left (by omega)] at this
        have t2 : (arrOf st).toList.take n1 ++ ((arrOf st).toList.take (n1 + l)).drop n1 = (arrOf st).toList.take (n1 + l) := by
          have := List.take_append_drop n1 ((arrOf st).toList.take (n1 + l))
          rwa [List.take_take,Nat.min_eq_left (by omega)] at this
        rw [<- List.append_assoc,t1,t2,List.take_append_drop]
      exact (List.Perm.append_right _ (List.Perm.append_left _ gd.1)).trans (by rw [<- e1])
    refine ⟨(Array.perm_iff_toList_perm.mpr hp).trans hB.perm,fun i j bD hj => ?_⟩
    have hs : cZ κ xs.toList := by
      rw [ex]
      have mm : ∀ x ∈ m.toList,(∃ j,k <= j /\ j < n1 /\ (arrOf st)[j]? = some x) \/ (∃ j,n1 <= j /\ j < n1 + l /\ (arrOf st)[j]? = some x) := fun x hx => by
        rcases List.mem_append.mp (gd.1.mem_iff.mp hx) with z | z
        · exact .inl (mM z)
        · exact .inr (mM z)
      have mT : ∀ x ∈ (arrOf st).toList.take k,∃ j,j < k /\ (arrOf st)[j]? = some x := fun x hx => kx hx
      have mD : ∀ x ∈ (arrOf st).toList.drop (n1 + l),∃ j,n1 + l <= j /\ j < a0.size /\ (arrOf st)[j]? = some x := fun x hx => by
        rw [<- mL] at hx
        obtain ⟨j,j1,j2,e⟩ := mM hx
        exact ⟨j,j1,by omega,e⟩
      refine cv.mpr ⟨cv.mpr ⟨?_,gd.2,fun x hx y hy => ?_⟩,?_,fun x hx y hy => ?_⟩
      · rw [<- pA]
        exact r6 (fun a b z1 z2 z3 => dn a b z2 (by omega)) (by omega)
      · obtain ⟨i,i1,ei⟩ := mT x hx
        rw [<- bw (κ := κ) ei]
        rcases mm y hy with ⟨j,j1,j2,ej⟩ | ⟨j,j1,j2,ej⟩
        · rw [<- bw (κ := κ) ej]
          exact dn i j (by omega) j2
        · rw [<- bw (κ := κ) ej]
          have := k2 i i1
          rw [<- bw (κ := κ) eb] at this
          exact KeyOrd.kle_trans this (up n1 j (Nat.le_refl _) j1 (by omega))
      · rw [<- mL]
        exact r6 (fun a b z1 z2 z3 => up a b (by omega) z2 (by omega)) (Nat.le_refl _)
      · obtain ⟨j,j1,j2,ej⟩ := mD y hy
        rw [<- bw (κ := κ) ej]
        have tail : ∀ i,i < n1 -> κ.kle (kA κ (arrOf st) i) (kA κ (arrOf st) j) := fun i hi => by
          have := l3 (j - n1) (by omega) (by omega)
          rw [<- bw (κ := κ) ea,show n1 + (j - n1) = j by omega] at this
          exact KeyOrd.kle_trans (dn i (n1 - 1) (by omega) (by omega)) this
        rcases List.mem_append.mp hx with z | z
        · obtain ⟨i,i1,ei⟩ := mT x z
          rw [<- bw (κ := κ) ei]
          exact tail i (by omega)
        · rcases mm x z with ⟨i,i1,i2,ei⟩ | ⟨i,i1,i2,ei⟩
          · rw [<- bw (κ := κ) ei]
            exact tail i i2
          · rw [<- bw (κ := κ) ei]
            exact up i j i1 (by omega) j2
    refine jN hs bD ?_
    rw [<- Array.length_toList,hp.length_eq,Array.length_toList]; omega
  obtain ⟨f1,f2⟩ := fin _ eL
  have := wpS_pure (M := model prog w) (A := A) (E := E) (s := s) (a := true) (Q := Q) (h (SortSt.mk' (kindOf st) ((m.toList.zipIdx 0).foldl (fun a x => a.setIfInBounds (k + x.2) x.1) (arrOf st)) P g (failedOf st)) ⟨f1,hB.fail,hP,f2⟩)
  show wpS (model prog w) A E s (pure (failedOf st).isNone) Q _
  have e : (failedOf st).isNone = true := by rw [hB.fail]; rfl
  rw [e]
  exact this
end
end So
namespace So
open PySem PyProof.Rows
theorem Qj {n : Nat} (h2 : 2 <= n) (h : n < 128) : n <= 2 * minRun' n n 0 /\ minRun' n n 0 <= n := by
  obtain ⟨f,rfl⟩ : ∃ f,n = f + 2 := ⟨n - 2,by omega⟩
  have e : minRun' (f + 2) (f + 2) 0 = if f + 2 < 64 then f + 2 + 0 else if (f + 2) / 2 < 64 then (f + 2) / 2 + max 0 ((f + 2) % 2) else minRun' f ((f + 2) / 2 / 2) (max (max 0 ((f + 2) % 2)) ((f + 2) / 2 % 2)) := by
    rw [minRun'_succ,minRun'_succ]
  rw [e]
  split
  · omega
  · rw [if_pos (by omega)]; omega
section
variable {prog : Program} {w : World} {A : Around} {E : Value -> Shared -> Prop} {s : Shared} {kd : SortKind} {κ : KeyKind} {a0 : Array Keyed}
theorem Og (C : gJ prog w A E s kd κ) (k0 : Kd κ a0.toList) {st : SortSt} (hB : SB kd a0 #[] 0 a0 st) {Q : Unit -> SortSt -> Prop} (h2 : 2 <= a0.size) (HQ : a0.size < 128)
    (h : ∀ af,(arrOf af).Perm a0 -> failedOf af = none -> (∀ i j,i <= j -> j < a0.size -> κ.kle (kA κ (arrOf af) i) (kA κ (arrOf af) j)) -> Q () af) : wpS (model prog w) A E s sortRuns' Q st := by
  obtain ⟨m1,m2⟩ := Qj h2 HQ
  refine wpS_bind (wpS_get ?_)
  show wpS (model prog w) A E s (have size := (arrOf st).size; have aac := minRun' size size 0; _) Q st
  rw [hB.size]
  (with_reducible conv => arg 5; whnf)
  obtain ⟨mr,JH⟩ : ∃ mr,minRun' a0.size a0.size 0 = mr := ⟨_,rfl⟩
  rw [JH] at m1 m2
  rw [show (sortPriv% PySem.Builtin.minRun) a0.size a0.size 0 = mr from JH]
  refine wpS_bind (wpS_mono (wpS_forRange (I := fun t c af => (t = 0 /\ c = (none,0) /\ SB kd a0 #[] 0 a0 af) \/
      (t = 1 /\ ∃ n1,c = (none,n1) /\ 1 <= n1 /\ n1 <= a0.size /\ mr <= n1 /\ SB kd a0 #[(0,n1,0)] 0 a0 af /\ SS κ (arrOf af) 0 n1) \/
      (2 <= t /\ ∃ n1 pw,c = (none,a0.size) /\ 1 <= n1 /\ n1 < a0.size /\ SB kd a0 #[(0,n1,pw),(n1,a0.size - n1,0)] 0 a0 af /\ SS κ (arrOf af) 0 n1 /\ SS κ (arrOf af) n1 (a0.size - n1)))
    (Q := fun c af => c.1 = none /\ ((SB kd a0 #[(0,a0.size,0)] 0 a0 af /\ SS κ (arrOf af) 0 a0.size) \/ ∃ n1 pw,1 <= n1 /\ n1 < a0.size /\ SB kd a0 #[(0,n1,pw),(n1,a0.size - n1,0)] 0 a0 af /\ SS κ (arrOf af) 0 n1 /\ SS κ (arrOf af) n1 (a0.size - n1))) ?_ ?_ (.inl ⟨rfl,rfl,hB⟩)) ?_)
  · rintro t c af _ ht (⟨rfl,rfl,hB⟩ | ⟨rfl,n1,rfl,b1,b2,b3,hB,s1⟩ | ⟨t2,n1,pw,rfl,b1,b2,hB,s1,s2⟩)
    · (with_reducible conv => arg 5; whnf)
      rw [if_neg (by show ¬ 0 >= a0.size; omega)]
      refine wpS_bind (Fu C k0 hB (by show 1 <= a0.size - 0; omega) (by show 0 + (a0.size - 0) <= a0.size; omega) fun m aG iJ r1 r2 hs => ?_)
      (try dsimp -zeta only)
      (rw [show m = id m from rfl]; extract_lets +onlyGivenNames -merge -underBinder Ti; subst Ti; (try dsimp -zeta only [id]))
      extract_lets +onlyGivenNames -merge -underBinder GY
      obtain ⟨jp,dI⟩ : ∃ z,z = GY := ⟨GY,rfl⟩
      rw [<- dI]
      suffices J : ∀ n aG,SB kd a0 #[] 0 a0 aG -> 1 <= n -> n <= a0.size -> mr <= n -> SS κ (arrOf aG) 0 n -> wpS (model prog w) A E s (jp () n) _ aG by
        by_cases aZ : m < mr
        · rw [if_pos aZ]
          refine wpS_bind (wpS_lift (wpAny_rule ⟨rfl,?_⟩))
          (with_reducible conv => arg 5; whnf)
          rw [show min (a0.size - 0) mr = mr by omega]
          refine wpS_bind (Fy C k0 iJ (by omega) (by omega) hs fun cY zD gG => ?_)
          rw [if_neg (by decide)]
          (with_reducible conv => arg 5; whnf)
          exact J _ _ zD (by omega) m2 (Nat.le_refl _) gG
        · rw [if_neg aZ]
          have YB : m <= a0.size - 0 := r2
          exact J _ _ iJ r1 (by omega) (by omega) hs
      clear hB iJ hs
      intro n aG hB r1 r2 r3 hs
      rw [dI]
      (try dsimp -zeta only)
      refine wpS_bind (wpS_get ?_)
      skip
      extract_lets +onlyGivenNames -merge -underBinder GZ
      obtain ⟨qO,ik⟩ : ∃ z,z = GZ := ⟨GZ,rfl⟩
      rw [<- ik]
      show wpS (model prog w) A E s (match (pendingOf aG).back? with | _ => _) _ aG
      rw [show (pendingOf aG).back? = none by rw [hB.pend]; rfl]
      (try dsimp -zeta only)
      rw [ik]
      (try dsimp -zeta only)
      refine wpS_bind (wpS_modify ?_)
      (with_reducible conv => arg 5; whnf)
      refine wpS_pure (.inr (.inl ⟨rfl,n,by show (none,0 + n) = (none,n); rw [Nat.zero_add],r1,r2,r3,⟨hB.perm,hB.kind,hB.fail,?_,hB.low⟩,hs⟩))
      show (pendingOf aG).push _ = _
      rw [hB.pend]; rfl
    · (with_reducible conv => arg 5; whnf)
      by_cases full : n1 >= a0.size
      · rw [if_pos (by exact full)]
        have : n1 = a0.size := by omega
        subst this
        exact wpS_pure ⟨rfl,.inl ⟨hB,s1⟩⟩
      rw [if_neg (by exact full)]
      have YC : SB kd a0 #[(0,n1,0)] n1 (arrOf af) af := ⟨hB.perm,hB.kind,hB.fail,hB.pend,fun _ _ => rfl⟩
      refine wpS_bind (Fu C k0 YC (by show 1 <= a0.size - n1; omega) (by show n1 + (a0.size - n1) <= a0.size; omega) fun m aG iJ r1 r2 hs => ?_)
      have YB : m <= a0.size - n1 := r2
      (try dsimp -zeta only)
      (rw [show m = id m from rfl]; extract_lets +onlyGivenNames -merge -underBinder Tj; subst Tj; (try dsimp -zeta only [id]))
      extract_lets +onlyGivenNames -merge -underBinder G7
      obtain ⟨jp,dI⟩ : ∃ z,z = G7 := ⟨G7,rfl⟩
      rw [<- dI]
      suffices J : ∀ aG,SB kd a0 #[(0,n1,0)] n1 (arrOf af) aG -> SS κ (arrOf aG) n1 (a0.size - n1) -> wpS (model prog w) A E s (jp () (a0.size - n1)) _ aG by
        by_cases aZ : m < mr
        · rw [if_pos aZ]
          refine wpS_bind (wpS_lift (wpAny_rule ⟨rfl,?_⟩))
          (with_reducible conv => arg 5; whnf)
          rw [show min (a0.size - n1) mr = a0.size - n1 by omega]
          refine wpS_bind (Fy C k0 iJ (by omega) (by omega) hs fun cY zD gG => ?_)
          rw [if_neg (by decide)]
          (with_reducible conv => arg 5; whnf)
          exact J _ zD gG
        · rw [if_neg aZ]
          have : m = a0.size - n1 := by omega
          subst this
          exact J _ iJ hs
      clear hB iJ hs
      intro aG hB hs
      have YD : SS κ (arrOf aG) 0 n1 := fun i j bD hj => by
        have := s1 i j bD hj
        rwa [kh (κ := κ) (hB.low (0 + i) (by omega)),kh (κ := κ) (hB.low (0 + j) (by omega))]
      rw [dI]
      (try dsimp -zeta only)
      refine wpS_bind (wpS_get ?_)
      skip
      extract_lets +onlyGivenNames -merge -underBinder Fz
      obtain ⟨qO,ik⟩ : ∃ z,z = Fz := ⟨Fz,rfl⟩
      rw [<- ik]
      show wpS (model prog w) A E s (match (pendingOf aG).back? with | _ => _) _ aG
      rw [show (pendingOf aG).back? = some (0,n1,0) by rw [hB.pend]; rfl]
      (try dsimp -zeta only)
      (with_reducible conv => arg 5; whnf)
      generalize (sortPriv% PySem.Builtin.power) a0.size (2 * 0 + n1) (2 * 0 + n1 + n1 + (a0.size - n1)) a0.size = pw
      refine wpS_bind (wpS_mono (wpS_forRange (I := fun t c af => af = aG /\ c = (none,())) (Q := fun c af => af = aG /\ c = (none,())) ?_ (fun c af z => z) ⟨rfl,rfl⟩) ?_)
      · rintro t c cY _ _ ⟨rfl,rfl⟩
        refine wpS_bind (wpS_get ?_)
        show wpS (model prog w) A E s (match if (pendingOf cY).size > 1 then (pendingOf cY)[(pendingOf cY).size - 2]? else none with | _ => _) _ cY
        rw [if_neg (by rw [hB.pend]; show ¬ 1 > 1; omega)]
        exact wpS_pure ⟨rfl,rfl⟩
      · rintro c cY ⟨rfl,rfl⟩
        (with_reducible conv => arg 5; whnf)
        (try dsimp -zeta only)
        refine wpS_bind (wpS_modify ?_)
        rw [ik]
        (try dsimp -zeta only)
        refine wpS_bind (wpS_modify ?_)
        (with_reducible conv => arg 5; whnf)
        refine wpS_pure (.inr (.inr ⟨Nat.le_refl _,n1,pw,by show (none,n1 + (a0.size - n1)) = (none,a0.size); rw [show n1 + (a0.size - n1) = a0.size by omega],b1,by omega,⟨hB.perm,hB.kind,hB.fail,?_,fun i hi => by omega⟩,YD,hs⟩))
        show ((pendingOf cY).modify ((pendingOf cY).size - 1) _).push _ = _
        rw [hB.pend]; rfl
    · (with_reducible conv => arg 5; whnf)
      rw [if_pos (by show a0.size >= a0.size; exact Nat.le_refl _)]
      exact wpS_pure ⟨rfl,.inr ⟨n1,pw,b1,b2,hB,s1,s2⟩⟩
  · rintro c af (⟨z,_⟩ | ⟨z,_⟩ | ⟨t2,n1,pw,rfl,b1,b2,hB,s1,s2⟩)
    · omega
    · omega
    · exact ⟨rfl,.inr ⟨n1,pw,b1,b2,hB,s1,s2⟩⟩
  · rintro c af ⟨e,t4⟩
    obtain ⟨c1,c2⟩ := c
    simp only at e
    subst e
    (with_reducible conv => arg 5; whnf)
    (try dsimp -zeta only)
    refine wpS_bind (wpS_mono (wpS_forRange (I := fun t c aG => c = (none,()) /\ ((t = 0 /\ aG = af) \/ (yz kd κ a0 aG)))
      (Q := fun c aG => c = (none,()) /\ yz kd κ a0 aG) ?_ ?_ ⟨rfl,.inl ⟨rfl,rfl⟩⟩) ?_)
    · rintro t c aG _ ht ⟨rfl,z⟩
      (try dsimp -zeta only)
      refine wpS_bind (wpS_get ?_)
      show wpS (model prog w) A E s (have p := pendingOf aG; _) _ aG
      rcases z with ⟨rfl,rfl⟩ | f
      · rcases t4 with ⟨hB,hs⟩ | ⟨n1,pw,b1,b2,hB,s1,s2⟩
        · have hp1 : (pendingOf aG).size = 1 := by rw [hB.pend]; rfl
          (with_reducible conv => arg 5; whnf)
          rw [if_pos (by show (pendingOf aG).size <= 1; omega)]
          exact wpS_pure ⟨rfl,⟨hB.perm,hB.fail,by rw [hB.pend]; rfl,fun i j bD hj => by have := hs i j bD hj; rwa [Nat.zero_add,Nat.zero_add] at this⟩⟩
        · have zr : (pendingOf aG).size = 2 := by rw [hB.pend]; rfl
          (with_reducible conv => arg 5; whnf)
          rw [if_neg (by show ¬ (pendingOf aG).size <= 1; omega)]
          (with_reducible conv => arg 5; whnf)
          refine wpS_bind ?_
          show wpS (model prog w) A E s (mergeAt' (if Option.any _ (if (pendingOf aG).size - 2 > 0 then _ else none) = true then _ else (pendingOf aG).size - 2)) _ aG
          rw [if_neg (c := (pendingOf aG).size - 2 > 0) (by omega),if_neg (by rw [Option.any_none]; decide),zr]
          refine Mj C k0 hB b1 b2 s1 s2 fun cY f => ?_
          rw [if_neg (by decide)]
          exact wpS_pure ⟨rfl,.inr f⟩
      · (with_reducible conv => arg 5; whnf)
        rw [if_pos (by show (pendingOf aG).size <= 1; rw [f.one]; decide)]
        exact wpS_pure ⟨rfl,f⟩
    · rintro c aG ⟨rfl,z⟩
      rcases z with ⟨z,_⟩ | f
      · omega
      · exact ⟨rfl,f⟩
    · rintro c aG ⟨rfl,f⟩
      (with_reducible conv => arg 5; whnf)
      (try dsimp -zeta only)
      exact wpS_pure (h aG f.perm f.fail f.qM)
end
end So
namespace So
open PySem PyProof.Rows
def lexLt : List Int -> List Int -> Bool
  | [],[] => false
  | [],_ :: _ => true
  | _ :: _,[] => false
  | x :: xs,y :: ys => if x = y then lexLt xs ys else decide (x < y)
theorem wk : ∀ a,lexLt a a = false
  | [] => rfl
  | x :: xs => by unfold lexLt; rw [if_pos rfl]; exact wk xs
theorem wZ : ∀ a b c,lexLt a b = true -> lexLt b c = true -> lexLt a c = true
  | [],[],_,h,_ => by cases h
  | [],_ :: _,[],_,h => by cases h
  | [],_ :: _,_ :: _,_,_ => rfl
  | _ :: _,[],_,h,_ => by cases h
  | _ :: _,_ :: _,[],_,h => by cases h
  | x :: xs,y :: ys,z :: zs,h1,h2 => by
    unfold lexLt at h1 h2 ⊢
    by_cases e1 : x = y
    · subst e1
      rw [if_pos rfl] at h1
      by_cases e2 : x = z
      · subst e2
        rw [if_pos rfl] at h2 ⊢
        exact wZ xs ys zs h1 h2
      · rw [if_neg e2] at h2 ⊢; exact h2
    · rw [if_neg e1] at h1
      have := of_decide_eq_true h1
      by_cases e2 : y = z
      · subst e2
        rw [if_neg e1]; exact h1
      · rw [if_neg e2] at h2
        have := of_decide_eq_true h2
        rw [if_neg (by omega)]
        exact decide_eq_true (by omega)
theorem w4 : ∀ a b c,lexLt a c = true -> lexLt a b = true \/ lexLt b c = true
  | [],[],c,h => .inr h
  | [],_ :: _,_,_ => .inl rfl
  | _ :: _,_,[],h => by cases h
  | _ :: _,[],_ :: _,_ => .inr rfl
  | x :: xs,y :: ys,z :: zs,h => by
    unfold lexLt at h ⊢
    by_cases e1 : x = y
    · subst e1
      rw [if_pos rfl]
      by_cases e2 : x = z
      · subst e2
        rw [if_pos rfl] at h ⊢
        exact w4 xs ys zs h
      · rw [if_neg e2] at h ⊢; exact .inr h
    · rw [if_neg e1]
      by_cases e2 : x = z
      · subst e2
        rw [if_neg (fun z => e1 z.symm)]
        rcases Int.lt_or_le x y with q | q
        · exact .inl (decide_eq_true q)
        · exact .inr (decide_eq_true (by omega))
      · rw [if_neg e2] at h
        have := of_decide_eq_true h
        rcases Int.lt_or_le x y with q | q
        · exact .inl (decide_eq_true q)
        · refine .inr ?_
          rw [if_neg (by omega)]
          exact decide_eq_true (by omega)
theorem wm : ∀ a b,lexLt a b = false -> lexLt b a = false -> a = b
  | [],[],_,_ => rfl
  | [],_ :: _,h,_ => by cases h
  | _ :: _,[],_,h => by cases h
  | x :: xs,y :: ys,h1,h2 => by
    unfold lexLt at h1 h2
    by_cases e1 : x = y
    · subst e1
      rw [if_pos rfl] at h1 h2
      rw [wm xs ys h1 h2]
    · rw [if_neg e1] at h1
      rw [if_neg (fun z => e1 z.symm)] at h2
      have := of_decide_eq_false h1
      have := of_decide_eq_false h2
      omega
def intsOf : List Value -> Option (List Int)
  | [] => some []
  | .int n _ :: r => (intsOf r).map (n :: ·)
  | _ :: _ => none
def dQ (h : Heap) : Value -> Option (List Int)
  | .ref t => match h.get? t with
    | some ⟨.type "tuple",_,.seq vs _,_⟩ => intsOf vs.toList
    | _ => none
  | _ => none
def iK (h : Heap) : KeyKind := { α := List Int,blt := lexLt,irrefl := wk,trans := wZ,negTrans := w4,total := wm,keyOf := dQ h,dflt := [] }
theorem ints_of {vs : List Value} {ns : List Int} (h : IntsAre vs ns) : intsOf vs = some ns := by
  induction h with
  | nil => rfl
  | cons n t _ ih => show (intsOf _).map _ = _; rw [ih]; rfl
theorem Er : ∀ {vs : List Value} {ns : List Int},intsOf vs = some ns -> IntsAre vs ns
  | [],_,h => by cases h; exact .nil
  | .int n t :: r,_,h => by
    have h' : (intsOf r).map (n :: ·) = some _ := h
    cases e : intsOf r with
    | none => rw [e] at h'; cases h'
    | some ms => rw [e] at h'; cases h'; exact .cons n t (Er e)
  | .none :: _,_,h => by cases h
  | .ellipsis :: _,_,h => by cases h
  | .notImplemented :: _,_,h => by cases h
  | .bool _ :: _,_,h => by cases h
  | .float _ _ :: _,_,h => by cases h
  | .str _ _ :: _,_,h => by cases h
  | .bytes _ _ :: _,_,h => by cases h
  | .type _ :: _,_,h => by cases h
  | .builtin _ :: _,_,h => by cases h
  | .ref _ :: _,_,h => by cases h
theorem ku {h : Heap} {t : Addr} {ws : List Value} {ns : List Int} (p : IsTup h t ws.toArray) (q : IntsAre ws ns) : dQ h (.ref t) = some ns := by
  obtain ⟨⟨c,d,dt,sl⟩,ho,hc,n,hd⟩ := p
  simp only at hc hd
  subst hc hd
  show (match h.get? t with | some ⟨.type "tuple",_,.seq vs _,_⟩ => intsOf vs.toList | _ => none) = _
  rw [ho]
  exact ints_of q
theorem sx {h : Heap} {v : Value} {ns : List Int} (e : dQ h v = some ns) : ∃ t ws,v = .ref t /\ IsTup h t ws.toArray /\ IntsAre ws ns := by
  unfold dQ at e
  split at e
  next t =>
    split at e
    next o d vs n sl ho => exact ⟨t,vs.toList,rfl,⟨_,ho,rfl,n,by rw [Array.toArray_toList]⟩,Er e⟩
    next => cases e
  next => cases e
section
variable {prog : Program} {w : World} {A : Around} {E : Value -> Shared -> Prop} {s : Shared}
theorem vt {t : Addr} {ws : Array Value} {Q : Array Value -> Shared -> Prop} (p : IsTup s.heap t ws) (h : Q ws s) : wpAny (model prog w) A (Builtin.List.listItems (.ref t)) Q E s := by
  obtain ⟨o,ho,hc,n,hd⟩ := p
  exact listItems_at ho hd h
theorem Qk {a b : Int} {t u : Tok} {Q : Bool -> Shared -> Prop} (h : Q (decide (a < b)) s) : wpAny (model prog w) A (oneLt' false (.int a t) (.int b u)) Q E s := by
  rw [oneLt'_eq]
  simp only [Bool.false_eq_true,if_false]
  refine wpAny_bind ?_
  exact wpAny_lt_int (wpAny_truthy_bool h)
theorem Ql {a b : Int} {t u : Tok} {c : Bool} {Q : Bool -> Shared -> Prop} (h : Q (decide (a < b)) s) : wpAny (model prog w) A (oneLt' c (.int a t) (.int b u)) Q E s := by
  cases c with
  | true => exact oneLt_int h
  | false => exact Qk h
theorem Es {g : ((Value × Value) × Nat) -> (Option Bool × Unit) -> Sem (ForInStep (Option Bool × Unit))}
    (hg : ∀ (m n : Int) (t t' : Tok) (i : Nat) (Q : ForInStep (Option Bool × Unit) -> Shared -> Prop),(m ≠ n -> Q (.done (some (decide (m < n)),())) s) -> (m = n -> Q (.yield (none,())) s) -> wpAny (model prog w) A (g ((.int m t,.int n t'),i) (none,())) Q E s) :
    ∀ {us vs : List Value} {ms ns : List Int},IntsAre us ms -> IntsAre vs ns -> ∀ (k : Nat) (Q : Option Bool × Unit -> Shared -> Prop),(lexLt ms ns = decide (us.length < vs.length) -> Q (none,()) s) -> Q (some (lexLt ms ns),()) s ->
      wpAny (model prog w) A (forIn ((us.zip vs).zipIdx k) ((none,()) : Option Bool × Unit) g) Q E s
  | [],[],_,_,.nil,.nil,k,Q,h,_ => wpAny_pure (h rfl)
  | [],_ :: _,_,_,.nil,.cons n t hr,k,Q,h,_ => wpAny_pure (h (by rw [decide_eq_true (by simp)]; rfl))
  | _ :: _,[],_,_,.cons n t hr,.nil,k,Q,h,_ => wpAny_pure (h (by rw [decide_eq_false (by simp)]; rfl))
  | _ :: us,_ :: vs,_,_,.cons m t hu,.cons n t' hv,k,Q,h,h2 => by
    rw [List.zip_cons_cons,List.zipIdx_cons,List.forIn_cons]
    unfold lexLt at h h2
    refine wpAny_bind (hg m n t t' k _ (fun e => ?_) (fun e => ?_))
    · rw [if_neg e] at h2
      exact wpAny_pure h2
    · rw [if_pos e] at h h2
      exact Es hg hu hv (k + 1) Q (fun z => h (by rw [z]; simp)) h2
theorem Oh : gJ prog w A E s (tuples' true) (iK s.heap) where
  lt st x y Q hk k1 k2 h := by
    obtain ⟨ms,e1⟩ := Option.isSome_iff_exists.mp k1
    obtain ⟨ns,e2⟩ := Option.isSome_iff_exists.mp k2
    have f1 : kf (iK s.heap) x = ms := by unfold kf; rw [e1]; rfl
    have f2 : kf (iK s.heap) y = ns := by unfold kf; rw [e2]; rfl
    rw [f1,f2] at h
    obtain ⟨t,us,ex,px,ix⟩ := sx e1
    obtain ⟨t',vs,ey,py,iy⟩ := sx e2
    rw [lt'_eq]
    refine wpS_bind (wpS_get ?_)
    rw [hk,ex,ey]
    refine wpS_bind (wpS_lift (wpAny_attempt ?_))
    refine wpAny_bind (vt px (wpAny_bind (vt py ?_)))
    refine wpAny_bind (Es (fun m n t t' i Q q1 q2 => ?_) ix iy 0 _ (fun e => ?_) ?_)
    · refine wpAny_bind (wpAny_eqBool_int ?_)
      by_cases e : m = n
      · rw [show (m == n) = true by simpa using e]
        exact wpAny_pure (q2 e)
      · rw [show (m == n) = false by simpa using e]
        exact wpAny_bind (Ql (wpAny_pure (q1 e)))
    · show wpAny _ _ (pure (decide (us.toArray.size < vs.toArray.size))) _ _ _
      refine wpAny_pure ⟨rfl,wpS_pure ?_⟩
      rw [List.size_toArray,List.size_toArray,<- e]
      exact h
    · exact wpAny_pure ⟨rfl,wpS_pure h⟩
theorem FA : ∀ {vs : List Value},(∀ v ∈ vs,∃ n ns,dQ s.heap v = some (n :: ns)) -> ∀ Q : List (Option Value) -> Shared -> Prop,(∀ fs : List (Int × Tok),fs.length = vs.length -> Q (fs.map fun p => some (.int p.1 p.2)) s) ->
    wpAny (model prog w) A (vs.mapM firstOfTuple') Q E s
  | [],_,Q,h => by rw [List.mapM_nil]; exact wpAny_pure (h [] rfl)
  | v :: vs,hv,Q,h => by
    obtain ⟨n,ns,e⟩ := hv v (.head _)
    obtain ⟨t,ws,rfl,pt,it⟩ := sx e
    cases it with
    | cons _ tk it =>
      rw [List.mapM_cons]
      refine wpAny_bind ?_
      obtain ⟨o,ho,hc,m,hd⟩ := id pt
      refine wpAny_bind (wpAny_typeOf (T := "tuple") ⟨o,ho,hc⟩ ?_)
      rw [if_neg (by decide)]
      refine wpAny_bind (vt pt (wpAny_pure ?_))
      refine wpAny_bind (FA (fun v qK => hv v (.tail _ qK)) _ fun fs hf => wpAny_pure ?_)
      exact h ((n,tk) :: fs) (by rw [List.length_cons,List.length_cons,hf])
theorem CZ : ∀ (fs : List (Int × Tok)),(fs.map fun p => Value.int p.1 p.2).mapM typeOf = pure (fs.map fun _ => Value.type "int")
  | [] => by simp
  | p :: fs => by
    rw [List.map_cons,List.mapM_cons,CZ fs]
    show (pure (Value.type "int") >>= fun b => pure _ >>= fun bs => pure (b :: bs)) = _
    simp
theorem Nr {vs : List Value} {Q : SortKind -> Shared -> Prop} (hv : ∀ v ∈ vs,∃ n ns,dQ s.heap v = some (n :: ns)) (ne : vs ≠ []) (h : Q (tuples' true) s) : wpAny (model prog w) A (keyKind' vs.toArray) Q E s := by
  rw [keyKind'_eq,List.mapM_toArray]
  refine wpAny_bind ?_
  rw [map_eq_pure_bind]
  refine wpAny_bind (FA hv _ fun fs hf => wpAny_pure ?_)
  rw [if_pos (by simp)]
  refine wpAny_bind (wpAny_rule ?_)
  have e1 : ((fs.map fun p => some (Value.int p.1 p.2)).toArray.filterMap id) = (fs.map fun p => Value.int p.1 p.2).toArray := by
    simp [List.filterMap_map]
  rw [e1,oneTypeOnly'_eq,List.mapM_toArray,CZ]
  simp only [map_pure,pure_bind]
  have h0 : (fs.map fun _ => Value.type "int").toArray[0]? = some (Value.type "int") := by
    cases fs with
    | nil =>
      cases vs with
      | nil => exact absurd rfl ne
      | cons _ _ => cases hf
    | cons p fs => simp
  have yj : ((fs.map fun _ => Value.type "int").toArray.all fun x => x == Value.type "int") = true := by
    simp only [List.all_toArray,List.all_map,List.all_eq_true]
    intro _ _
    rfl
  rw [h0]
  simp only [yj,if_true,pure_bind]
  exact wpAny_pure h
end
end So
namespace So
open PySem PyProof.Rows
def nG (h : Heap) (v : Value) : List Int := (dQ h v).getD []
def p9 (h : Heap) (l : List Value) : Prop := l.Pairwise fun x y => lexLt (nG h y) (nG h x) = false
section
variable {prog : Program} {w : World} {A : Around} {E : Value -> Shared -> Prop} {s : Shared}
theorem Dy {h h' : Heap} {v : Value} {ns : List Int} (e : dQ h v = some ns) (k : ∀ t o,v = .ref t -> h.get? t = some o -> o.cls = .type "tuple" -> h'.get? t = some o) : dQ h' v = some ns := by
  obtain ⟨t,ws,rfl,⟨o,ho,hc,n,hd⟩,it⟩ := sx e
  exact ku ⟨o,k t o rfl ho hc,hc,n,hd⟩ it
theorem mem_zip_self {α : Type} : ∀ {l : List α} {p : α × α},p ∈ l.zip l -> p.1 = p.2 /\ p.1 ∈ l
  | x :: l,p,h => by
    rw [List.zip_cons_cons] at h
    rcases List.mem_cons.mp h with rfl | z
    · exact ⟨rfl,.head _⟩
    · have := mem_zip_self z
      exact ⟨this.1,.tail _ this.2⟩
theorem Eu {α : Type} : ∀ l : List α,(l.zip l).map Prod.snd = l
  | [] => rfl
  | x :: l => by rw [List.zip_cons_cons,List.map_cons,Eu l]
theorem C0 {vs : List Value} {xs : Array Keyed} {h : Heap} (hp : xs.Perm (pairsOf vs)) (hs : ∀ i j,i <= j -> j < (pairsOf vs).size -> (iK h).kle (kA (iK h) xs i) (kA (iK h) xs j)) :
    (xs.map (·.2)).toList.Perm vs /\ p9 h (xs.map (·.2)).toList := by
  have hl : xs.toList.Perm (vs.zip vs) := by
    have := Array.perm_iff_toList_perm.mp hp
    unfold pairsOf at this
    rwa [Array.toList_zip] at this
  refine ⟨?_,?_⟩
  · rw [Array.toList_map]
    have := hl.map Prod.snd
    rwa [Eu] at this
  · unfold p9
    rw [Array.toList_map,List.pairwise_map,List.pairwise_iff_getElem]
    intro i j hi hj bD
    have nV : j < (pairsOf vs).size := by rw [<- hp.size_eq]; rw [Array.length_toList] at hj; exact hj
    have := hs i j (by omega) nV
    have gt : ∀ c (hc : c < xs.toList.length),kA (iK h) xs c = nG h (xs.toList[c]).2 := fun c hc => by
      have e : xs[c]? = some (xs.toList[c]) := by rw [<- Array.getElem?_toList,List.getElem?_eq_getElem hc]
      rw [bw e]
      have := (mem_zip_self (hl.mem_iff.mp (List.getElem_mem hc))).1
      unfold kf nG
      rw [<- this]
      rfl
    rw [gt i hi,gt j hj] at this
    exact this
theorem KY {a : Addr} {vs : List Value} {n : Nat} {P : Fin -> Shared -> Prop} (ho : s.heap.get? a = some (seqObj "list" vs.toArray n)) (hv : ∀ v ∈ vs,∃ n ns,dQ s.heap v = some (n :: ns)) (HQ : vs.length < 128)
    (h : ∀ out : Array Value,out.toList.Perm vs -> p9 s.heap out.toList -> P (.done (.ret .none)) { s with heap := sortedHeap s.heap a vs out }) : wpAny (model prog w) A (Builtin.«list.sort» ⟨[.ref a],[]⟩) P E s := by
  rw [list_sort_plain]
  have ha : a < s.heap.objs.size := Heap.lt_size ho
  refine wpAny_bind (listItems_at ho rfl (wpAny_bind (listUpdate_at ho rfl ?_)))
  obtain ⟨e1,nY⟩ : ∃ e1,(s.heap.update a (Obj.mapSeq fun _ => #[])).get? a = some (seqObj "list" #[] e1) := ⟨_,get?_update_seq ho (fun _ => #[])⟩
  refine wpAny_bind (seqEpoch_at nY rfl (wpAny_bind (wpAny_newTuple (wpAny_bind (wpAny_newList (wpAny_holding ?_))))))
  obtain ⟨hB,eB⟩ : ∃ hB,hB = ((s.heap.update a (Obj.mapSeq fun _ => #[])).push (seqObj "tuple" vs.toArray 0)).push (seqObj "list" #[] 0) := ⟨_,rfl⟩
  have t5 : hB.get? a = some (seqObj "list" #[] e1) := by
    rw [eB,Heap.get?_push_ne _ _ _ (by rw [size_push',Heap.size_update]; exact Nat.ne_of_lt (Nat.lt_succ_of_lt ha)),Heap.get?_push_ne _ _ _ (by rw [Heap.size_update]; exact Nat.ne_of_lt ha)]
    exact nY
  have keep : ∀ t o,s.heap.get? t = some o -> t ≠ a -> hB.get? t = some o := fun t o e ne => by
    have lt := Heap.lt_size e
    rw [eB,Heap.get?_push_ne _ _ _ (by rw [size_push',Heap.size_update]; exact Nat.ne_of_lt (Nat.lt_succ_of_lt lt)),Heap.get?_push_ne _ _ _ (by rw [Heap.size_update]; exact Nat.ne_of_lt lt),(Heap.SameBut.update ..).2 t ne]
    exact e
  have keys : ∀ v ns,dQ s.heap v = some ns -> dQ hB v = some ns := fun v ns e => Dy e fun t o _ ht hc => keep t o ht fun z => by
    rw [z,ho] at ht
    cases ht
    exact absurd (Value.type.inj hc) (by decide)
  have fin : ∀ out : Array Value,out.toList.Perm vs -> p9 hB out.toList -> P (.done (.ret .none)) { s with heap := sortedHeap s.heap a vs out } := fun out hp hs => by
    refine h out hp (hs.imp_of_mem fun {x y} hx hy z => ?_)
    obtain ⟨n1,ns1,q1⟩ := hv x (hp.mem_iff.mp hx)
    obtain ⟨n2,ns2,q2⟩ := hv y (hp.mem_iff.mp hy)
    unfold nG at z ⊢
    rw [keys _ _ q1,keys _ _ q2] at z
    rw [q1,q2]
    exact z
  have last : ∀ out : Array Value,out.size <= 1000 -> sortedHeap s.heap a vs out = hB.update a (Obj.mapSeq fun _ => out) := fun out _ => by rw [eB]; rfl
  show wpAny (model prog w) A _ P E { s with heap := ((s.heap.update a (Obj.mapSeq fun _ => #[])).push (seqObj "tuple" vs.toArray 0)).push (seqObj "list" #[] 0) }
  rw [<- eB]
  have hsz : vs.toArray.size = vs.length := by simp
  have line : sizeLine = 16777216 := sizeLine_eq
  dsimp only
  by_cases h2 : vs.toArray.size < 2
  · rw [if_pos h2,if_pos h2]
    refine wpAny_bind (wpAny_pure ?_)
    rw [StateT.run_pure]
    refine wpAny_bind (wpAny_pure ?_)
    dsimp only
    have pp : (pairsOf vs).Perm (pairsOf vs) := Array.Perm.refl _
    obtain ⟨f1,f2⟩ := C0 (h := hB) pp fun i j bD hj => by
      rw [pairsOf_size] at hj
      have : i = j := by omega
      subst this
      exact KeyOrd.kle_refl _
    have sz : ((pairsOf vs).map (·.2)).size = vs.length := by rw [Array.size_map,pairsOf_size]
    refine wpAny_bind (seqEpoch_at (s := { s with heap := hB }) t5 rfl ?_)
    refine wpAny_bind (listUpdate_at (s := { s with heap := hB }) t5 rfl ?_ (hsz2 := by show ((pairsOf vs).map (·.2)).size <= _; omega))
    simp only [bne_self_eq_false,Bool.false_eq_true,if_false]
    have := fin _ f1 f2
    rw [last _ (by omega)] at this
    exact wpAny_pure this
  · rw [if_neg h2,if_neg h2]
    refine wpAny_bind (Nr (s := { s with heap := hB }) (fun v qK => ?_) (fun z => by rw [z] at h2; simp at h2) ?_)
    · obtain ⟨n,ns,e⟩ := hv v qK
      exact ⟨n,ns,keys _ _ e⟩
    have k0 : Kd (iK hB) (pairsOf vs).toList := fun x hx => by
      unfold pairsOf at hx
      rw [Array.toList_zip] at hx
      obtain ⟨n,ns,e⟩ := hv x.1 (mem_zip_self hx).2
      show (dQ hB x.1).isSome = true
      rw [keys _ _ e]; rfl
    have run := Og (prog := prog) (w := w) (A := A) (E := E) (s := { s with heap := hB }) (a0 := pairsOf vs) Oh k0 (st := SortSt.mk' (tuples' true) (pairsOf vs) #[] 7 none) ⟨Array.Perm.refl _,rfl,rfl,rfl,fun _ z => absurd z (Nat.not_lt_zero _)⟩
      (Q := fun _ af => (arrOf af).Perm (pairsOf vs) /\ failedOf af = none /\ ∀ i j,i <= j -> j < (pairsOf vs).size -> (iK hB).kle (kA (iK hB) (arrOf af) i) (kA (iK hB) (arrOf af) j)) (by rw [pairsOf_size]; omega) (by rw [pairsOf_size]; omega) fun af p1 p2 p3 => ⟨p1,p2,p3⟩
    refine wpAny_bind (wpAny_mono run ?_ fun _ _ e => e)
    rintro ⟨⟨⟩,af⟩ s' ⟨rfl,hp,hf,hs⟩
    dsimp only
    obtain ⟨f1,f2⟩ := C0 hp hs
    have sz : ((arrOf af).map (·.2)).size = vs.length := by rw [Array.size_map,hp.size_eq,pairsOf_size]
    refine wpAny_bind (seqEpoch_at (s := { s with heap := hB }) t5 rfl ?_)
    refine wpAny_bind (listUpdate_at (s := { s with heap := hB }) t5 rfl ?_ (hsz2 := by show ((arrOf af).map (·.2)).size <= _; omega))
    rw [hf]
    simp only [bne_self_eq_false,Bool.false_eq_true,if_false]
    have := fin _ f1 f2
    rw [last _ (by show ((arrOf af).map (·.2)).size <= 1000; omega)] at this
    exact wpAny_pure this
end
end So
namespace So
open PySem PyProof.Rows
def gu (h : Heap) (d : Addr) (ks : List Addr) (ep : Nat) : Prop := ∃ o es,h.get? d = some o /\ o.ExactDict /\ o.data = .dict es ep /\ es.toList.map (·.key) = ks.map Value.ref
theorem gu.at' {h h' : Heap} {d : Addr} {ks : List Addr} {ep : Nat} (x : gu h d ks ep) (e : ∀ o,h.get? d = some o -> h'.get? d = some o) : gu h' d ks ep := let ⟨o,es,ho,r⟩ := x; ⟨o,es,e o ho,r⟩
theorem gu.lt {h : Heap} {d : Addr} {ks : List Addr} {ep : Nat} (x : gu h d ks ep) : d < h.objs.size := let ⟨_,_,ho,_⟩ := x; Heap.lt_size ho
theorem gu.ty {s : Shared} {d : Addr} {ks : List Addr} {ep : Nat} (x : gu s.heap d ks ep) : s.TypeIs (.ref d) "dict" := let ⟨o,_,ho,hc,_⟩ := x; ⟨o,ho,hc.1⟩
theorem vO {es : Array DictEntry} {ks : List Addr} (h : es.toList.map (·.key) = ks.map Value.ref) : es.size = ks.length := by
  have := congrArg List.length h
  rwa [List.length_map,List.length_map,Array.length_toList] at this
theorem Qm {es : Array DictEntry} {ks : List Addr} (h : es.toList.map (·.key) = ks.map Value.ref) {i : Nat} {a : Addr} (ha : ks[i]? = some a) (hi : i < es.size) : es[i].key = .ref a := by
  have := congrArg (fun l => l[i]?) h
  simp only [List.getElem?_map,ha,Array.getElem?_toList,Array.getElem?_eq_getElem hi,Option.map_some] at this
  exact Option.some.inj this
section
variable {prog : Program} {w : World} {A : Around} {E : Value -> Shared -> Prop} {s : Shared} {d it : Addr} {ks : List Addr} {ep i : Nat}
theorem Oi {Q : Value -> Shared -> Prop} (lo : (d == sysModules) = false) (hm : gu s.heap d ks ep) (hQ : Q (.ref s.heap.objs.size) { s with heap := s.heap.push { cls := .type "dict_keyiterator",data := .fields #[.ref d,.int 0 0,.int ks.length 0,.int ep 0] } }) :
    wpAny (model prog w) A (pyIter (.ref d)) Q E s := by
  obtain ⟨o,es,ho,hc,HR,hk⟩ := id hm
  have hT := hm.ty
  have hsz := vO hk
  refine wpAny_pyIter_slot hT F.slot_dict_iter (wpAny_call_entry F.slot_dict_iter hT F.entry_dict_iter ?_ (F.args_dict_iter_1 _))
  unfold Builtin.«dict.__iter__»
  refine wpAny_bind ?_
  unfold Builtin.Dict.dictSlotNone
  refine wpAny_bind (wpAny_notOrdered_dict hT ?_); show wpAny _ _ (pure (Value.ref d)) _ _ s
  refine wpAny_pure ?_
  show wpAny _ _ (Builtin.Dict.showsAll d >>= _) _ _ s
  unfold Builtin.Dict.showsAll
  rw [if_neg (by rw [lo]; exact Bool.false_ne_true)]
  refine wpAny_bind (wpAny_pure (wpAny_bind (wpAny_dictEntries ho HR (wpAny_bind (wpAny_dictEpoch ho HR ?_)))))
  refine wpAny_bind (wpAny_newObj_type (wpAny_pure ⟨_,rfl, "dict_keyiterator",_,⟨_,Heap.get?_push_size _ rfl,rfl⟩,F.slot_dict_keyiterator_next.lookup,?_⟩))
  simpa [rawInt,hsz] using hQ
theorem Oj {a : Addr} {Q : Option Value -> Shared -> Prop} (hit : s.heap.IsKeyIter it d i ks.length ep) (hm : gu s.heap d ks ep) (hx : ks[i]? = some a)
    (hQ : ∀ h',h'.IsKeyIter it d (i + 1) ks.length ep -> Heap.SameBut it s.heap h' -> Q (some (.ref a)) { s with heap := h' }) : wpAny (model prog w) A (pyNext (.ref it)) Q E s := by
  obtain ⟨o,ho,hc,hd⟩ := id hit
  obtain ⟨od,es,qP,fG,lC,hk⟩ := id hm
  have hsz := vO hk
  have aZ : i < ks.length := (List.getElem?_eq_some_iff.mp hx).1
  have HS : i < es.size := by rw [hsz]; exact aZ
  have ye := Qm hk hx HS
  unfold pyNext
  refine wpAny_bind (wpAny_attempt (wpAny_callSpecial?_slot (name := Str.ofString "__next__") hit.typeIs F.slot_dict_keyiterator_next (wpAny_call_entry F.slot_dict_keyiterator_next hit.typeIs F.entry_dict_keyiterator_next ?_ (F.args_dict_keyiterator_next_1 _))))
  refine wpAny_bind (wpAny_pure (wpAny_bind (wpAny_bind ?_)))
  first | refine wpAny_bind (wpAny_typeNameOfWhole_keyiter hit.typeIs (wpAny_pure (wpAny_bind (wpAny_fieldsOf ho hd ?_)))) | refine wpAny_bind (wpAny_typeNameOf_keyiter hit.typeIs (wpAny_pure (wpAny_bind (wpAny_fieldsOf ho hd ?_))))
  have own : Builtin.Dict_items.ownsTuple "dict_keyiterator" = false := by decide
  simp only [own,Bool.false_eq_true,if_false]
  show wpAny _ _ (if (Value.ref d == Value.none) = true then _ else _) _ _ s; rw [if_neg (show ¬ ((Value.ref d == Value.none) = true) from Bool.false_ne_true)]
  refine wpAny_bind (wpAny_pure (wpAny_bind (wpAny_dictEntries qP lC ?_))); rw [if_neg (by rw [hsz]; simp)]
  refine wpAny_bind (wpAny_pure (wpAny_bind (wpAny_dictEpoch qP lC ?_))); rw [if_neg (by simp)]
  refine wpAny_pure ?_
  simp only [show ¬ ((i : Int) < 0) from by omega,if_false,Int.toNat_natCast,Array.getElem?_eq_getElem HS]
  refine wpAny_bind ?_
  first | refine wpAny_bind (wpAny_typeNameOfWhole_keyiter hit.typeIs (wpAny_pure (wpAny_bind (wpAny_isOneOf_keyiter hit.typeIs ?_)))) | refine wpAny_bind (wpAny_typeNameOf_keyiter hit.typeIs (wpAny_pure (wpAny_bind (wpAny_isOneOf_keyiter hit.typeIs ?_))))
  show wpAny _ _ (setField (.ref it) 1 (rawInt ((i : Int) + 1)) >>= _) _ _ s; refine wpAny_bind (wpAny_setField ho hd (by simp) ?_)
  have sZ : (s.heap.update it (Obj.mapFields (·.setIfInBounds 1 (rawInt ((i : Int) + 1))))).IsKeyIter it d (i + 1) ks.length ep := ⟨_,Heap.get?_update_self _ ho (Obj.isFreed_of_fields (Obj.data_mapFields hd _)),(Obj.cls_mapFields ..).trans hc,by rw [Obj.data_mapFields hd]; simp [rawInt]⟩
  refine wpAny_bind (wpAny_holding (wpAny_bind (wpAny_isOneOf_keyiter (s := { s with heap := s.heap.update it (Obj.mapFields (·.setIfInBounds 1 (rawInt ((i : Int) + 1)))) }) sZ.typeIs ?_)))
  show wpAny _ _ (pure es[i].key) _ _ _
  rw [ye]
  exact wpAny_pure (wpAny_pure ⟨_,rfl,wpAny_pure (hQ _ sZ (Heap.SameBut.update ..))⟩)
theorem Qn {Q : Option Value -> Shared -> Prop} (hh : A.handled = none) (hit : s.heap.IsKeyIter it d i ks.length ep) (hm : gu s.heap d ks ep) (hx : ks[i]? = none) (hQ : ∀ h',Heap.ExtBut it s.heap h' -> Q none { s with heap := h' }) : wpAny (model prog w) A (pyNext (.ref it)) Q E s := by
  obtain ⟨o,ho,hc,hd⟩ := id hit
  obtain ⟨od,es,qP,fG,lC,hk⟩ := id hm
  have hsz := vO hk
  have eV : es.size <= i := by rw [hsz]; simpa using hx
  unfold pyNext
  refine wpAny_bind (wpAny_attempt (wpAny_callSpecial?_slot (name := Str.ofString "__next__") hit.typeIs F.slot_dict_keyiterator_next (wpAny_call_entry F.slot_dict_keyiterator_next hit.typeIs F.entry_dict_keyiterator_next ?_ (F.args_dict_keyiterator_next_1 _))))
  refine wpAny_bind (wpAny_pure (wpAny_bind (wpAny_bind ?_)))
  first | refine wpAny_bind (wpAny_typeNameOfWhole_keyiter hit.typeIs (wpAny_pure (wpAny_bind (wpAny_fieldsOf ho hd ?_)))) | refine wpAny_bind (wpAny_typeNameOf_keyiter hit.typeIs (wpAny_pure (wpAny_bind (wpAny_fieldsOf ho hd ?_))))
  have own : Builtin.Dict_items.ownsTuple "dict_keyiterator" = false := by decide
  simp only [own,Bool.false_eq_true,if_false]
  show wpAny _ _ (if (Value.ref d == Value.none) = true then _ else _) _ _ s; rw [if_neg (show ¬ ((Value.ref d == Value.none) = true) from Bool.false_ne_true)]
  refine wpAny_bind (wpAny_pure (wpAny_bind (wpAny_dictEntries qP lC ?_))); rw [if_neg (by rw [hsz]; simp)]
  refine wpAny_bind (wpAny_pure (wpAny_bind (wpAny_dictEpoch qP lC ?_))); rw [if_neg (by simp)]
  refine wpAny_pure ?_
  simp only [show ¬ ((i : Int) < 0) from by omega,if_false,Int.toNat_natCast,Array.getElem?_eq_none eV]
  refine wpAny_bind ?_
  first | refine wpAny_bind (wpAny_typeNameOfWhole_keyiter hit.typeIs (wpAny_pure ?_)) | refine wpAny_bind (wpAny_typeNameOf_keyiter hit.typeIs (wpAny_pure ?_))
  show wpAny _ _ (setField (.ref it) 0 .none >>= _) _ _ s; refine wpAny_bind (wpAny_setField ho hd (by simp) ?_)
  show wpAny _ _ (newExc (.type "StopIteration") [] >>= _) _ _ _; refine wpAny_bind ?_
  simp only [newExc,newTuple]
  refine wpAny_bind (wpAny_newObj_type (wpAny_bind (m := firstArgMember _ _) (wpAny_of_eq (a := Value.none) (by first | rfl | (simp only [firstArgMember]; rfl)) (wpAny_newObj_type ?_ (by size_fits)))) (by size_fits))
  simp only [raiseNew]
  refine wpAny_bind (wpAny_handled ?_); rw [show A.in1.handled = none from hh]
  refine wpAny_bind (wpAny_pure (wpAny_throw ?_)); refine wpAny_bind (wpAny_isInstance (T := "StopIteration") (b := true) ⟨_,Heap.get?_push_size _ rfl,rfl⟩ isSubtype_stop ?_)
  exact wpAny_pure (hQ _ (((Heap.SameBut.update ..).extBut.push _).push _))
theorem Nt (hh : A.handled = none) (I : Addr) (qz : d ≠ I) : Walks prog w A I [I,d] [I] ks.length (fun i v => ∃ a,ks[i]? = some a /\ v = .ref a) (fun i h => h.IsKeyIter I d i ks.length ep /\ gu h d ks ep) where
  sub := fun b hb => by simp at hb; simp [hb]
  frame := fun _ _ _ st hk => ⟨st.1.at fun o e => hk I (by simp) o e,st.2.at' fun o e => hk d (by simp) o e⟩
  item := fun i s Q E hi st hQ => by
    obtain ⟨a,hx⟩ : ∃ a,ks[i]? = some a := ⟨ks[i],by simp [hi]⟩
    refine Oj st.1 st.2 hx fun h' sZ jC => ?_
    exact hQ _ h' s.toks ⟨a,hx,rfl⟩ ⟨sZ,st.2.at' fun o e => jC.extBut d o qz e⟩ fun b o hb e => jC.extBut b o (fun h => hb (by simp [h])) e
  done := fun s Q E st hQ => Qn hh st.1 st.2 (by simp) fun h' nX => hQ h' s.toks fun b o hb e => nX b o (fun h => hb (by simp [h])) e
  self := fun _ _ _ _ st hQ => wpAny_pyIter_keyiter st.1 hQ
theorem Qo (lo : (d == sysModules) = false) : PySem.W.KdlSrc prog w "dict" d d ks.length (fun i v => ∃ a,ks[i]? = some a /\ v = .ref a) (fun h => gu h d ks ep) where
  type := fun _ hm => hm.ty
  there := fun _ hm => ⟨hm.lt,hm.lt⟩
  keep := fun _ _ hm hk => hm.at' fun o e => hk d (.inl rfl) o e
  notList := by decide
  notTuple := by decide
  hint := fun _ _ _ _ hm hq => PySem.W.kdl_hint_dict hm.ty hq
  iter := fun A s hh hm => ⟨_,_,(fun _ _ hq => Oi lo hm hq),Nt hh _ (Nat.ne_of_lt hm.lt),⟨⟨_,Heap.get?_push_size _ rfl,rfl,rfl⟩,hm.at' fun o e => Heap.get?_push_of_some _ e⟩⟩
end
end So
namespace L2
open PySem PySem.Spec PyProof.Rows
def addrOf : Value -> Addr
  | .ref a => a
  | _ => 0
theorem Nu {l : List Value} {ks : List Addr} (h : l.Perm (ks.map Value.ref)) : ∃ as : List Addr,as.Perm ks /\ l = as.map Value.ref := by
  refine ⟨l.map addrOf,?_,?_⟩
  · have := h.map addrOf
    rw [List.map_map] at this
    rwa [show ks.map (addrOf ∘ Value.ref) = ks from (List.map_congr_left (g := id) fun _ _ => rfl).trans (List.map_id ks)] at this
  · rw [List.map_map]
    refine ((List.map_congr_left (g := id) fun v hv => ?_).trans (List.map_id l)).symm
    obtain ⟨a,_,rfl⟩ := List.mem_map.mp (h.mem_iff.mp hv)
    rfl
theorem C1 : ∀ as : List Addr,Vals (as.map V.ref) (as.map Value.ref)
  | [] => .nil
  | a :: as => .cons rfl (C1 as)
def FC : List V -> Hp -> VK -> Prop := fun xs H Q => ∃ (p : Addr) (ah : List (List Key × V)) (ds : List (List Int)),xs = [.ref p] /\ H p = some (.dT ah) /\ ah.map (·.1) = ds.map (fun d => d.map Sum.inl) /\ (∀ d ∈ ds,d ≠ []) /\ ds.length < 128 /\
    ∀ (l : Addr) (ps : List (Addr × List Int)),H l = none -> (∀ q ∈ ps,H q.1 = some (.tup (q.2.map V.int))) -> (ps.map (·.2)).Perm ds -> (ps.map (·.2)).Pairwise (fun x y => So.lexLt y x = false) -> Q (.ref l) (upd H l (.lst (ps.map fun q => .ref q.1)))
section
variable {X : Cx}
theorem LW (hc : X.calm = true) : eG X (.builtin "sorted") FC := by
  intro pins s σ H xs us Q I r h
  obtain ⟨p,ah,ds,rfl,hp,YF,qz,hz,q⟩ := h
  obtain ⟨u,rfl,rx⟩ := vals1 r
  cases rx
  obtain ⟨_,hS,xs,pr,o,es,ep,ho,fG,lC,he,nd⟩ := (show bM X.prog X.w H s.heap p (.dT ah) from I.ay p _ hp)
  have big : 1000 < sizeLine := by decide
  have keys : ∀ {ah : List (List Key × V)} {xs : List (List Key × Addr × Value)} {ds : List (List Int)},Paired (fun (p : List Key × V) (q : List Key × Addr × Value) => p.1 = q.1 /\ H q.2.1 = some (.tup (p.1.map kV)) /\ RelV p.2 q.2.2) ah xs -> ah.map (·.1) = ds.map (fun d => d.map Sum.inl) -> xs.length = ds.length /\ ∀ (i : Nat) (a : Addr) (d : List Int),(xs.map (·.2.1))[i]? = some a -> ds[i]? = some d -> H a = some (.tup (d.map V.int)) := by
    intro ah xs ds pr
    induction pr generalizing ds with
    | nil =>
      intro e
      cases ds with
      | nil => exact ⟨rfl,fun i a d z => by cases i <;> cases z⟩
      | cons _ _ => cases e
    | @cons pp qq ps qs hq t ih =>
      intro e
      cases ds with
      | nil => cases e
      | cons d ds =>
        rw [List.map_cons,List.map_cons] at e
        obtain ⟨e1,e2⟩ := List.cons.inj e
        obtain ⟨i1,i2⟩ := ih e2
        refine ⟨by rw [List.length_cons,List.length_cons,i1],fun i a d' h1 h2 => ?_⟩
        cases i with
        | zero =>
          cases h1
          cases h2
          have := hq.2.1
          rw [e1,List.map_map] at this
          exact this
        | succ i => exact i2 i a d' h1 h2
  obtain ⟨xl,zE⟩ := keys pr YF
  obtain ⟨ks,zF⟩ : ∃ ks,ks = xs.map (·.2.1) := ⟨_,rfl⟩
  rw [<- zF] at zE
  have kl : ks.length = ds.length := by rw [zF,List.length_map,xl]
  have tup : ∀ a ns,H a = some (.tup (ns.map V.int)) -> So.dQ s.heap (.ref a) = some ns := fun a ns e => by
    obtain ⟨_,its,r,pt⟩ := (show bM X.prog X.w H s.heap a (.tup (ns.map V.int)) from I.ay a _ e)
    exact So.ku pt (intsAre_of r)
  have lD : So.gu s.heap p ks ep := ⟨o,es,ho,fG,lC,by rw [he,List.map_map,zF,List.map_map]; rfl⟩
  refine Calls.call_function_entry kind_sorted plain_sorted entry_sorted (args_sorted1 _) ?_
  unfold Builtin.«sorted»
  refine wpAny_bind (m := checkCount "sorted" 1 1 _) (wpAny_pure (wpAny_bind (PySem.W.kdu_collect (A := X.A.in1) (So.Qo (ks := ks) (ep := ep) hS) (I.ok.hd hc) lD (by rw [kl]; omega) fun h' tk acc hk eJ => ?_)))
  have ea : acc.toList = ks.map Value.ref := by
    refine List.ext_getElem? fun i => ?_
    rw [Array.getElem?_toList,List.getElem?_map]
    rcases Nat.lt_or_ge i ks.length with hi | hi
    · have zt : i < acc.size := by rw [eJ.1]; exact hi
      obtain ⟨a,e1,e2⟩ := eJ.2 i acc[i] (Array.getElem?_eq_getElem zt)
      rw [Array.getElem?_eq_getElem zt,e2,e1]; rfl
    · rw [List.getElem?_eq_none hi,Array.getElem?_eq_none (by rw [eJ.1]; exact hi)]; rfl
  have ha : acc.toList.length = ds.length := by rw [ea,List.length_map,kl]
  have known : ∀ a ∈ ks,∃ d ∈ ds,H a = some (.tup (d.map V.int)) := fun a hm => by
    obtain ⟨i,hi,e⟩ := List.getElem_of_mem hm
    have e' : ks[i]? = some a := by rw [List.getElem?_eq_getElem hi,e]
    exact ⟨ds[i]'(by omega),List.getElem_mem _,zE i a _ e' (List.getElem?_eq_getElem (by omega))⟩
  refine wpAny_bind (wpAny_newList ?_ (by rw [ha]; omega))
  have qj : (h'.push (seqObj "list" acc.toList.toArray 0)).get? h'.objs.size = some (seqObj "list" acc.toList.toArray 0) := Heap.get?_push_size _ rfl
  have xI : ∀ v ns,So.dQ s.heap v = some ns -> So.dQ (h'.push (seqObj "list" acc.toList.toArray 0)) v = some ns := fun v ns e => So.Dy e fun t o _ ht _ => Heap.get?_push_of_some _ (hk t o ht)
  refine wpAny_bind (wpAny_holding (wpAny_call_entry slot_list_sort ⟨_,qj,rfl⟩ entry_list_sort (So.KY (s := { s with heap := h'.push (seqObj "list" acc.toList.toArray 0),toks := tk }) qj (fun v hv => ?_) (by rw [ha]; exact hz) fun out p1 p2 => ⟨_,rfl,wpAny_pure ⟨_,rfl,?_⟩⟩) (args_list_sort _)))
  · rw [ea] at hv
    obtain ⟨a,hm,rfl⟩ := List.mem_map.mp hv
    obtain ⟨d,hd,e⟩ := known a hm
    cases d with
    | nil => exact absurd rfl (qz _ hd)
    | cons n ns => exact ⟨n,ns,xI _ _ (tup a _ e)⟩
  · rw [ea] at p1
    obtain ⟨as,pm,eo⟩ := Nu p1
    obtain ⟨e,YG⟩ := sortedHeap_at (out := out) qj
    have I1 : Inv X pins σ H { s with heap := h',toks := tk } := I.kept (t' := tk) hk
    obtain ⟨kd,YH⟩ : ∃ kd : Addr -> List Int,kd = fun a => (So.dQ s.heap (.ref a)).getD [] := ⟨_,rfl⟩
    have t7 : ∀ a d,H a = some (.tup (d.map V.int)) -> kd a = d := fun a d z => by rw [YH]; show (So.dQ s.heap (.ref a)).getD [] = d; rw [tup a d z]; rfl
    have ek : ks.map kd = ds := by
      refine List.ext_getElem? fun i => ?_
      rw [List.getElem?_map]
      rcases Nat.lt_or_ge i ks.length with hi | hi
      · rw [List.getElem?_eq_getElem hi,List.getElem?_eq_getElem (show i < ds.length by omega)]
        show some (kd ks[i]) = _
        rw [t7 _ _ (zE i _ _ (List.getElem?_eq_getElem hi) (List.getElem?_eq_getElem (by omega)))]
      · rw [List.getElem?_eq_none hi,List.getElem?_eq_none (by omega)]; rfl
    have sz : (as.map fun a => (a,kd a)).map (fun q => V.ref q.1) = as.map V.ref := by rw [List.map_map]; rfl
    have s2 : (as.map fun a => (a,kd a)).map (·.2) = as.map kd := by rw [List.map_map]; rfl
    have lt : as.length = ds.length := by rw [pm.length_eq,kl]
    have fin := q h'.objs.size (as.map fun a => (a,kd a)) (I1.ay.fresh (Nat.le_refl _)) (fun qq hq => ?_) (by rw [s2,<- ek]; exact pm.map kd) ?_
    · rw [sz] at fin
      refine ⟨.ref h'.objs.size,_,I1.laid (t' := tk) (o := .lst (as.map V.ref)) (fun b o eb => ?_) (Nat.le_refl _) ?_,rfl,fin⟩
      · have lt : b < h'.objs.size := Heap.lt_size eb
        rw [sortedHeap_old (Nat.ne_of_lt lt) (by rw [size_push']; exact Nat.lt_succ_of_lt lt),Heap.get?_push_ne _ _ _ (Nat.ne_of_lt lt)]
        exact eb
      · refine ⟨by rw [List.length_map,lt]; omega,out.toList,e,?_,by rw [Array.toArray_toList]; exact YG⟩
        rw [eo]
        exact C1 as
    · obtain ⟨a,hm,rfl⟩ := List.mem_map.mp hq
      obtain ⟨d,hd,z⟩ := known a (pm.mem_iff.mp hm)
      show H a = some (.tup ((kd a).map V.int))
      rw [t7 a d z]; exact z
    · rw [s2,List.pairwise_map]
      unfold So.p9 at p2
      rw [eo,List.pairwise_map] at p2
      refine p2.imp_of_mem fun {x y} hx hy z => ?_
      obtain ⟨dx,_,zx⟩ := known x (pm.mem_iff.mp hx)
      obtain ⟨dy,_,zy⟩ := known y (pm.mem_iff.mp hy)
      unfold So.nG at z
      rw [xI _ _ (tup x _ zx),xI _ _ (tup y _ zy)] at z
      rw [t7 x dx zx,t7 y dy zy]
      exact z
end
end L2
namespace L2
open PySem PySem.Spec PyProof.Rows
theorem Dz {K : PySem.W.Frag} {G H : Hp} : ∀ {ns : List Int} {vs : List V} {fq : List Addr},aK K G H (ns.map fun n => Tr.fz (di n)) vs fq -> vs = ns.map V.int /\ fq = []
  | [],vs,fq,h => h
  | n :: ns,vs,fq,h => by
    obtain ⟨v,r,f1,f2,rfl,rfl,⟨rfl,h1⟩,h2⟩ := h
    obtain ⟨rfl,rfl⟩ := Dz h2
    rw [aV h1]
    exact ⟨rfl,rfl⟩
section
variable {ι : Type} {F : bb ι} {e : Expr} {ρ : En} {ta : Tr} {pos : Pos}
theorem Ol {xs : List Dv} (hm : F.mg "tuple" = none) (ha : Ev F e ρ ta) (ea : er ta = .lst xs) {p' : Pos} (hg : ∀ i,Gl (F.cx i) "tuple" := by intro _; rfl)
    (hs : ∀ i,starEach [e] (F.cx i).env = [(false,eval e (F.cx i).env)] := by intro _; rfl) : Ev F (.Call (.Name "tuple" p') [e] [] pos) ρ (.tp (xs.map .fz)) :=
  vG (r := fun xs H Q => ∃ p ys,xs = [.ref p] /\ ((aN F.K H p ys /\ ∀ l,H l = none -> Q (.ref l) (upd H l (.tup ys))) \/ (cH F.K H p ys /\ Q (.ref p) H))) (fun i => F.hK i ▸ Lj) hm NW (ag ha ax hs) (fun G H vs Q s hx k => by
    obtain ⟨x,rfl,fi⟩ := ig hx
    rw [ea] at fi
    obtain ⟨l,ws,rfl,h1,h2⟩ := fi
    refine ⟨l,ws,rfl,.inl ⟨s.seq h1,fun p hp => k (.ref p) G _ [p] (.gY s hp) ⟨p,ws,[],rfl,cL,?_,rfl⟩ ⟨fun a ha => by rw [List.mem_singleton.mp ha]; exact hp,fun a ha => by rw [List.mem_singleton.mp ha]; exact s.free hp,by simp⟩⟩⟩
    exact aP.iD h2) hg (by decide) (by decide) (fun i => by rw [hs i]; rfl) (fun i => rfl)
end
theorem Rx {K : PySem.W.Frag} {G H1 : Hp} {l acc : Addr} {xs : List V} {t8 : St} {te : TE} {f : Nat -> Tr} {Q : VK} (sG : ao G H1) (hl : H1 l = some (.lst xs)) (eJ : H1 acc = none) (hz : xs.length < sizeLine)
    (ev : ∀ i x,xs[i]? = some x -> ∀ G2 H2 Q,ao G G2 -> ao G2 H2 -> ao H1 H2 -> Kv K G2 H2 (f i) Q -> te (t8.set 0 (some x)) H2 Q)
    (k : ∀ v G' H' fq,Step G H1 G' H' -> Ow K G' H' (.ow ((List.range xs.length).map f)) v fq -> Nw H1 G' fq -> Q v H') :
    ∃ W : Nat -> Nat -> List V -> St -> Hp -> Prop,(∃ m,W 0 m [] t8 (upd H1 acc (.lst []))) /\ ∀ i m ys aE H2,W i m ys aE H2 -> H2 acc = some (.lst ys) /\ ys.length < sizeLine /\
      (((jW K l).stop i H2 /\ Q (.ref acc) H2) \/ ((jW K l).go i H2 /\ ∃ N : List V -> St -> Hp -> Prop,(∀ zs bG H3,N zs bG H3 -> ∃ m',m' < m /\ W (i + 1) m' zs bG H3) /\
        ∀ x H3,(jW K l).nL i H2 x H3 -> eE 0 x aE H3 fun bG H4 => rT bG H4 fun b H5 => if b = true then te bG H5 (fun y H6 => H6 acc = some (.lst ys) /\ N (ys ++ [y]) bG (upd H6 acc (.lst (ys ++ [y])))) else N ys bG H5)) := by
  refine ⟨fun i m ys aE H2 => m = xs.length - i /\ i <= xs.length /\ (∀ x,aE.set 0 (some x) = t8.set 0 (some x)) /\ H2 acc = some (.lst ys) /\ ∃ G2 fq,Step G H1 G2 H2 /\ aK K G2 H2 ((List.range i).map f) ys fq /\ Nw H1 G2 (acc :: fq),
    ⟨_,rfl,Nat.zero_le _,fun _ => rfl,cL,G,[],.gY sG eJ,⟨rfl,rfl⟩,⟨fun a ha => by rw [List.mem_singleton.mp ha]; exact eJ,fun a ha => by rw [List.mem_singleton.mp ha]; exact sG.free eJ,by simp⟩⟩,?_⟩
  rintro i m ys aE H2 ⟨rfl,hi,tV,iW,G2,fq,s2,o2,w2⟩
  have hlen : ys.length < sizeLine := by rw [<- o2.length,List.length_map,List.length_range]; omega
  refine ⟨iW,hlen,?_⟩
  have iV : H2 l = some (.lst xs) := s2.h _ _ hl
  by_cases aZ : i < xs.length
  · have hx := List.getElem?_eq_getElem aZ
    refine .inr ⟨⟨xs,xs[i],.inl (.inl iV),hx⟩,fun zs bG H3 => (∀ x,bG.set 0 (some x) = t8.set 0 (some x)) /\ H3 acc = some (.lst zs) /\ ∃ G3 fq,Step G H1 G3 H3 /\ aK K G3 H3 ((List.range (i + 1)).map f) zs fq /\ Nw H1 G3 (acc :: fq),
      fun zs bG H3 z => ⟨xs.length - (i + 1),by omega,rfl,aZ,z⟩,fun x H3 y => ?_⟩
    obtain ⟨rfl,y⟩ := y
    have ex := y xs (.inl (.inl iV))
    have sL : ∀ {Ga Ha Gb Hb : Hp} {fs : List Addr},Step Ga Ha Gb Hb -> (∀ a ∈ fs,Ga a = none) -> (∀ a ∈ fs,∃ o,Ha a = some o) -> ∀ a ∈ fs,Gb a = none := fun {Ga Ha Gb Hb fs} st h1 h2 a ha => by
      cases q : Gb a with
      | none => rfl
      | some u =>
        obtain ⟨u',aW⟩ := h2 a ha
        have := st.n a (h1 a ha) (by rw [q]; exact fun z => nomatch z)
        rw [aW] at this; cases this
    have nU : ∀ a ∈ acc :: fq,∃ o,H3 a = some o := fun a ha => (List.mem_cons.mp ha).elim (fun z => ⟨_,z ▸ iW⟩) (o2.there a)
    dsimp only [eE,rT]
    rw [if_pos rfl,tV]
    refine ev i x ex G2 H3 _ s2.g s2.s s2.h fun v G6 H6 f6 s6 o6 w6 => ?_
    have zi := s6.h _ _ iW
    have lr : ∀ a ∈ f6,a ∉ acc :: fq := fun a ha hb => by
      obtain ⟨u,hu⟩ := nU a hb
      rw [w6.n a ha] at hu; cases hu
    have lu := List.nodup_cons.mp w2.d
    have g6 := sL s6 w2.g nU
    have zG := s2.trans s6
    refine ⟨zi,fun x' => by rw [List.set_set],cL,G6,fq ++ (f6 ++ []),⟨zG.g,fun b u hb => ?_,fun b u hb => ?_,zG.n⟩,?_,⟨fun a ha => ?_,fun a ha => ?_,?_⟩⟩
    · rw [bh fun z => by subst z; rw [eJ] at hb; cases hb]
      exact zG.h b u hb
    · rw [bh fun z => by subst z; rw [g6 _ (.head _)] at hb; cases hb]
      exact s6.s b u hb
    · rw [List.range_succ,List.map_append]
      exact aK.append ((o2.mono s6.g s6.h).frame lu.1) ⟨v,[],f6,[],rfl,rfl,o6.frame fun z => lr _ z (.head _),rfl,rfl⟩
    · rw [List.append_nil] at ha
      rcases List.mem_cons.mp ha with z | z
      · exact w2.n a (z ▸ .head _)
      · rcases List.mem_append.mp z with z | z
        · exact w2.n a (.tail _ z)
        · exact s2.h.free (w6.n a z)
    · rw [List.append_nil] at ha
      rcases List.mem_cons.mp ha with z | z
      · exact g6 a (z ▸ .head _)
      · rcases List.mem_append.mp z with z | z
        · exact g6 a (.tail _ z)
        · exact w6.g a z
    · rw [List.append_nil]
      refine List.nodup_cons.mpr ⟨fun z => ?_,List.nodup_append.mpr ⟨lu.2,w6.d,fun a ha b hb z => ?_⟩⟩
      · rcases List.mem_append.mp z with z | z
        · exact lu.1 z
        · exact lr _ z (.head _)
      · subst z; exact lr a hb (.tail _ ha)
  · have e : i = xs.length := by omega
    subst e
    exact .inl ⟨⟨xs,.inl (.inl iV),Nat.le_refl _⟩,k (.ref acc) G2 H2 (acc :: fq) s2 ⟨acc,ys,fq,rfl,iW,o2,rfl⟩ w2⟩
end L2
namespace bH
open PySem L2 dY
def top (i : Nat) : Stmt := PySem.Challenge.pw_lotmeal_k94_whole_no_lie_is_better.main.body.getD i (.Pass ⟨0,0,0,0⟩)
structure Txt (mg : Str -> Option Value) : Prop where
  Ci : mg "isinstance" = none
  xJ : mg "int" = none
  Ry : mg "bool" = none
  ky : mg "list" = none
  Qp : mg "tuple" = none
  cz : mg "len" = none
  fu : mg "range" = none
  Sz : mg "zip" = none
  oq : mg "enumerate" = none
  DA : mg "sorted" = none
  G8 : mg "abs" = none
  aad : mg "sum" = none
  aae : mg "max" = none
  aaf : mg "min" = none
  aag : mg "all" = none
  G9 : mg "any" = none
  SA : mg "set" = none
  oi : ∃ tk,mg "MOST_TURNS" = some (.int 5 tk)
  pB : ∃ tk,mg "MOST" = some (.int 6 tk)
  oj : ∃ tk,mg "MOST_COUNT" = some (.int 9 tk)
section
variable {P : Program} {w : World} {K : PySem.W.Frag} {mg : Str -> Option Value} {base : Heap}
def aq (n : Nat) : List Int := (List.range n).map fun i => 0 + ((i : Nat) : Int)
theorem de {n : Nat} {x : Int} : x ∈ aq n ↔ 0 <= x /\ x < n := by
  unfold aq
  constructor
  · intro h
    obtain ⟨i,hi,rfl⟩ := List.mem_map.mp h
    have := List.mem_range.mp hi
    omega
  · rintro ⟨h0,h1⟩
    exact List.mem_map.mpr ⟨x.toNat,List.mem_range.mpr (by omega),by omega⟩
theorem vg (n : Nat) : (aq n).Nodup := by
  unfold aq
  rw [List.nodup_iff_pairwise_ne,List.pairwise_map]
  exact (List.nodup_range (n := n)).imp fun h z => h (by omega)
abbrev lM : Stmt := top 10
theorem rh : bq ["one", "other", "rest"] ["one", "other"] (ak lM) := ⟨rfl,rfl,rfl,by decide +kernel,rfl,by decide +kernel,by decide +kernel⟩
def Hc (dd : List Dv) (t : Tr) : Prop := ∃ a b : Int,0 <= a /\ 0 <= b /\ dd = [di a,di b] /\ t = ti (gc a b)
theorem KZ {f : Addr} {fd : FuncData} {k : Nat} (F : bt K "common_part" "common_part" lM f fd) (T : Txt mg) : aR P w K mg base au (k + 1) f fd ["one", "other"] (spT K Hc) := by
  refine bA F.d rh (fun dd t h => by obtain ⟨_,_,_,_,rfl,_⟩ := h; rfl) fun dd t h => ?_
  obtain ⟨a,b,ha,hb,rfl,rfl⟩ := h
  refine ⟨_,.inl rfl,?_⟩
  refine Ce (fun p : Int × Int => [some (ti p.1),some (ti p.2),none]) (fun p => 0 <= p.1 /\ 0 <= p.2 /\ gc p.1 p.2 = gc a b) (fun p => !decide (p.2 = 0)) (fun p => p.2.toNat) (a,b) rfl ⟨ha,hb,rfl⟩ (fun p hp => Et.s (xA (ae 1 rfl) aj)) (fun p hp h => ?_) (fun p hp h => ?_)
  · obtain ⟨x,y⟩ := p
    obtain ⟨h1,h2,h3⟩ := hp
    have hy : y ≠ 0 := by simpa using h
    have ju : 0 <= y := h2
    have l1 := Int.emod_lt_of_pos x (show 0 < y by omega)
    have l2 := Int.emod_nonneg x hy
    refine ⟨(y,x % y),⟨h2,l2,?_⟩,?_,bp.fg (aw (aH 2 (Ev.s (fA (ae 0 rfl) (ae 1 rfl) (by omega))) (fun _ => rh.nd)) (aw (aH 0 (Ev.s (ae 1 rfl)) (fun _ => rh.nd)) (aJ (aH 1 (Ev.s (ae 2 rfl)) (fun _ => rh.nd))))) ⟨[2],rfl⟩⟩
    · show gc y (x % y) = _
      rw [Pt]; exact h3
    · show (x % y).toNat < y.toNat
      omega
  · obtain ⟨x,y⟩ := p
    obtain ⟨h1,h2,h3⟩ := hp
    have YJ : y = 0 := by simpa using h
    have y9 : gc x y = gc a b := h3
    have nP : 0 <= x := h1
    have e : gc a b = x := by rw [<- y9,YJ,Pr]; omega
    rw [e]
    exact aJ (bW (Ev.s (ae 0 rfl)))
abbrev mn : Stmt := top 9
theorem Mk : bq ["number"] ["number"] (ak mn) := ⟨rfl,rfl,rfl,by decide +kernel,rfl,by decide +kernel,by decide +kernel⟩
def DB (dd : List Dv) (t : Tr) : Prop := ∃ n : Int,dd = [di n] /\ t = tb true
theorem Ml {f : Addr} {fd : FuncData} {k : Nat} (F : bt K "is_whole" "is_whole" mn f fd) (T : Txt mg) : aR P w K mg base au (k + 1) f fd ["number"] (spT K DB) := by
  refine bA F.d Mk (fun dd t h => by obtain ⟨n,rfl,_⟩ := h; rfl) fun dd t h => ?_
  obtain ⟨n,rfl,rfl⟩ := h
  refine ⟨_,.inl rfl,?_⟩
  exact aJ (bW (Ev.s (Ev.to (E8 (p := true) (q := true) (Fc T.Ci T.xJ E6 (ae 0 rfl) (by with_unfolding_all rfl)) fun _ => (sv (Q9 (p := false) (Fc T.Ci T.Ry Pj (ae 0 rfl) (by with_unfolding_all rfl))))) rfl)))
abbrev gL : Stmt := top 11
theorem Cr : bq ["top", "bottom", "part"] ["top", "bottom"] (ak gL) := ⟨rfl,rfl,rfl,by decide +kernel,rfl,by decide +kernel,by decide +kernel⟩
def gv (dd : List Dv) (t : Tr) : Prop := ∃ a b : Int,0 < b /\ b.natAbs < 2 ^ 8000 /\ dd = [di a,di b] /\ t = tF (lT a b,lB a b)
theorem Mm {f f1 f2 : Addr} {fd aQ fd2 : FuncData} {dV : Value} {k : Nat} (F : nC K "fraction" "fraction" gL dV f fd) (T : Txt mg) (CC : Kn P w K mg base au (k + 1) "is_whole" f1 aQ ["number"] (spT K DB)) (Lv : Kn P w K mg base au (k + 1) "common_part" f2 fd2 ["one", "other"] (spT K Hc)) : aR P w K mg base au (k + 2) f fd ["top", "bottom"] (spT K gv) := by
  refine bA F Cr (fun dd t h => by obtain ⟨_,_,_,_,rfl,_⟩ := h; rfl) fun dd t h => ?_
  obtain ⟨a,b,hb,hz,rfl,rfl⟩ := h
  refine ⟨_,.inl rfl,?_⟩
  refine aw (df (Et.s (Ew.et (sI (wR (fB (aU CC (Nat.le_refl _) (ag (ae 0 rfl) ax) ⟨a,rfl,rfl⟩))) fun _ => (su (wR (fB (aU CC (Nat.le_refl _) (ag (ae 1 rfl) ax) ⟨b,rfl,rfl⟩))))))) rfl) ?_
  refine aw (df (Et.s (jQ (ae 1 rfl) aj)) (decide_eq_false (by omega))) ?_
  have ha : 0 <= (if a < 0 then -a else a) := by split <;> omega
  have fU : 0 <= (if b < 0 then -b else b) := by split <;> omega
  have eg : gc (if a < 0 then -a else a) (if b < 0 then -b else b) = gc a b := by
    rw [show (if a < 0 then -a else a) = (a.natAbs : Int) by split <;> omega,show (if b < 0 then -b else b) = (b.natAbs : Int) by split <;> omega,Rg]
  have gp := pf (a := a) (show b ≠ 0 by omega)
  have gl := Pu (a := a) hb
  refine aw (aH 2 (bL.to (t' := ti (gc a b)) (Ev.s (aU Lv (Nat.le_refl _) (ag (Fb T.G8 (ae 0 rfl)) (ag (Fb T.G8 (ae 1 rfl)) ax)) ⟨_,_,ha,fU,rfl,rfl⟩)) (by rw [eg])) (fun _ => Cr.nd)) ?_
  refine aw (df (Et.s (sH (ae 1 rfl) aj)) (decide_eq_false (by omega))) ?_
  have cd : ∀ i : Int,pG i (gc a b) := fun i => ⟨gp,Nat.lt_of_le_of_lt (by omega) hz⟩
  refine aJ (bW (Ev.s (oS (ag (hU (ae 0 rfl) (ae 2 rfl) (cd _)) (ag (hU (ae 1 rfl) (ae 2 rfl) (cd _)) ax)) ?_ (by show 2 <= sizeLine; decide))))
  show [di (a / gc a b),di (b / gc a b)] = _
  rw [Rh hb,Ri hb]
abbrev m5 : Stmt := top 12
theorem Qq : bq ["one", "other"] ["one", "other"] (ak m5) := ⟨rfl,rfl,rfl,by decide +kernel,rfl,by decide +kernel,by decide +kernel⟩
def fP (p : Int × Int) : Prop := 0 < p.2 /\ p.2.natAbs < 2 ^ 90 /\ p.1.natAbs < 2 ^ 90
def Hd (dd : List Dv) (t : Tr) : Prop := ∃ p q : Int × Int,fP p /\ fP q /\ dd = [dF p,dF q] /\ t = tF (lT (p.1 * q.2 + q.1 * p.2) (p.2 * q.2),lB (p.1 * q.2 + q.1 * p.2) (p.2 * q.2))
theorem bR {a : Int} {n : Nat} (h : a.natAbs < 2 ^ n) (hn : n <= 8000) : a.natAbs < 2 ^ 8000 := Nat.lt_of_lt_of_le h (Nat.pow_le_pow_right (by decide) hn)
theorem sy {a b : Int} {m n : Nat} (h1 : a.natAbs < 2 ^ m) (h2 : b.natAbs < 2 ^ n) : (a * b).natAbs < 2 ^ (m + n) := by
  rw [Int.natAbs_mul,Nat.pow_add]
  exact Nat.mul_lt_mul'' h1 h2
theorem Qr {f f1 : Addr} {fd aQ : FuncData} {k : Nat} (F : bt K "plus" "plus" m5 f fd) (T : Txt mg) (cK : Kn P w K mg base au (k + 2) "fraction" f1 aQ ["top", "bottom"] (spT K gv)) : aR P w K mg base au (k + 3) f fd ["one", "other"] (spT K Hd) := by
  refine bA F.d Qq (fun dd t h => by obtain ⟨_,_,_,_,rfl,_⟩ := h; rfl) fun dd t h => ?_
  obtain ⟨p,q,⟨p1,p2,p3⟩,⟨q1,q2,q3⟩,rfl,rfl⟩ := h
  refine ⟨_,.inl rfl,?_⟩
  have dm : ∀ r : Int × Int,aY [di r.1,di r.2] 0 = some (di r.1) := fun _ => rfl
  have cJ : ∀ r : Int × Int,aY [di r.1,di r.2] 1 = some (di r.2) := fun _ => rfl
  exact aJ (bW (Ev.s (aU cK (Nat.le_refl _) (ag (gP (dP (aO (ae 0 rfl) aj rfl (dm p)) (aO (ae 1 rfl) aj rfl (cJ q)) ⟨bR p3 (by decide),bR q2 (by decide)⟩) (dP (aO (ae 1 rfl) aj rfl (dm q)) (aO (ae 0 rfl) aj rfl (cJ p)) ⟨bR q3 (by decide),bR p2 (by decide)⟩)) (ag (dP (aO (ae 0 rfl) aj rfl (cJ p)) (aO (ae 1 rfl) aj rfl (cJ q)) ⟨bR p2 (by decide),bR q2 (by decide)⟩) ax)) ⟨_,_,Int.mul_pos p1 q1,bR (sy p2 q2) (by decide),rfl,rfl⟩)))
abbrev lJ : Stmt := top 22
theorem uW : bq ["orders", "many", "asker", "order"] ["orders", "many"] (ak lJ) := ⟨rfl,rfl,rfl,by decide +kernel,rfl,by decide +kernel,by decide +kernel⟩
def FD (dd : List Dv) (t : Tr) : Prop := ∃ (os : List (List Int)) (n : Int),(∀ o ∈ os,o.Nodup /\ o.length <= 100 /\ ∀ x ∈ o,0 <= x /\ x < n) /\ dd = [.lst (os.map dis),di n] /\ t = tn
theorem Ex {α : Type} (l : List α) (f : α -> Bool) : er (.ow (l.map fun k => Tr.fz (db (f k)))) = .lst ((l.map f).map db) := by
  rw [eW,List.map_map]; rfl
theorem KQ {f : Addr} {fd : FuncData} {k : Nat} (F : bt K "check_orders" "check_orders" lJ f fd) (T : Txt mg) : aR P w K mg base au (k + 1) f fd ["orders", "many"] (spT K FD) := by
  refine bA F.d uW (fun dd t h => by obtain ⟨_,_,_,rfl,_⟩ := h; rfl) fun dd t h => ?_
  obtain ⟨os,n,ho,rfl,rfl⟩ := h
  refine ⟨_,.inr ⟨rfl,[some (.fz (.lst (os.map dis))),some (ti n),none,none],rfl⟩,?_⟩
  have big : 1000 < sizeLine := by decide
  refine aw (ρ1 := [some (.fz (.lst (os.map dis))),some (ti n),none,none]) (gQ (bz.s (oN T.oq (ae 0 rfl) rfl)) (kr 2 3 (fun _ => uW.nd)) (fun _ => [some (.fz (.lst (os.map dis))),some (ti n),none,none]) rfl (fun _ => rfl) (fun j d hd => ?_)) ?_
  · obtain ⟨x,hx,rfl⟩ := wj hd
    obtain ⟨o,iq,rfl⟩ := fO hx
    obtain ⟨o1,o2,o3⟩ := ho o (List.mem_of_getElem? iq)
    refine ⟨_,_,rfl,aJ (df (Et.s (fB (Fi (bs := o.map fun x => decide (x < 0) || decide (n <= x)) T.G9 (jd (own := ["thing"]) (fr := [1]) o di (fun x => tb (decide (x < 0) || decide (n <= x))) (fun i => lcs ⟨rfl,rfl,by decide +kernel,by decide +kernel,by decide +kernel,by decide +kernel⟩) (dr (ae 3 rfl) rfl) (bX 0 (fun _ => by show List.Nodup (["thing", "many"] : List Str); decide)) (by decide) (by omega) (fun x hx => ⟨_,rfl,GQ (pI (ae 0 rfl) aj) fun _ => sv (Si (ae 0 rfl) (ae 1 rfl))⟩) (fun dd => by cases dd <;> rfl)) (Ex o _)))) ?_),[2,3],rfl⟩
    rw [List.any_eq_false]
    intro b hb
    obtain ⟨x,hx,rfl⟩ := List.mem_map.mp hb
    obtain ⟨x0,x1⟩ := o3 x hx
    simp only [id,decide_eq_false (show ¬ x < 0 by omega),decide_eq_false (show ¬ n <= x by omega)]
    decide
  refine aw (ρ1 := [some (.fz (.lst (os.map dis))),some (ti n),none,none]) (gQ (bz.s (oN T.oq (ae 0 rfl) rfl)) (kr 2 3 (fun _ => uW.nd)) (fun _ => [some (.fz (.lst (os.map dis))),some (ti n),none,none]) rfl (fun _ => rfl) (fun j d hd => ?_)) v9
  obtain ⟨x,hx,rfl⟩ := wj hd
  obtain ⟨o,iq,rfl⟩ := fO hx
  obtain ⟨o1,o2,o3⟩ := ho o (List.mem_of_getElem? iq)
  refine ⟨_,_,rfl,aJ (df (Et.s (xA (Ni T.cz T.SA (ae 3 rfl) rfl (by omega)) (cM T.cz (ae 3 rfl) (.inl rfl)))) ?_),[2,3],rfl⟩
  rw [LU o1,List.length_map]
  simp
abbrev mq : Stmt := top 23
theorem Mo : bq ["counts", "orders"] ["counts", "orders"] (ak mq) := ⟨rfl,rfl,rfl,by decide +kernel,rfl,by decide +kernel,by decide +kernel⟩
def HU (dd : List Dv) (t : Tr) : Prop := ∃ (c : List Int) (os : List (List Int)),cN c os /\ dd = [dis c,.lst (os.map dis)] /\ t = .tp [bB c,ni os]
theorem Mp {f f1 : Addr} {fd aQ : FuncData} {k : Nat} (F : bt K "table_of" "table_of" mq f fd) (T : Txt mg) (K0 : Kn P w K mg base au (k + 1) "check_orders" f1 aQ ["orders", "many"] (spT K FD)) : aR P w K mg base au (k + 2) f fd ["counts", "orders"] (spT K HU) := by
  refine bA F.d Mo (fun dd t h => by obtain ⟨_,_,_,rfl,_⟩ := h; rfl) fun dd t h => ?_
  obtain ⟨c,os,ok,rfl,rfl⟩ := h
  refine ⟨_,.inl rfl,?_⟩
  have big : 1000 < sizeLine := by decide
  have c6 := ok.c6
  have o6 := ok.o6
  have o1 := ok.o1
  obtain ⟨tk,gm⟩ := T.pB
  obtain ⟨tk2,YK⟩ := T.oj
  refine aw (df (Et.s (Ew.et (sI (pH (cM T.cz (ae 0 rfl) (.inl rfl)) (rV (v := .int 6) gm ⟨_,rfl⟩ rfl)) fun _ => (su (pH (cM T.cz (ae 1 rfl) (.inl rfl)) (rV (v := .int 6) gm ⟨_,rfl⟩ rfl)))))) ?_) ?_
  · rw [List.length_map,List.length_map,decide_eq_false (by omega),decide_eq_false (by omega)]; rfl
  refine aw (df (Et.s (jQ (cM T.cz (ae 1 rfl) (.inl rfl)) aj)) ?_) ?_
  · rw [List.length_map,decide_eq_false (by omega)]
  refine aw (df (Et.s (fB (Fi (bs := c.map fun x => decide (x < 0) || decide (9 < x)) T.G9 (jd (own := ["count"]) (fr := []) c di (fun x => tb (decide (x < 0) || decide (9 < x))) (fun i => lcs ⟨rfl,rfl,by decide +kernel,by decide +kernel,by decide +kernel,by decide +kernel⟩) (dr (ae 0 rfl) rfl) (bX 0 (fun _ => by show List.Nodup (["count"] : List Str); decide)) (by decide) (by omega) (fun x hx => ⟨_,rfl,by exact GQ (pI (ae 0 rfl) aj) fun _ => sv (GN (ae 0 rfl) (rV (v := .int 9) YK ⟨_,rfl⟩ rfl))⟩) (fun dd => by cases dd <;> rfl)) (Ex c _)))) ?_) ?_
  · rw [List.any_eq_false]
    intro b hb
    obtain ⟨x,hx,rfl⟩ := List.mem_map.mp hb
    obtain ⟨x0,x1⟩ := ok.cnt x hx
    simp only [id,decide_eq_false (show ¬ x < 0 by omega),decide_eq_false (show ¬ 9 < x by omega)]
    decide
  refine aw (Ee (Ev.s (aU K0 (Nat.le_refl _) (ag (ae 1 rfl) (ag (cM T.cz (ae 0 rfl) (.inl rfl)) ax)) ⟨os,c.length,fun o ho => ⟨ok.nd o ho,Nat.le_trans (ok.fQ ho) (by decide),ok.bj o ho⟩,?_,rfl⟩))) ?_
  rotate_left
  · rw [List.length_map]; rfl
  refine aJ (bW (Ev.s (Ev.to (E9 (ag (rX T.ky (ae 0 rfl) (.inl rfl)) (ag (jd (own := ["order"]) (fr := []) os dis bB (fun i => lcs ⟨rfl,rfl,by decide +kernel,by decide +kernel,by decide +kernel,by decide +kernel⟩) (dr (ae 1 rfl) rfl) (bX 0 (fun _ => by show List.Nodup (["order"] : List Str); decide)) (by decide) (by omega) (fun o ho => ⟨_,rfl,Ev.to (rX T.ky (ae 0 rfl) (.inl rfl)) (by rw [mJ])⟩) (fun dd => by cases dd <;> rfl)) ax)) (by show 2 <= sizeLine; decide)) (by rw [mJ]))))
abbrev lS : Stmt := top 24
theorem uX : bq ["table", "asker", "many", "order"] ["table", "asker"] (ak lS) := ⟨rfl,rfl,rfl,by decide +kernel,rfl,by decide +kernel,by decide +kernel⟩
def pN (dd : List Dv) (t : Tr) : Prop := ∃ (c : List Int) (os : List (List Int)) (a : Int) (o : List Int),c.length <= 100 /\ o.length <= 100 /\ aY os a = some o /\ dd = [bT c os,di a] /\ t = bB (aA c.length o)
theorem wo {α β : Type} (f : α -> β) {l : List α} {k : Int} {x : α} (h : aY l k = some x) : aY (l.map f) k = some (f x) := by
  unfold aY at h ⊢
  rw [List.length_map]
  cases q : fI l.length k with
  | none => rw [q] at h; cases h
  | some j =>
    rw [q] at h
    show (l.map f)[j]? = _
    have h' : l[j]? = some x := h
    rw [List.getElem?_map,h']; rfl
theorem Lw {f : Addr} {fd : FuncData} {k : Nat} (F : bt K "full_order" "full_order" lS f fd) (T : Txt mg) : aR P w K mg base au (k + 1) f fd ["table", "asker"] (spT K pN) := by
  refine bA F.d uX (fun dd t h => by obtain ⟨_,_,_,_,_,_,_,rfl,_⟩ := h; rfl) fun dd t h => ?_
  obtain ⟨c,os,a,o,h1,h2,h3,rfl,rfl⟩ := h
  refine ⟨_,.inl rfl,?_⟩
  have big : 1000 < sizeLine := by decide
  refine aw (aH 2 (Ev.s (cM T.cz (aO (d := dis c) (ae 0 rfl) aj rfl rfl) (.inl rfl))) (fun _ => uX.nd)) ?_
  refine aw (aH 3 (Ev.s (cy (d := dis o) (aO (d := .lst (os.map dis)) (ae 0 rfl) aj rfl rfl) (ae 1 rfl) rfl (wo dis h3))) (fun _ => uX.nd)) ?_
  rw [List.length_map]
  refine aJ (bW (Ev.s (Ev.to (mV (mV (ae 3 rfl) (eA (ag (ae 2 rfl) ax) (by show 1 <= sizeLine; decide)) rfl rfl ?_) (nh (own := ["thing"]) (fr := [3]) (fun i => lcs ⟨rfl,rfl,by decide +kernel,by decide +kernel,by decide +kernel,by decide +kernel⟩) (gf T.fu (ae 2 rfl) ⟨by omega,by omega⟩) (bX 0 (fun _ => by show List.Nodup (["thing", "order"] : List Str); decide)) (by decide) (fun k => !o.contains (0 + ((k : Nat) : Int))) (fun k => ti (0 + ((k : Nat) : Int))) ?_ (fun k d hd => ?_) (fun dd => ?_)) (mX _) (mY _ _) ?_) ?_)))
  · show (o.map di).length + 1 <= sizeLine
    rw [List.length_map]; omega
  · rw [List.length_map,List.length_range]; omega
  · obtain ⟨hi,rfl⟩ := oU hd
    exact ⟨_,rfl,hZ (rK (ae 0 rfl) (ae 1 rfl) rfl (by with_unfolding_all rfl)),fun _ => ae 0 rfl⟩
  · cases dd <;> rfl
  · have e : (fE 0 ((c.length : Nat) : Int).toNat).length = c.length := by simp
    rw [e]
    show ((o.map di) ++ [di _]).length + ((gq c.length o).map di).length <= sizeLine
    have := rD c.length o
    simp only [List.length_append,List.length_map,List.length_singleton]
    omega
  · have e : (fE 0 ((c.length : Nat) : Int).toNat).length = c.length := by simp
    rw [e]
    show Tr.ow ((((o.map di) ++ [di _]) ++ ((gq c.length o).map di)).map .fz) = Tr.ow ((o ++ [(c.length : Int)] ++ gq c.length o).map _)
    simp only [List.map_append,List.map_map]
    rfl
abbrev lU : Stmt := top 25
theorem Lx : bq ["order", "gone"] ["order", "gone"] (ak lU) := ⟨rfl,rfl,rfl,by decide +kernel,rfl,by decide +kernel,by decide +kernel⟩
def bS (order gone : List Int) : List Int := order.filter fun x => !gone.contains x
def w8 (dd : List Dv) (t : Tr) : Prop := ∃ (order gone : List Int) (x : Int) (r : List Int),order.length <= 100 /\ bS order gone = x :: r /\ dd = [dis order,dis gone] /\ t = ti x
theorem LX {α : Type} (l : List α) (d : α) (p : α -> Bool) : (((List.range l.length).filter fun k => p ((l[k]?).getD d)).map fun k => (l[k]?).getD d) = l.filter p := by
  have h : ((List.range l.length).map fun k => (l[k]?).getD d) = l := by
    have := oh l d id
    simpa using this
  conv => rhs; rw [<- h]
  rw [List.filter_map]
  rfl
theorem Ly {f : Addr} {fd : FuncData} {k : Nat} (F : bt K "first_left" "first_left" lU f fd) (T : Txt mg) : aR P w K mg base au (k + 1) f fd ["order", "gone"] (spT K w8) := by
  refine bA F.d Lx (fun dd t h => by obtain ⟨_,_,_,_,_,_,rfl,_⟩ := h; rfl) fun dd t h => ?_
  obtain ⟨order,gone,x,r,h1,h2,rfl,rfl⟩ := h
  refine ⟨_,.inl rfl,?_⟩
  have big : 1000 < sizeLine := by decide
  refine aJ (bW (Ev.s (cy (xs := (bS order gone).map di) (d := di x) (nh (own := ["one"]) (fr := [1]) (fun i => lcs ⟨rfl,rfl,by decide +kernel,by decide +kernel,by decide +kernel,by decide +kernel⟩) (dr (ae 0 rfl) rfl) (bX 0 (fun _ => by show List.Nodup (["one", "gone"] : List Str); decide)) (by decide) (fun k => !gone.contains ((order[k]?).getD 0)) (fun k => ti ((order[k]?).getD 0)) ?_ (fun k d hd => ?_) (fun dd => ?_)) aj ?_ ?_)))
  · rw [List.length_map]; omega
  · obtain ⟨y,hy,rfl⟩ := fO hd
    refine ⟨_,rfl,?_,fun _ => ?_⟩
    · rw [hy]; exact hZ (rK (ae 0 rfl) (ae 1 rfl) rfl (by with_unfolding_all rfl))
    · rw [hy]; exact ae 0 rfl
  · cases dd <;> rfl
  · rw [mY,List.length_map,LX order 0 fun x => !gone.contains x]
    rfl
  · rw [h2]; exact gg (j := 0) rfl
abbrev mB : Stmt := top 38
theorem ou : bq ["table", "turns", "counts", "deal", "asker", "gone"] ["table", "turns"] (ak mB) := ⟨rfl,rfl,rfl,by decide +kernel,rfl,by decide +kernel,by decide +kernel⟩
def yA (ws : List V) (x : Int) : Nat := ws.countP fun z => eQ z (.int x)
def nq (c : List Int) (ws : List V) : List Int := ((List.range c.length).filter fun k => decide (((yA ws ((k : Nat) : Int) : Nat) : Int) = (c[k]?).getD 0)).map fun k => ((k : Nat) : Int)
def nr (c : List Int) (o : List Int) (ws : List V) : Int := (bS (aA c.length o) (nq c ws)).headD 0
def h9 (c : List Int) (os : List (List Int)) (ws : List V) (a : Int) : List V := ws.set a.toNat (.int (nr c (os.getD a.toNat []) ws))
def cA (c : List Int) (os : List (List Int)) (turns : List Int) : List V := turns.foldl (h9 c os) (List.replicate os.length .aM)
def Tn : V -> Int
  | .int n => n
  | _ => 0
def cG (c : List Int) (os : List (List Int)) (turns : List Int) : List Int := (cA c os turns).map Tn
theorem Mq (n : Nat) : (aq n).Pairwise (· <= ·) := by
  unfold aq
  rw [List.pairwise_map]
  exact (List.pairwise_lt_range (n := n)).imp fun h => by omega
theorem Qs {c : List Int} {ws : List V} {x : Int} (h : x ∈ nq c ws) : 0 <= x /\ x < c.length /\ ((yA ws x : Nat) : Int) = (c[x.toNat]?).getD 0 := by
  obtain ⟨k,hk,rfl⟩ := List.mem_map.mp h
  obtain ⟨h1,h2⟩ := List.mem_filter.mp hk
  have := List.mem_range.mp h1
  refine ⟨by omega,by omega,?_⟩
  rw [show ((k : Nat) : Int).toNat = k by omega]
  simpa using h2
theorem Ey (c o : List Int) (ws : List V) : ∃ x r,bS (aA c.length o) (nq c ws) = x :: r := by
  have hm : ((c.length : Nat) : Int) ∈ bS (aA c.length o) (nq c ws) := by
    unfold bS aA
    refine List.mem_filter.mpr ⟨by simp,?_⟩
    rw [Bool.not_eq_true',Bool.eq_false_iff]
    intro z
    have := Qs (by simpa using z)
    omega
  cases h : bS (aA c.length o) (nq c ws) with
  | nil => rw [h] at hm; cases hm
  | cons x r => exact ⟨x,r,rfl⟩
theorem ox (c : List Int) (os : List (List Int)) (ts : List Int) (a : Int) : cA c os (ts ++ [a]) = h9 c os (cA c os ts) a := by unfold cA; rw [List.foldl_append]; rfl
theorem mC (c : List Int) (os : List (List Int)) : ∀ ts : List Int,(cA c os ts).length = os.length := by
  intro ts
  unfold cA
  have gen : ∀ (ts : List Int) (ws : List V),(ts.foldl (h9 c os) ws).length = ws.length := by
    intro ts
    induction ts with
    | nil => intro ws; rfl
    | cons a ts ih => intro ws; rw [List.foldl_cons,ih]; unfold h9; rw [List.length_set]
  rw [gen,List.length_replicate]
theorem Om (c : List Int) (os : List (List Int)) : ∀ (ts : List Int),(∀ a ∈ ts,0 <= a /\ a < os.length) -> ∀ i,i < os.length -> ((i : Int) ∉ ts -> (cA c os ts)[i]? = some .aM) /\ ((i : Int) ∈ ts -> ∃ n,(cA c os ts)[i]? = some (.int n)) := by
  have gen : ∀ (n : Nat) (ts : List Int),ts.length = n -> (∀ a ∈ ts,0 <= a /\ a < os.length) -> ∀ i,i < os.length -> ((i : Int) ∉ ts -> (cA c os ts)[i]? = some .aM) /\ ((i : Int) ∈ ts -> ∃ n,(cA c os ts)[i]? = some (.int n)) := ?_
  exact fun ts => gen ts.length ts rfl
  intro n
  induction n with
  | zero =>
    intro ts hl _ i hi
    obtain rfl := List.length_eq_zero_iff.mp hl
    refine ⟨fun _ => ?_,fun h => nomatch h⟩
    show (List.replicate os.length V.aM)[i]? = _
    rw [List.getElem?_replicate,if_pos hi]
  | succ n ih =>
    intro qQ hl h i hi
    obtain ⟨ts,a,rfl⟩ : ∃ ts a,qQ = ts ++ [a] := by
      rcases List.eq_nil_or_concat qQ with rfl | ⟨ts,a,rfl⟩
      · cases hl
      · exact ⟨ts,a,by rw [List.concat_eq_append]⟩
    obtain ⟨i1,i2⟩ := ih ts (by simpa using hl) (fun x hx => h x (List.mem_append_left _ hx)) i hi
    have ha := h a (by simp)
    rw [ox]
    unfold h9
    rw [List.getElem?_set,mC]
    by_cases e : a.toNat = i
    · rw [if_pos e,if_pos (by omega)]
      refine ⟨fun z => absurd (by simp; right; omega) z,fun _ => ⟨_,rfl⟩⟩
    · rw [if_neg e]
      refine ⟨fun z => i1 fun z' => z (List.mem_append_left _ z'),fun z => i2 ?_⟩
      rcases List.mem_append.mp z with z | z
      · exact z
      · have := List.mem_singleton.mp z
        omega
theorem MK {c : List Int} {os : List (List Int)} {ts : List Int} (h : ts.Perm (aq os.length)) : cA c os ts = (cG c os ts).map V.int := by
  unfold cG
  rw [List.map_map]
  refine List.ext_getElem? fun i => ?_
  rw [List.getElem?_map]
  rcases Nat.lt_or_ge i os.length with hi | hi
  · obtain ⟨n,hn⟩ := (Om c os ts (fun a ha => by have := de.mp (h.mem_iff.mp ha); exact this) i hi).2 (h.mem_iff.mpr (de.mpr ⟨by omega,by omega⟩))
    rw [hn]; rfl
  · rw [List.getElem?_eq_none (by rw [mC]; exact hi)]; rfl
def wq (dd : List Dv) (t : Tr) : Prop := ∃ (c : List Int) (os : List (List Int)) (ts : List Int),cN c os /\ ts.Perm (aq os.length) /\ dd = [bT c os,dis ts] /\ t = bB (cG c os ts)
theorem ML {f f1 f2 : Addr} {fd aQ fd2 : FuncData} {k : Nat} (F : bt K "deal_by" "deal_by" mB f fd) (T : Txt mg) (uZ : Kn P w K mg base au (k + 1) "full_order" f1 aQ ["table", "asker"] (spT K pN)) (u3 : Kn P w K mg base au (k + 1) "first_left" f2 fd2 ["order", "gone"] (spT K w8)) : aR P w K mg base au (k + 2) f fd ["table", "turns"] (spT K wq) := by
  refine bA F.d ou (fun dd t h => by obtain ⟨_,_,_,_,_,rfl,_⟩ := h; rfl) fun dd t h => ?_
  obtain ⟨c,os,ts,ok,hp,rfl,rfl⟩ := h
  refine ⟨_,.inl rfl,?_⟩
  have big : 1000 < sizeLine := by decide
  have hlen : ts.length = os.length := by rw [hp.length_eq]; unfold aq; rw [List.length_map,List.length_range]
  have o6 := ok.o6
  have c6 := ok.c6
  refine aw (aH 2 (Ev.s (aO (d := dis c) (ae 0 rfl) aj rfl rfl)) (fun _ => ou.nd)) ?_
  have SD : sortI ts = aq os.length := Cp ((sortI_perm ts).trans hp) (Ds ts) (Mq _)
  have e1 : er (bB (sortI ts)) = dis (sortI ts) := eY _
  have e2 : er (Tr.ow (((List.range (((os.map dis).length : Nat) : Int).toNat).map fun i => (0 + ((i : Nat) : Int))).map fun n => Tr.fz (di n))) = dis (aq os.length) := by rw [mY,List.map_id',List.length_map]; rfl
  refine aw (df (Et.s (sr (Nj T.DA (ae 1 rfl) rfl (by omega)) (Cg T.ky T.fu (cM T.cz (aO (d := .lst (os.map dis)) (ae 0 rfl) aj rfl rfl) (.inl rfl)) (by omega) (by rw [List.length_map]; omega)) (.inl ⟨_,_,rfl,rfl⟩) ?_)) ?_) ?_
  · rw [e1]; exact Nat.le_trans (rZ _) (by decide)
  · rw [e1,e2,SD,oO (wg _)]; rfl
  refine aw (aH 3 (Ev.s (Ev.to (t' := .ow ((List.replicate os.length V.aM).map fun v => .fz (.fl v))) (nh (own := ["asker"]) (fr := []) (fun i => lcs ⟨rfl,rfl,by decide +kernel,by decide +kernel,by decide +kernel,by decide +kernel⟩) (dr (ae 1 rfl) rfl) (bX 0 (fun _ => by show List.Nodup (["asker"] : List Str); decide)) (by decide) (fun k => true) (fun k => tn) ?_ (fun k d hd => ?_) (fun dd => ?_)) ?_)) (fun _ => ou.nd)) ?_
  · rw [List.length_map]; omega
  · obtain ⟨y,hy,rfl⟩ := fO hd
    exact ⟨_,rfl,pd,fun _ => Q6⟩
  · cases dd <;> rfl
  · rw [List.filter_eq_self.mpr (fun _ _ => rfl),List.length_map,hlen]
    congr 1
    refine List.ext_getElem? fun i => ?_
    rw [List.getElem?_map,List.getElem?_map,List.getElem?_replicate]
    rcases Nat.lt_or_ge i os.length with hi | hi
    · rw [List.getElem?_range hi,if_pos hi]; rfl
    · rw [List.getElem?_eq_none (by simpa using hi),if_neg (by omega)]; rfl
  refine aw (gQ (bz.s (dr (ae 1 rfl) rfl)) (bX 4 (fun _ => ou.nd)) (fun k => [some (.fz (bT c os)),some (.fz (dis ts)),some (.fz (dis c)),some (.ow ((cA c os (ts.take k)).map fun v => .fz (.fl v))),none,none]) rfl (fun _ => rfl) (fun j d hd => ?_)) ?_
  · obtain ⟨a,ha,rfl⟩ := fO hd
    obtain ⟨a0,a1⟩ := de.mp (hp.mem_iff.mp (List.mem_of_getElem? ha))
    obtain ⟨o,zH⟩ : ∃ o,os[a.toNat]? = some o := ⟨_,List.getElem?_eq_getElem (by omega)⟩
    have lD : aY os a = some o := by
      have := gg zH
      rwa [show ((a.toNat : Nat) : Int) = a by omega] at this
    have hol := ok.fQ (List.mem_of_getElem? zH)
    obtain ⟨x,r,hx⟩ := Ey c o (cA c os (ts.take j))
    have YL : (aA c.length o).length <= 100 := by
      unfold aA
      have := rD c.length o
      simp only [List.length_append,List.length_singleton]
      omega
    have SE : nr c (os.getD a.toNat []) (cA c os (ts.take j)) = x := by
      unfold nr
      rw [List.getD_eq_getElem?_getD,zH,Option.getD_some,hx]
      rfl
    refine ⟨_,_,rfl,aw (jL 5 (Ta (dH.to (t' := bB (nq c (cA c os (ts.take j)))) (qE (own := ["thing", "count"]) (fr := [3]) (oN T.oq (ae 2 rfl) rfl) (kr 0 1 (fun _ => by show List.Nodup (["thing", "count", "deal"] : List Str); decide)) (by decide) (fun k => decide (((yA (cA c os (ts.take j)) ((k : Nat) : Int) : Nat) : Int) = (c[k]?).getD 0)) (fun k => ti ((k : Nat) : Int)) ?_ (fun k d hd => ?_) (fun dd => ?_)) ?_) ?_) (fun i => lcs ⟨rfl,rfl,by decide +kernel,by decide +kernel,by decide +kernel,by decide +kernel⟩) (fun _ => ou.nd))
      (aJ (Dr 3 (n := a) (m := a.toNat) rfl (Ev.s (ae 4 rfl)) ?_ (Ev.pk (t := ti x) (aU u3 (Nat.le_refl _) (ag (aU uZ (Nat.le_refl _) (ag (ae 0 rfl) (ag (ae 4 rfl) ax)) ⟨c,os,a,o,by omega,by omega,lD,rfl,rfl⟩) (ag (ae 5 rfl) ax)) ⟨_,_,x,r,YL,hx,?_,rfl⟩) True.intro) (hps := fun i => ER (pv 3) (sJ i) set_list))),[4,5],?_⟩
    · rw [Eg,List.length_map]; omega
    · obtain ⟨y,hy,rfl⟩ := wj hd
      obtain ⟨z,hz,rfl⟩ := fO hy
      refine ⟨_,rfl,?_,fun _ => ae 0 rfl⟩
      rw [hz]
      exact hZ (jQ (Nk (ae 2 rfl) (N8 _) (ae 0 rfl)) (ae 1 rfl))
    · match dd with
      | [] => rfl
      | [_] => rfl
      | _ :: _ :: _ => rfl
    · rw [Eg,List.length_map]
      show _ = Tr.ow ((List.map _ _).map _)
      rw [List.map_map]
      rfl
    · exact v8 _
    · rw [List.length_map,mC]
      unfold fI
      rw [if_pos a0,if_pos a1]
    · show [_,_,_,some (Tr.ow (List.set _ _ _)),_,_] = [_,_,_,some (Tr.ow _),_,_]
      rw [gM ha,ox]
      unfold h9
      rw [SE,List.map_set]
    · show [er (bB _),er (bB _)] = _
      rw [eY,eY]
  · rw [List.length_map,List.take_length,MK hp,List.map_map]
    exact aJ (kj 3 rfl)
end
end bH
namespace bH
open PySem L2 dY
section
variable {P : Program} {w : World} {K : PySem.W.Frag} {mg : Str -> Option Value} {base : Heap}
def hJ (L : List (List Int)) (n : Nat) : List (List Int) := L.flatMap fun l => ((List.range n).filter fun k => !l.contains (0 + ((k : Nat) : Int))).map fun k => l ++ [0 + ((k : Nat) : Int)]
def cw (n : Nat) : Nat -> List (List Int)
  | 0 => [[]]
  | k + 1 => hJ (cw n k) n
abbrev tL (l : List Int) : Tr := .ow (l.map fun n => .fz (di n))
abbrev j7 (L : List (List Int)) : Tr := .ow (L.map tL)
theorem Oo (l : List Int) : dW (l.map fun n => Tr.fz (di n)) = l.map di := by rw [ja,List.map_map]; rfl
theorem SF (l : List Int) : er (tL l) = dis l := by show Dv.lst _ = _; rw [Oo]
theorem FE (L : List (List Int)) : er (j7 L) = .lst (L.map dis) := by
  show Dv.lst _ = _
  rw [ja,List.map_map]
  congr 1
  exact List.map_congr_left fun l _ => SF l
theorem FG : ∀ L : List (List Int),nD (L.map tL)
  | [] => True.intro
  | l :: L => ⟨v8 l,FG L⟩
theorem Ct (n : Nat) : ∀ L : List (List Int),(hJ L n).length <= L.length * n
  | [] => Nat.zero_le _
  | l :: L => by
    show ((((List.range n).filter _).map _) ++ hJ L n).length <= _
    rw [List.length_append,List.length_map,List.length_cons,Nat.succ_mul]
    have h1 := List.length_filter_le (fun k => !l.contains (0 + ((k : Nat) : Int))) (List.range n)
    rw [List.length_range] at h1
    have := Ct n L
    omega
abbrev mG : Stmt := top 39
theorem vv : bq ["lists", "many", "told", "one"] ["lists", "many"] (ak mG) := ⟨rfl,rfl,rfl,by decide +kernel,rfl,by decide +kernel,by decide +kernel⟩
def Ez (dd : List Dv) (t : Tr) : Prop := ∃ (L : List (List Int)) (n : Nat),dd = [.lst (L.map dis),di n] /\ L.length * n <= 1000 /\ n <= 100 /\ (∀ l ∈ L,l.length <= 100) /\ t = j7 (hJ L n)
theorem Nv {f : Addr} {fd : FuncData} {k : Nat} (F : bt K "longer" "longer" mG f fd) (T : Txt mg) : aR P w K mg base au (k + 1) f fd ["lists", "many"] (spT K Ez) := by
  refine bA F.d vv (fun dd t h => by obtain ⟨L,n,rfl,_⟩ := h; rfl) fun dd t h => ?_
  obtain ⟨L,n,rfl,h1,h2,h3,rfl⟩ := h
  refine ⟨_,.inl rfl,?_⟩
  have big : 1000 <= sizeLine := by decide
  refine aw (aH 2 (Ev.s (eA ax (Nat.zero_le _))) (fun _ => vv.nd)) ?_
  refine aw (gQ (bz.s (dr (ae 0 rfl) rfl)) (bX 3 (fun _ => vv.nd)) (fun k => [some (.fz (.lst (L.map dis))),some (.fz (di n)),some (j7 (hJ (L.take k) n)),none]) rfl (fun _ => rfl) (fun j d hd => ?_)) ?_
  · rw [List.getElem?_map] at hd
    cases hl : L[j]? with
    | none => rw [hl] at hd; cases hd
    | some l =>
      rw [hl] at hd
      cases hd
      have hjL : j < L.length := (List.getElem?_eq_some_iff.mp hl).1
      have e : (hJ (L.take (j + 1)) n) = hJ (L.take j) n ++ ((List.range n).filter fun k => !l.contains (0 + ((k : Nat) : Int))).map fun k => l ++ [0 + ((k : Nat) : Int)] := by
        rw [gM hl]
        unfold hJ
        rw [List.flatMap_append]
        simp
      have hlen : (hJ (L.take (j + 1)) n).length <= 1000 := by
        refine Nat.le_trans (Ct _ _) (Nat.le_trans (Nat.mul_le_mul_right n ?_) h1)
        rw [List.length_take]; omega
      refine ⟨_,_,rfl,aJ (Nf 2 rfl (Ev.s (nh (own := ["number"]) (fr := [3]) (fun i => lcs ⟨rfl,rfl,by decide +kernel,by decide +kernel,by decide +kernel,by decide +kernel⟩) (gf T.fu (ae 1 rfl) ⟨by omega,by omega⟩)
        (bX 0 (fun _ => by show List.Nodup (["number", "one"] : List Str); decide)) (by decide) (fun k => !l.contains (0 + (k : Int))) (fun k => .ow ((l.map di ++ [di (0 + ((k : Nat) : Int))]).map .fz)) ?_ (fun k d hd => ?_) (fun dd => ?_))) ?_),?_⟩
      · rw [List.length_map,List.length_range]
        show (n : Int).toNat < sizeLine
        omega
      · rw [List.getElem?_map] at hd
        cases hk : (List.range ((n : Int).toNat))[k]? with
        | none => rw [hk] at hd; cases hd
        | some k' =>
          have : k' = k := by
            obtain ⟨q1,q2⟩ := List.getElem?_eq_some_iff.mp hk
            rw [List.getElem_range] at q2; exact q2.symm
          subst this
          rw [hk] at hd
          cases hd
          refine ⟨_,rfl,hZ (rK (ae 0 rfl) (ae 1 rfl) rfl (by with_unfolding_all rfl)),fun _ => mV (ae 1 rfl) (eA (ag (ae 0 rfl) ax) (by show 1 <= sizeLine; decide)) rfl rfl ?_⟩
          show (l.map di).length + 1 <= sizeLine
          have := h3 l (List.mem_of_getElem? hl)
          rw [List.length_map]
          omega
      · cases dd <;> rfl
      · rw [List.length_map,List.length_map]
        have := congrArg List.length e
        rw [List.length_append,List.length_map] at this
        rw [List.length_map,List.length_range]
        show _ + (List.filter _ (List.range n)).length <= sizeLine
        omega
      · refine ⟨[3],?_⟩
        have eT : j7 (hJ (L.take (j + 1)) n) = .ow (List.map tL (hJ (L.take j) n) ++ List.map (fun k => Tr.ow (List.map Tr.fz (List.map di l ++ [di (0 + ((k : Nat) : Int))]))) (List.filter (fun k => !l.contains (0 + ((k : Nat) : Int))) (List.range (fE 0 ((n : Nat) : Int).toNat).length))) := by
          rw [e]
          unfold j7
          rw [List.map_append,List.map_map,List.length_map,List.length_range]
          congr 2
          refine List.map_congr_left fun k _ => ?_
          show Tr.ow _ = Tr.ow _
          rw [List.map_append,List.map_append,List.map_map]
          rfl
        show [_,_,some _,_] = [_,_,some _,_]
        rw [eT]
  · rw [List.length_map,List.take_length]
    exact aJ (kj 2 rfl)
abbrev lY : Stmt := top 40
theorem rk : bq ["many", "told", "length"] ["many"] (ak lY) := ⟨rfl,rfl,rfl,by decide +kernel,rfl,by decide +kernel,by decide +kernel⟩
def FH (dd : List Dv) (t : Tr) : Prop := ∃ n : Nat,n <= 5 /\ dd = [di n] /\ t = j7 (cw n n)
theorem Mr : ∀ n,n <= 5 -> ∀ k,k <= n -> (cw n k).length * n <= 1000 /\ ∀ l ∈ cw n k,l.length <= 100 := by
  have : ∀ n : Fin 6,∀ k : Fin (n.val + 1),(cw n.val k.val).length * n.val <= 1000 /\ ((cw n.val k.val).all fun l => decide (l.length <= 100)) = true := by decide +kernel
  intro n hn k hk
  obtain ⟨h1,h2⟩ := this ⟨n,by omega⟩ ⟨k,by show k < n + 1; omega⟩
  exact ⟨h1,fun l hl => by simpa using List.all_eq_true.mp h2 l hl⟩
theorem LY {f f1 : Addr} {fd aQ : FuncData} {k : Nat} (F : bt K "all_turns" "all_turns" lY f fd) (T : Txt mg) (Oq : Kn P w K mg base au (k + 1) "longer" f1 aQ ["lists", "many"] (spT K Ez)) : aR P w K mg base au (k + 2) f fd ["many"] (spT K FH) := by
  refine bA F.d rk (fun dd t h => by obtain ⟨n,_,rfl,_⟩ := h; rfl) fun dd t h => ?_
  obtain ⟨n,hn,rfl,rfl⟩ := h
  obtain ⟨tk,hg⟩ := T.oi
  refine ⟨_,.inl rfl,?_⟩
  refine aw (xB (Et.s (pH (ae 0 rfl) (rV (v := .int 5) hg ⟨_,rfl⟩ rfl))) (fun h => ?_) (fun h => v9)) ?_
  · exact absurd (of_decide_eq_true h) (by omega)
  refine aw (aH 1 (Ev.s (eA (ag (eA ax (Nat.zero_le _)) ax) (by show 1 <= sizeLine; decide))) (fun _ => rk.nd)) ?_
  refine aw (gQ (bz.s (gf T.fu (ae 0 rfl) ⟨by omega,by omega⟩)) (bX 2 (fun _ => rk.nd)) (fun k => [some (.fz (di n)),some (j7 (cw n k)),none]) rfl (fun _ => rfl) (fun j d hd => ?_)) ?_
  · have hj : j < n := by
      have := (List.getElem?_eq_some_iff.mp hd).1
      simpa using this
    obtain ⟨b1,b2⟩ := Mr n hn j (by omega)
    refine ⟨_,_,rfl,aJ (aH 1 (Ev.pk (aU Oq (Nat.le_refl _) (ag (ae 1 rfl) (ag (ae 0 rfl) ax)) ⟨cw n j,n,?_,b1,by omega,b2,rfl⟩) ?_) (fun _ => rk.nd)),[2],rfl⟩
    · exact FG _
    · show [er (j7 (cw n j)),di n] = _
      rw [FE]
  · rw [List.length_map,List.length_range]
    exact aJ (kj 1 rfl)
theorem Ot {order gone : List Int} {x : Int} {r : List Int} (h : bS order gone = x :: r) : x ∈ order /\ x ∉ gone := by
  have : x ∈ bS order gone := by rw [h]; exact .head _
  obtain ⟨a,b⟩ := List.mem_filter.mp this
  exact ⟨a,by simpa using b⟩
theorem Ou {n : Nat} {o : List Int} (ho : ∀ x ∈ o,0 <= x /\ x < n) : ∀ x ∈ aA n o,0 <= x /\ x <= n := by
  intro x hx
  unfold aA at hx
  rcases List.mem_append.mp hx with hx | hx
  · rcases List.mem_append.mp hx with hx | hx
    · have := ho x hx; omega
    · have := List.mem_singleton.mp hx; omega
  · unfold gq at hx
    obtain ⟨k,hk,rfl⟩ := List.mem_map.mp hx
    have := List.mem_range.mp (List.mem_filter.mp hk).1
    omega
theorem DC (c : List Int) (os : List (List Int)) {i : Nat} : ∀ (ts : List Int) (ws : List V),(∀ a ∈ ts,a.toNat ≠ i) -> (ts.foldl (h9 c os) ws)[i]? = ws[i]?
  | [],_,_ => rfl
  | a :: ts,ws,h => by
    rw [List.foldl_cons,DC c os ts _ fun b hb => h b (.tail _ hb)]
    unfold h9
    rw [List.getElem?_set_ne (h a (.head _))]
theorem Nx {c : List Int} {os : List (List Int)} {ts : List Int} (hp : ts.Perm (aq os.length)) {j : Nat} {a : Int} (ha : ts[j]? = some a) : (cA c os ts)[a.toNat]? = some (.int (nr c (os.getD a.toNat []) (cA c os (ts.take j)))) := by
  have hj : j < ts.length := (List.getElem?_eq_some_iff.mp ha).1
  have e : ts = (ts.take j ++ [a]) ++ ts.drop (j + 1) := by rw [<- gM ha,List.take_append_drop]
  have nd : ts.Nodup := hp.nodup_iff.mpr (vg _)
  have r : ∀ x ∈ ts,0 <= x /\ x < os.length := fun x hx => de.mp (hp.mem_iff.mp hx)
  have ra := r a (List.mem_of_getElem? ha)
  have off : ∀ b ∈ ts.drop (j + 1),b.toNat ≠ a.toNat := fun b hb z => by
    have rb := r b (List.mem_of_mem_drop hb)
    have : b = a := by omega
    subst this
    rw [e] at nd
    exact (List.nodup_append.mp nd).2.2 b (by simp) b hb rfl
  have e2 : cA c os ts = (ts.drop (j + 1)).foldl (h9 c os) (cA c os (ts.take j ++ [a])) := by
    conv => lhs; rw [e]
    unfold cA
    rw [List.foldl_append]
  rw [e2,DC c os _ _ off,ox]
  unfold h9
  rw [List.getElem?_set_self (by rw [mC]; omega)]
def dO (D : List (List Int)) : List (List Int) := D.foldl (fun acc d => if d ∈ acc then acc else acc ++ [d]) []
theorem rm (D : List (List Int)) (d : List Int) : dO (D ++ [d]) = if d ∈ dO D then dO D else dO D ++ [d] := by unfold dO; rw [List.foldl_append]; rfl
theorem snoc_ind {α : Type} {p : List α -> Prop} (h0 : p []) (h1 : ∀ l x,p l -> p (l ++ [x])) : ∀ l,p l := by
  have gen : ∀ n (l : List α),l.length = n -> p l := by
    intro n
    induction n with
    | zero => intro l h; rw [List.length_eq_zero_iff.mp h]; exact h0
    | succ n ih =>
      intro l h
      rcases List.eq_nil_or_concat l with rfl | ⟨l',x,rfl⟩
      · exact h0
      · rw [List.concat_eq_append] at h ⊢
        exact h1 l' x (ih l' (by simpa using h))
  exact fun l => gen l.length l rfl
theorem oy {x : List Int} : ∀ D,x ∈ dO D ↔ x ∈ D := by
  refine snoc_ind (by simp [dO]) fun D d ih => ?_
  rw [rm]
  split
  · rename_i h
    rw [ih]
    constructor
    · exact fun z => List.mem_append_left _ z
    · intro z
      rcases List.mem_append.mp z with z | z
      · exact z
      · rw [List.mem_singleton.mp z]; exact ih.mp (by rw [<- List.mem_singleton.mp z] at h; exact h) |> fun q => by rw [List.mem_singleton.mp z] at q; exact q
  · rw [List.mem_append,List.mem_append,ih]
theorem Ny : ∀ D,(dO D).Nodup := by
  refine snoc_ind List.nodup_nil fun D d ih => ?_
  rw [rm]
  split
  · exact ih
  · rename_i h
    exact List.nodup_append.mpr ⟨ih,by simp,fun x hx y hy e => h (by rw [List.mem_singleton.mp hy] at e; rw [<- e]; exact hx)⟩
def fk {κ : Type} (f : List Int -> κ) (D : List (List Int)) : List (κ × V) := (dO D).map fun d => (f d,V.int (D.count d : Nat))
section
variable {κ : Type} [DecidableEq κ] {f : List Int -> κ}
theorem FI (inj : ∀ a b,f a = f b -> a = b) (g : List Int -> V) (x : List Int) : ∀ l : List (List Int),((l.map fun d => (f d,g d)).any fun kv => decide (kv.1 = f x)) = decide (x ∈ l)
  | [] => rfl
  | d :: l => by
    rw [List.map_cons,List.any_cons,FI inj g x l]
    by_cases e : d = x
    · subst e; simp
    · have : f d ≠ f x := fun z => e (inj _ _ z)
      simp [this,Ne.symm e]
theorem xf (inj : ∀ a b,f a = f b -> a = b) (g : List Int -> V) (x : List Int) : ∀ l : List (List Int),fe (l.map fun d => (f d,g d)) (f x) = if x ∈ l then some (g x) else none
  | [] => rfl
  | d :: l => by
    have ih := xf inj g x l
    unfold fe at ih ⊢
    rw [List.map_cons,List.find?_cons]
    by_cases e : d = x
    · subst e; simp
    · have : f d ≠ f x := fun z => e (inj _ _ z)
      rw [decide_eq_false this]
      simp only [ih,List.mem_cons,Ne.symm e,false_or]
theorem Rz (inj : ∀ a b,f a = f b -> a = b) (D : List (List Int)) (d : List Int) : putK (fk f D) (f d) (.int (D.count d + 1 : Nat)) = fk f (D ++ [d]) := by
  unfold putK fk
  rw [FI inj]
  have hc : ∀ y,(D ++ [d]).count y = if y = d then D.count d + 1 else D.count y := fun y => by
    rw [List.count_append,List.count_singleton]
    by_cases e : y = d
    · subst e; simp
    · rw [if_neg e,if_neg (by simpa using Ne.symm e)]; omega
  rw [rm]
  by_cases h : d ∈ dO D
  · rw [if_pos (decide_eq_true h),if_pos h,List.map_map]
    refine List.map_congr_left fun y _ => ?_
    show (if f y = f d then _ else _) = _
    rw [hc]
    by_cases e : y = d
    · subst e; rw [if_pos rfl,if_pos rfl]
    · rw [if_neg fun z => e (inj _ _ z),if_neg e]
  · rw [if_neg (by rw [decide_eq_false h]; decide),if_neg h,List.map_append]
    congr 1
    · refine List.map_congr_left fun y hy => ?_
      rw [hc,if_neg fun e => h (by rw [<- e]; exact hy)]
    · rw [List.map_cons,List.map_nil,hc,if_pos rfl]
theorem RA (inj : ∀ a b,f a = f b -> a = b) (D : List (List Int)) (d : List Int) : (fe (fk f D) (f d)).getD (.int 0) = .int (D.count d : Nat) := by
  unfold fk
  rw [xf inj]
  by_cases h : d ∈ dO D
  · rw [if_pos h]; rfl
  · rw [if_neg h,List.count_eq_zero.mpr fun z => h ((oy D).mpr z)]; rfl
theorem SG (inj : ∀ a b,f a = f b -> a = b) {D : List (List Int)} {d : List Int} (h : d ∈ D) : fe (fk f D) (f d) = some (.int (D.count d : Nat)) := by
  unfold fk
  rw [xf inj,if_pos ((oy D).mpr h)]
end
theorem vh (D : List (List Int)) : (dO D).length <= D.length := by
  refine snoc_ind (p := fun D => (dO D).length <= D.length) (Nat.le_refl _) (fun D d ih => ?_) D
  rw [rm,List.length_append]
  split
  · omega
  · rw [List.length_append]; simp; omega
end
end bH
namespace bH
open PySem L2 dY
section
variable {P : Program} {w : World} {K : PySem.W.Frag} {mg : Str -> Option Value} {base : Heap}
theorem CD : ∀ n,n <= 5 -> ∀ l ∈ cw n n,l.Perm (aq n) := by
  have : ∀ n : Fin 6,((cw n.val n.val).all fun l => l.isPerm (aq n.val)) = true := by decide +kernel
  intro n hn l hl
  exact List.isPerm_iff.mp (List.all_eq_true.mp (this ⟨n,by omega⟩) l hl)
theorem vw : ∀ n,n <= 5 -> 1 <= (cw n n).length /\ (cw n n).length <= 120 := by
  have : ∀ n : Fin 6,1 <= (cw n.val n.val).length /\ (cw n.val n.val).length <= 120 := by decide +kernel
  intro n hn
  exact this ⟨n,by omega⟩
def kM (d : List Int) : List (List Int) -> List (List Int)
  | [] => [d]
  | x :: l => if So.lexLt x d = true then x :: kM d l else d :: x :: l
def kB (l : List (List Int)) : List (List Int) := l.foldr kM []
theorem vz (d : List Int) : ∀ l,(kM d l).Perm (d :: l)
  | [] => .refl _
  | x :: l => by
    unfold kM
    split
    · exact ((vz d l).cons x).trans (List.Perm.swap d x l)
    · exact .refl _
theorem oz : ∀ l,(kB l).Perm l
  | [] => .refl _
  | x :: l => (vz x (kB l)).trans ((oz l).cons x)
def fM (x y : List Int) : Prop := So.lexLt y x = false
theorem Nz {a b c : List Int} (h1 : fM a b) (h2 : fM b c) : fM a c := by
  unfold fM at *
  cases h : So.lexLt c a with
  | false => rfl
  | true =>
    rcases So.w4 c b a h with z | z
    · rw [h2] at z; cases z
    · rw [h1] at z; cases z
theorem RB {a b : List Int} (h : So.lexLt a b = true) : fM a b := by
  unfold fM
  cases z : So.lexLt b a with
  | false => rfl
  | true =>
    have := So.wZ a b a h z
    rw [So.wk] at this; cases this
theorem EA (d : List Int) : ∀ l,l.Pairwise fM -> (kM d l).Pairwise fM
  | [],_ => by simp [kM]
  | x :: l,h => by
    have hx := List.pairwise_cons.mp h
    unfold kM
    split
    · rename_i aZ
      refine List.pairwise_cons.mpr ⟨fun y hy => ?_,EA d l hx.2⟩
      rcases List.mem_cons.mp ((vz d l).mem_iff.mp hy) with rfl | z
      · exact RB aZ
      · exact hx.1 y z
    · rename_i aZ
      have hd : fM d x := by unfold fM; simpa using aZ
      refine List.pairwise_cons.mpr ⟨fun y hy => ?_,h⟩
      rcases List.mem_cons.mp hy with rfl | z
      · exact hd
      · exact Nz hd (hx.1 y z)
theorem DE : ∀ l,(kB l).Pairwise fM
  | [] => .nil
  | x :: l => EA x _ (DE l)
theorem Cj : ∀ {a b : List (List Int)},a.Perm b -> a.Pairwise fM -> b.Pairwise fM -> a = b
  | [],b,p,_,_ => (List.nil_perm.mp p).symm
  | x :: a,[],p,_,_ => by have := p.length_eq; cases this
  | x :: a,y :: b,p,ha,hb => by
    have pa := List.pairwise_cons.mp ha
    have pb := List.pairwise_cons.mp hb
    have e : x = y := by
      have h1 : fM x y \/ x = y := by
        rcases List.mem_cons.mp (p.mem_iff.mpr (.head _)) with z | z
        · exact .inr z.symm
        · exact .inl (pa.1 y z)
      have h2 : fM y x \/ x = y := by
        rcases List.mem_cons.mp (p.mem_iff.mp (.head _)) with z | z
        · exact .inr z
        · exact .inl (pb.1 x z)
      rcases h1 with h1 | h1
      · rcases h2 with h2 | h2
        · exact So.wm x y h2 h1
        · exact h2
      · exact h1
    subst e
    rw [Cj (p.cons_inv) pa.2 pb.2]
def cj (c : List Int) (os : List (List Int)) : List (List Int) := (cw os.length os.length).map (cG c os)
def nu (c : List Int) (os : List (List Int)) : List (List Int) := kB (dO (cj c os))
end
end bH
namespace bH
open PySem L2 dY
section
variable {P : Program} {w : World} {K : PySem.W.Frag} {mg : Str -> Option Value} {base : Heap}
abbrev bZ : Stmt := top 41
theorem ot : bq ["table", "lists", "often", "turns", "deal"] ["table"] (ak bZ) := ⟨rfl,rfl,rfl,by decide +kernel,rfl,by decide +kernel,by decide +kernel⟩
def tf (c : List Int) (os : List (List Int)) : Tr := .ow ((nu c os).map fun d => .tp [tF (fW ((cw os.length os.length).length : Nat) ((cj c os).count d : Nat)),bB d])
def DF (dd : List Dv) (t : Tr) : Prop := ∃ c os,cN c os /\ os.length <= 5 /\ dd = [bT c os] /\ t = tf c os
abbrev fN (d : List Int) : List Key := d.map Sum.inl
theorem xg (a b : List Int) (h : fN a = fN b) : a = b := by
  have := congrArg (List.map fun k : Key => match k with | .inl n => n | .inr _ => 0) h
  unfold fN at this
  rw [List.map_map,List.map_map] at this
  have e : ∀ l : List Int,l.map ((fun k : Key => match k with | .inl n => n | .inr _ => 0) ∘ Sum.inl) = l := fun l => (List.map_congr_left (g := id) fun _ _ => rfl).trans (List.map_id l)
  rwa [e,e] at this
theorem He (d : List Int) : (fN d).map kV = d.map V.int := by unfold fN; rw [List.map_map]; rfl
theorem LZ {L : List (List Int)} {g : List Int -> List Int} {i : Nat} {ts : List Int} (h : L[i]? = some ts) : (L.map g).take (i + 1) = (L.map g).take i ++ [g ts] := by
  rw [<- List.map_take,<- List.map_take,gM h,List.map_append]; rfl
abbrev dc : List Str := ["table", "lists", "often", "turns", "deal"]
def To : Stmt -> Expr
  | .Assign _ e _ => e
  | _ => .Constant .none 0 ⟨0,0,0,0⟩
def Tp : Stmt -> List Stmt
  | .For _ _ b _ _ => b
  | _ => []
abbrev tj (j : Nat) : Stmt := (aI bZ).getD j (.Pass ⟨0,0,0,0⟩)
abbrev YM : Expr := To ((Tp (tj 2)).getD 0 (.Pass ⟨0,0,0,0⟩))
theorem SH {ι : Type} {F : bb ι} {e : Expr} {ρ : En} {t : Tr} {σ : St} {G H : Hp} {Q : VK} (h : Ev F e ρ t) (s : ao G H) (r : bQ F.K G ρ σ) (kk : Kv F.K G H t Q) : uE F e σ H Q := let ⟨τ,p,q⟩ := h; ⟨τ,p,q σ G H Q s r kk⟩
theorem Ov {K : PySem.W.Frag} {G : Hp} {d0 d1 d3 : Dv} {v0 v1 v3 : V} {o2 o4 : Option V} (h0 : Hv K G d0 v0) (h1 : Hv K G d1 v1) (h3 : Hv K G d3 v3) : bQ K G [some (.fz d0),some (.fz d1),none,some (.fz d3),none] [some v0,some v1,o2,some v3,o4] := fun j d h => by
  match j,h with
  | 0,h => cases h; exact ⟨v0,rfl,h0⟩
  | 1,h => cases h; exact ⟨v1,rfl,h1⟩
  | 3,h => cases h; exact ⟨v3,rfl,h3⟩
  | 2,h => cases h
  | 4,h => cases h
  | n + 5,h => cases h
theorem RC {f : Addr} {k : Nat} : ∃ τ : TS,(∀ i,PS ((cC P w K mg base dc "turn_mix" (ak bZ) f (k + 2)).cx i) (tj 1) τ) /\ ∀ D σ H,(∀ p,H p = none -> D.nx (σ.set 2 (some (.ref p))) (upd H p (.dT []))) -> τ D σ H :=
  ⟨_,fun i => wG (i := 2) ot.nd rfl (Or.inr rfl) Ob,fun D σ H h => h⟩
theorem RD {f f2 : Addr} {fd2 : FuncData} {k : Nat} {c : List Int} {os L : List (List Int)} (T : Txt mg) (vA : Kn P w K mg base au (k + 2) "deal_by" f2 fd2 ["table", "turns"] (spT K wq)) (ok : cN c os) (Lp : ∀ ts ∈ L,ts.Perm (aq os.length)) (Ll : L.length <= 120) :
    ∃ τ : TS,(∀ i,PS ((cC P w K mg base dc "turn_mix" (ak bZ) f (k + 2)).cx i) (tj 2) τ) /\ ∀ (D : Ends) (v0 : V) (l1 p : Addr) (o3 o4 : Option V) (G0 H0 G H : Hp) (vs : List V),Step G0 H0 G H -> Hv K G (bT c os) v0 -> aN K G l1 vs -> aP K G (L.map dis) vs -> H0 p = none -> G p = none -> H p = some (.dT []) ->
      (∀ o3 o4 G' H',Step G0 H0 G' H' -> ao G G' -> G' p = none -> H' p = some (.dT (fk fN (L.map (cG c os)))) -> D.nx [some v0,some (.ref l1),some (.ref p),o3,o4] H') -> τ D [some v0,some (.ref l1),some (.ref p),o3,o4] H := by
  refine ⟨sU (pE K (cP 1)) (eE 3) (kF (kG (uE (cC P w K mg base dc "turn_mix" (ak bZ) f (k + 2)) YM) (eE 4)) (xF (cP 2) (cP 4) (iz (jX fun i j => .int (i + j)) (wX (cP 2) (cP 4) (tC (.int 0))) (tC (.int 1))))),fun i => ?_,?_⟩
  · exact EW (X := (cC P w K mg base dc "turn_mix" (ak bZ) f (k + 2)).cx i) (tg := .Name "turns" _) (iter := .Name "lists" _) (yr rfl) rfl (vX (X := (cC P w K mg base dc "turn_mix" (ak bZ) f (k + 2)).cx i) (pv (X := (cC P w K mg base dc "turn_mix" (ak bZ) f (k + 2)).cx i) (x := "lists") 1)) (jI (X := (cC P w K mg base dc "turn_mix" (ak bZ) f (k + 2)).cx i) (i := 3) ot.nd rfl (Or.inl rfl)) (oH (wG (X := (cC P w K mg base dc "turn_mix" (ak bZ) f (k + 2)).cx i) (i := 4) ot.nd rfl (Or.inl rfl) (sJ i)) (vW (PF (X := (cC P w K mg base dc "turn_mix" (ak bZ) f (k + 2)).cx i) (xx i.hr) (pv (X := (cC P w K mg base dc "turn_mix" (ak bZ) f (k + 2)).cx i) (x := "often") 2) (pv (X := (cC P w K mg base dc "turn_mix" (ak bZ) f (k + 2)).cx i) (x := "deal") 4) (Gu (X := (cC P w K mg base dc "turn_mix" (ak bZ) f (k + 2)).cx i) EX (Oc (X := (cC P w K mg base dc "turn_mix" (ak bZ) f (k + 2)).cx i) (xx i.hr) (pv (X := (cC P w K mg base dc "turn_mix" (ak bZ) f (k + 2)).cx i) (x := "often") 2) (pv (X := (cC P w K mg base dc "turn_mix" (ak bZ) f (k + 2)).cx i) (x := "deal") 4) wD ⟨rfl,rfl,rfl,rfl⟩) wD) rfl)))
  intro D v0 l1 p o3 o4 G0 H0 G H vs st h0 sq hv tX YN YQ fin
  have hl : vs.length = L.length := by rw [<- hv.length,List.length_map]
  refine Nb (a := l1) (xs := vs) rfl (st.s.seq sq) (fun i aD H' => ∃ o3 o4 G',aD = [some v0,some (.ref l1),some (.ref p),o3,o4] /\ Step G0 H0 G' H' /\ ao G G' /\ G' p = none /\ H' p = some (.dT (fk fN ((L.map (cG c os)).take i)))) ⟨o3,o4,G,rfl,st,ao.refl _,YN,YQ⟩ (fun i aD H' _ z => ?_) (fun i x aD H' hx z => ?_) (fun aD H' z => ?_)
  · obtain ⟨_,_,G',_,s',g',_⟩ := z
    exact (g'.trans s'.s).seq sq
  · obtain ⟨o3,o4,G',rfl,s',g',np,hd⟩ := z
    obtain ⟨ts,qR⟩ : ∃ ts,L[i]? = some ts := ⟨_,List.getElem?_eq_getElem (by have := (List.getElem?_eq_some_iff.mp hx).1; omega)⟩
    have YR : Hv K G (dis ts) x := by
      obtain ⟨v,e1,e2⟩ := hv.get (show (L.map dis)[i]? = some (dis ts) by rw [List.getElem?_map,qR]; rfl)
      rw [hx] at e1
      cases e1
      exact e2
    have YS := List.mem_of_getElem? qR
    dsimp only [eE,kF,kG,List.set]
    refine SH (ρ := [some (.fz (bT c os)),some (.fz (.lst (L.map dis))),none,some (.fz (dis ts)),none]) (t := .tp ((cG c os ts).map fun n => .fz (di n))) (Ev.to (Ol T.Qp (aU vA (Nat.le_refl _) (ag (ae 0 rfl) (ag (ae 3 rfl) ax)) ⟨c,os,ts,ok,Lp ts YS,rfl,rfl⟩) (eY _)) (by rw [mJ])) s'.s (Ov (h0.mono g') ⟨l1,vs,rfl,g'.seq sq,hv.mono g'⟩ (YR.mono g')) fun v G2 H2 fq aG ow nw => ?_
    obtain ⟨b,ws,X1,rfl,hb,iD,_⟩ := ow
    obtain ⟨rfl,rfl⟩ := Dz iD
    have hd2 := aG.h _ _ hd
    have fU : H2 b = some (.tup ((fN (cG c os ts)).map kV)) := by rw [He]; exact hb
    have zI : G2 p = none := by
      cases q : G2 p with
      | none => rfl
      | some u =>
        have := aG.n p np (by rw [q]; exact fun z => nomatch z)
        rw [hd] at this; cases this
    have lim : ((fk fN ((L.map (cG c os)).take i)) : List (List Key × V)).length < sizeLine := by
      have := vh ((L.map (cG c os)).take i)
      have h2 : ((L.map (cG c os)).take i).length <= 120 := by rw [List.length_take,List.length_map]; omega
      have big : 1000 < sizeLine := by decide
      unfold fk
      rw [List.length_map]; omega
    have eg := RA (κ := List Key) xg ((L.map (cG c os)).take i) (cG c os ts)
    have ep := Rz (κ := List Key) xg ((L.map (cG c os)).take i) (cG c os ts)
    dsimp only [eE,List.set,xF,iz,wX,cP,tC]
    refine ⟨_,rfl,p,rfl,.inr ⟨_,.inl hd2⟩,_,rfl,_,jn.t hd2 fU,_,_,eg,rfl,?_⟩
    refine ⟨_,rfl,_,rfl,p,_,rfl,pZ.t hd2 fU lim,some x,some (.ref b),G2,rfl,?_,g'.trans aG.g,zI,?_⟩
    · have t9 := s'.trans aG
      refine ⟨t9.g,fun a o e => ?_,fun a o e => ?_,t9.n⟩
      · rw [bh fun z => by subst z; rw [tX] at e; cases e]
        exact t9.h a o e
      · rw [bh fun z => by subst z; rw [zI] at e; cases e]
        exact t9.s a o e
    · rw [cL,LZ qR,<- ep]
      rfl
  · obtain ⟨o3,o4,G',rfl,s',g',np,hd⟩ := z
    rw [hl,List.take_of_length_le (by rw [List.length_map]; exact Nat.le_refl _)] at hd
    exact fin o3 o4 G' H' s' g' np hd
def Hf (K : PySem.W.Frag) : List V -> Hp -> VK -> Prop := fun xs H Q => ∃ p ys,xs = [.ref p] /\ (aN K H p ys \/ cH K H p ys) /\ Q (.int ys.length) H
def Hg (K : PySem.W.Frag) : List V -> Hp -> VK -> Prop := fun xs H Q => ∃ p ys,xs = [.ref p] /\ (aN K H p ys \/ cH K H p ys) /\ ∀ l,H l = none -> Q (.ref l) (upd H l (.lst ys))
theorem Lz {α β : Type} (l : List α) (g : α -> β) (e : α) : (List.range l.length).map (fun i => g (l.getD i e)) = l.map g := by
  refine List.ext_getElem? fun n => ?_
  rw [List.getElem?_map,List.getElem?_map]
  by_cases hn : n < l.length
  · rw [List.getElem?_range hn,List.getElem?_eq_getElem hn]
    show some (g (l.getD n e)) = some (g l[n])
    rw [List.getD_eq_getElem?_getD,List.getElem?_eq_getElem hn]; rfl
  · rw [List.getElem?_eq_none (by rw [List.length_range]; omega),List.getElem?_eq_none (by omega)]; rfl
theorem FJ {K : PySem.W.Frag} {G H : Hp} : ∀ d : List Int,aK K G H (d.map fun n => Tr.fz (di n)) (d.map V.int) []
  | [] => ⟨rfl,rfl⟩
  | n :: d => ⟨.int n,d.map V.int,[],[],rfl,rfl,⟨rfl,rfl,rfl⟩,FJ d⟩
theorem RE {f f3 : Addr} {gK : FuncData} {k : Nat} {L D0 : List (List Int)} (T : Txt mg) (cK : Kn P w K mg base au (k + 2) "fraction" f3 gK ["top", "bottom"] (spT K gv)) (L1 : 1 <= L.length) (Ll : L.length <= 120) (ne : ∀ d ∈ D0,d ≠ []) (Dl : D0.length <= 120) (d6 : ∀ d ∈ D0,d.length <= 6) :
    ∃ τ : TS,(∀ i,PS ((cC P w K mg base dc "turn_mix" (ak bZ) f (k + 2)).cx i) (tj 3) τ) /\ ∀ (D : Ends) (v0 : V) (l1 p : Addr) (o3 o4 : Option V) (G0 H0 G H : Hp) (vs : List V),Step G0 H0 G H -> aN K G l1 vs -> aP K G (L.map dis) vs -> H p = some (.dT (fk fN D0)) ->
      (∀ v G' H' fq,Step G0 H0 G' H' -> Ow K G' H' (.ow ((kB (dO D0)).map fun d => .tp [tF (fW (L.length : Nat) (D0.count d : Nat)),bB d])) v fq -> Nw H0 G' fq -> D.rt v H') -> τ D [some v0,some (.ref l1),some (.ref p),o3,o4] H := by
  refine ⟨sT (tO (pE K (iA FC (dw (cP 2) e9))) (eE 0) rT (pU (dw (ng (spT K gv) [] E0 (dw (xE (cP 1) (cP 0)) (dw (iA (Hf K) (dw (cP 2) e9)) e9))) (dw (iA (Hg K) (dw (cP 0) e9)) e9))) ["deal"] [2,1]),fun i => ?_,?_⟩
  · refine wF (X := (cC P w K mg base dc "turn_mix" (ak bZ) f (k + 2)).cx i) (GF (X := (cC P w K mg base dc "turn_mix" (ak bZ) f (k + 2)).cx i) (own := ["deal"]) (fr := [2,1]) (lcs ⟨rfl,rfl,by decide +kernel,by decide +kernel,by decide +kernel,by decide +kernel⟩) rfl (vX (X := (cC P w K mg base dc "turn_mix" (ak bZ) f (k + 2)).cx i) (oK (X := (cC P w K mg base dc "turn_mix" (ak bZ) f (k + 2)).cx i) (LW rfl) rfl T.DA CN (du (pv (X := (cC P w K mg base dc "turn_mix" (ak bZ) f (k + 2)).cx i) (x := "often") 2) eZ))) (fun C s H ex pn => jI (i := 0) (by show List.Nodup (["deal", "often", "lists"] : List Str); decide) rfl (Or.inl rfl)) (fun C s H ex pn pins s1 aE H1 Q I h => GK pins s1 aE H1 Q I h) (fun C s H ex pn => ?_))
    exact EZ (du (GI (x := "fraction") cK i.hr rfl (du (PD (xx i.hr) (pv (x := "often") 1) (pv (x := "deal") 0) (fun _ _ => rfl)) (du (oK Ca rfl T.cz wL (du (pv (x := "lists") 2) eZ)) eZ))) (du (rB Cb rfl T.ky v7 (du (pv (x := "deal") 0) eZ)) eZ))
  intro D v0 l1 p o3 o4 G0 H0 G H vs st sq hv hd fin
  have big : 1000 < sizeLine := by decide
  have hl : vs.length = L.length := by rw [<- hv.length,List.length_map]
  have fl := vh D0
  refine ⟨_,rfl,p,fk fN D0,dO D0,rfl,hd,?_,fun d hd => ne d ((oy D0).mp hd),by omega,fun l ps qS hps pm pw => ⟨l,rfl,⟨_,.inl (.inl cL)⟩,fun acc eJ => ?_⟩⟩
  · unfold fk; rw [List.map_map]; rfl
  have ms : ps.map (·.2) = kB (dO D0) := Cj (pm.trans (oz _).symm) pw (DE _)
  have pl : ps.length <= 120 := by
    have := pm.length_eq
    rw [List.length_map] at this; omega
  have s1 : Step G0 H0 G (upd H l (.lst (ps.map fun q => .ref q.1))) := st.trans (.gY st.s qS)
  have zm : upd H l (.lst (ps.map fun q => .ref q.1)) p = some (.dT (fk fN D0)) := by rw [bh fun z => by subst z; rw [hd] at qS; cases qS]; exact hd
  refine Rx (f := fun i => .tp [tF (fW (L.length : Nat) (D0.count ((ps.getD i (0,[])).2) : Nat)),bB (ps.getD i (0,[])).2]) s1.s cL eJ (by rw [List.length_map]; omega) (fun i x hx G2 H2 Q g2 s2 h2 kv => ?_) (fun v G' H' fq af ow nw => ?_)
  · rw [List.getElem?_map] at hx
    obtain ⟨⟨b,d⟩,hq⟩ : ∃ q,ps[i]? = some q := by
      cases e : ps[i]? with
      | none => rw [e] at hx; cases hx
      | some q => exact ⟨q,rfl⟩
    rw [hq] at hx
    cases hx
    have YT : ps.getD i (0,[]) = (b,d) := by rw [List.getD_eq_getElem?_getD,hq]; rfl
    rw [YT] at kv
    have HV : (b,d) ∈ ps := List.mem_of_getElem? hq
    have fK : upd H l (.lst (ps.map fun q => .ref q.1)) b = some (.tup (d.map V.int)) := by
      have := hps (b,d) HV
      rw [bh fun z => by subst z; rw [this] at qS; cases qS]; exact this
    have YV : d ∈ D0 := (oy D0).mp (pm.mem_iff.mp (List.mem_map.mpr ⟨(b,d),HV,rfl⟩))
    have JI := h2 _ _ fK
    have hd2 := h2 _ _ zm
    have fU : H2 b = some (.tup ((fN d).map kV)) := by rw [He]; exact JI
    have lD : fe (fk fN D0) (fN d) = some (.int (D0.count d : Nat)) := SG (κ := List Key) xg YV
    show pU _ [some (.ref b),some (.ref p),some (.ref l1)] H2 Q
    dsimp only [pU,dw,e9,ng,xE,cP,iA,Hf,Hg]
    refine ⟨_,rfl,_,rfl,p,_,rfl,lD ▸ jn.t hd2 fU,_,rfl,l1,vs,rfl,.inl ((g2.trans s2).seq sq),?_⟩
    refine ⟨G2,[di (D0.count d : Nat),di (vs.length : Nat)],tF (fW (L.length : Nat) (D0.count d : Nat)),s2,?_,⟨_,_,by omega,?_,rfl,by rw [hl]; rfl⟩,fun v3 G3 H3 f3 s3 o3 w3 => ?_⟩
    · exact ⟨_,_,rfl,⟨rfl,rfl⟩,_,_,rfl,⟨rfl,rfl⟩,rfl⟩
    · rw [hl]
      exact Nat.lt_of_le_of_lt (show ((L.length : Nat) : Int).natAbs <= 2 ^ 70 by omega) (by decide)
    obtain ⟨rfl,YW⟩ := o3
    refine ⟨_,rfl,b,d.map V.int,rfl,.inr (.inl (.inl (s3.h _ _ JI))),fun l2 iV => ⟨by show 2 <= sizeLine; decide,fun t2 ua => ?_⟩⟩
    have HW : H3 t2 = none := by
      by_cases z : t2 = l2
      · rw [z]; exact iV
      · rwa [bh z] at ua
    have ne2 : t2 ≠ l2 := fun z => by rw [z,cL] at ua; cases ua
    have s4 : Step G2 H2 G3 (upd (upd H3 l2 (.lst (d.map V.int))) t2 (.tup [v3,.ref l2])) := (s3.trans (.gY s3.s iV)).trans (.gY (s3.s.trans (ao.new iV)) ua)
    refine kv (.ref t2) G3 _ [t2,l2] s4 ⟨t2,[v3,.ref l2],[l2],rfl,cL,⟨v3,[.ref l2],[],[l2],rfl,rfl,⟨rfl,YW⟩,.ref l2,[],[l2],[],rfl,rfl,⟨l2,d.map V.int,[],rfl,?_,?_,rfl⟩,rfl,rfl⟩,rfl⟩ ⟨fun a ha => ?_,fun a ha => ?_,?_⟩
    · rw [bh (Ne.symm ne2),cL]
    · exact FJ d
    · rcases List.mem_cons.mp ha with rfl | z
      · exact s3.h.free HW
      · rw [List.mem_singleton.mp z]; exact s3.h.free iV
    · rcases List.mem_cons.mp ha with rfl | z
      · exact s3.s.free HW
      · rw [List.mem_singleton.mp z]; exact s3.s.free iV
    · simp [ne2]
  · have e0 : (List.range (ps.map fun q => V.ref q.1).length).map (fun i => Tr.tp [tF (fW (L.length : Nat) (D0.count ((ps.getD i (0,[])).2) : Nat)),bB (ps.getD i (0,[])).2]) = ps.map fun q => Tr.tp [tF (fW (L.length : Nat) (D0.count q.2 : Nat)),bB q.2] := by
      rw [List.length_map]; exact Lz ps (fun q => Tr.tp [tF (fW (L.length : Nat) (D0.count q.2 : Nat)),bB q.2]) (0,[])
    rw [e0] at ow
    have e : (ps.map fun q => Tr.tp [tF (fW (L.length : Nat) (D0.count q.2 : Nat)),bB q.2]) = (kB (dO D0)).map fun d => .tp [tF (fW (L.length : Nat) (D0.count d : Nat)),bB d] := by rw [<- ms,List.map_map]; rfl
    rw [e] at ow
    exact fin v G' H' fq (s1.trans af) ow ⟨fun a ha => s1.h.free (nw.n a ha),nw.g,nw.d⟩
theorem Ms {f f1 f2 f3 : Addr} {fd aQ fd2 gK : FuncData} {k : Nat} (F : bt K "turn_mix" "turn_mix" bZ f fd) (T : Txt mg) (Mt : Kn P w K mg base au (k + 2) "all_turns" f1 aQ ["many"] (spT K FH)) (vA : Kn P w K mg base au (k + 2) "deal_by" f2 fd2 ["table", "turns"] (spT K wq)) (cK : Kn P w K mg base au (k + 2) "fraction" f3 gK ["top", "bottom"] (spT K gv)) : aR P w K mg base au (k + 3) f fd ["table"] (spT K DF) := by
  refine bA F.d ot (fun dd t h => by obtain ⟨_,_,_,_,rfl,_⟩ := h; rfl) fun dd t h => ?_
  obtain ⟨c,os,ok,o5,rfl,rfl⟩ := h
  refine ⟨_,.inl rfl,?_⟩
  have big : 1000 < sizeLine := by decide
  obtain ⟨L,eL⟩ : ∃ L,L = cw os.length os.length := ⟨_,rfl⟩
  have Ll := vw os.length o5
  have Lp : ∀ ts ∈ L,ts.Perm (aq os.length) := fun ts h => CD os.length o5 ts (eL ▸ h)
  rw [<- eL] at Ll
  have eD : cj c os = L.map (cG c os) := by unfold cj; rw [eL]
  refine aw (aH 1 (Ev.s (Ev.as (d := .lst (L.map dis)) (aU Mt (Nat.le_refl _) (ag (Ev.to (t' := ti (os.length : Nat)) (cM T.cz (aO (d := .lst (os.map dis)) (ae 0 rfl) aj rfl rfl) (.inl rfl)) (by rw [List.length_map])) ax) ⟨os.length,o5,rfl,rfl⟩) (by rw [eL]; exact FE _))) (fun _ => ot.nd)) ?_
  show bp _ _ [some (.fz (bT c os)),some (.fz (.lst (L.map dis))),none,none,none] _
  obtain ⟨zb,p1,q1⟩ := RC (P := P) (w := w) (K := K) (mg := mg) (base := base) (f := f) (k := k)
  obtain ⟨zc,p2,q2⟩ := RD (f := f) (L := L) T vA ok Lp (by omega)
  have L1 : 1 <= L.length := by omega
  have dl : ∀ d ∈ L.map (cG c os),d.length = os.length := fun d h => by
    obtain ⟨ts,_,rfl⟩ := List.mem_map.mp h
    unfold cG
    rw [List.length_map,mC]
  obtain ⟨YX,p3,q3⟩ := RE (f := f) (L := L) (D0 := L.map (cG c os)) T cK L1 (by omega) (fun d h z => by have := dl d h; rw [z] at this; have := ok.o1; simp at *; omega) (by rw [List.length_map]; omega) (fun d h => by have := dl d h; omega)
  refine ⟨kF zb (kF zc YX),fun i => oH (p1 i) (oH (p2 i) (vW (p3 i))),fun D σ G0 H0 G H r post => ?_⟩
  obtain ⟨fp,r⟩ := r
  obtain ⟨v0,_,fa,_,rfl,rfl,⟨rfl,h0⟩,v1,_,fb,_,rfl,rfl,⟨rfl,l1,vs,rfl,sq,JK⟩,o2,_,rfl,o3,_,rfl,o4,_,rfl,rfl,rfl⟩ := r.own
  refine q1 _ _ _ fun p hp => ?_
  have YY : Step G0 H0 G (upd H p (.dT [])) := r.st.trans (.gY r.st.s hp)
  refine q2 _ v0 l1 p o3 o4 G0 H0 G _ vs YY h0 sq JK (r.st.h.free hp) (r.st.s.free hp) cL fun o3 o4 G2 H2 aG g2 zI hd2 => ?_
  refine q3 _ v0 l1 p o3 o4 G0 H0 G2 H2 vs aG (g2.seq sq) (JK.mono g2) hd2 fun v G3 H3 fq cY ow nw => post v G3 H3 fq cY ?_ nw
  unfold tf nu
  rw [<- eL,eD]
  exact ow
end
end bH
namespace bH
open PySem L2 dY
section
variable {P : Program} {w : World} {K : PySem.W.Frag} {mg : Str -> Option Value} {base : Heap}
theorem gU {W s : Int} (h : 0 < W) (w1 : W < 2 ^ 70) (s0 : 0 <= s) (s1 : s <= 200 * W) : fP (fW W s) := by
  have a := gi (s := s) h
  have b := xD (s := s) h
  have c := Fj (s := s) h
  refine ⟨a,?_,?_⟩
  · have : (fW W s).2.natAbs <= 2 ^ 70 := by omega
    exact Nat.lt_of_le_of_lt this (by decide)
  · have : (fW W s).1.natAbs <= 200 * 2 ^ 70 := by omega
    exact Nat.lt_of_le_of_lt this (by decide)
theorem kC (c : Int) : (lT c 1,lB c 1) = (c,1) := by
  have := rM (t := c) (b := 1) (p := c) (q := 1) (by decide) (by decide) (by simp) (by rfl)
  rw [<- this.1,<- this.2]
abbrev d8 (W : Int) (ss : List Int) : Dv := .lst (ss.map fun s => dF (fW W s))
abbrev mH : Stmt := top 17
theorem rF : bq ["some", "total", "one"] ["some"] (ak mH) := ⟨rfl,rfl,rfl,by decide +kernel,rfl,by decide +kernel,by decide +kernel⟩
def xh (dd : List Dv) (t : Tr) : Prop := ∃ (W : Int) (ss : List Int),0 < W /\ W < 2 ^ 70 /\ (∀ s ∈ ss,0 <= s /\ s <= W) /\ ss.length <= 120 /\ dd = [d8 W ss] /\ t = tF (fW W ss.sum)
theorem DG {ss : List Int} {W : Int} (h : ∀ s ∈ ss,0 <= s /\ s <= W) (w0 : 0 < W) : ∀ j,0 <= (ss.take j).sum /\ (ss.take j).sum <= j * W
  | 0 => by rw [List.take_zero]; show 0 <= (0 : Int) /\ (0 : Int) <= ((0 : Nat) : Int) * W; omega
  | j + 1 => by
    have ih := DG h w0 j
    have e : (((j + 1 : Nat) : Int)) * W = j * W + W := by rw [Int.natCast_add,Int.add_mul]; show _ + 1 * W = _; rw [Int.one_mul]
    rw [e]
    cases q : ss[j]? with
    | none =>
      have hj : ss.length <= j := by
        rcases Nat.lt_or_ge j ss.length with z | z
        · rw [List.getElem?_eq_getElem z] at q; cases q
        · exact z
      rw [List.take_of_length_le (by omega)]
      rw [List.take_of_length_le hj] at ih
      omega
    | some x =>
      have hx := h x (List.mem_of_getElem? q)
      rw [gM q,List.sum_append,List.sum_singleton]
      omega
theorem NA {f f1 f2 : Addr} {fd aQ fd2 : FuncData} {k : Nat} {tk : Tok} (F : bt K "sum_of" "sum_of" mH f fd) (T : Txt mg) (cK : Kn P w K mg base au (k + 2) "fraction" f1 aQ ["top", "bottom"] (spT K gv)) (B1 : Binds K aQ ["top", "bottom"] [.int 1 tk]) (RF : Kn P w K mg base au (k + 3) "plus" f2 fd2 ["one", "other"] (spT K Hd)) : aR P w K mg base au (k + 4) f fd ["some"] (spT K xh) := by
  refine bA F.d rF (fun dd t h => by obtain ⟨_,_,_,_,_,_,rfl,_⟩ := h; rfl) fun dd t h => ?_
  obtain ⟨W,ss,w0,w1,sb,sl,rfl,rfl⟩ := h
  refine ⟨_,.inl rfl,?_⟩
  refine aw (aH 1 (bL.to (t' := tF (fW W (ss.take 0).sum)) (Ev.s (ke cK B1 (by show k + 2 <= k + 3; omega) (ag aj ax) ⟨0,1,by decide,by decide,rfl,rfl⟩)) (by rw [kC,List.take_zero]; show tF (0,1) = tF (fW W 0); rw [Ei w0])) (fun _ => rF.nd)) ?_
  refine aw (gQ (bz.s (dr (ae 0 rfl) rfl)) (bX 2 (fun _ => rF.nd)) (fun j => [some (.fz (d8 W ss)),some (tF (fW W (ss.take j).sum)),none]) rfl (fun _ => rfl) (fun j d hd => ?_)) ?_
  · obtain ⟨x,hx,rfl⟩ := fO hd
    have hb := sb x (List.mem_of_getElem? hx)
    have ht := DG sb w0 j
    have hj : j < ss.length := by
      rcases Nat.lt_or_ge j ss.length with z | z
      · exact z
      · rw [List.getElem?_eq_none z] at hx; cases hx
    have aak : (j : Int) * W <= 200 * W := Int.mul_le_mul_of_nonneg_right (by omega) (by omega)
    refine ⟨_,[some (.fz (d8 W ss)),some (tF (fW W (ss.take (j + 1)).sum)),some (tF (fW W x))],rfl,?_,[2],rfl⟩
    rw [gM hx,List.sum_append,List.sum_singleton]
    generalize (ss.take j).sum = S at ht
    exact aJ (aH 1 (bL.to (t' := tF (fW W (S + x))) (Ev.s (aU RF (Nat.le_refl _) (ag (ae 1 rfl) (ag (ae 2 rfl) ax)) ⟨fW W S,fW W x,gU w0 w1 ht.1 (by omega),gU w0 w1 hb.1 (by omega),rfl,rfl⟩)) (by rw [Py w0])) (fun _ => rF.nd))
  · rw [List.length_map,List.take_length]
    exact aJ (bW (Ev.s (ae 1 rfl)))
def av (l : List Int) (x : Int) : Int := l.getD x.toNat 0
theorem xi {α : Type} (f : Int -> α) {l : List Int} {x : Int} (h0 : 0 <= x) (h1 : x < l.length) : aY (l.map f) x = some (f (av l x)) := by
  obtain ⟨m,rfl⟩ : ∃ m : Nat,x = (m : Int) := ⟨x.toNat,by omega⟩
  refine gg ?_
  unfold av
  rw [List.getElem?_map,List.getD_eq_getElem?_getD,Int.toNat_natCast,List.getElem?_eq_getElem (by omega)]; rfl
theorem eh (n : Nat) : (aq n).length = n := by unfold aq; rw [List.length_map,List.length_range]
theorem EB (n : Nat) {i : Int} (h : i = (n : Int)) : fE 0 i.toNat = (aq n).map di := by
  subst h
  rw [Int.toNat_natCast]
  unfold aq
  rw [List.map_map]; rfl
abbrev qT (W : Int) (m : Int × List Int) : Dv := .tup [dF (fW W m.1),dis m.2]
def nZ (M : List (Int × List Int)) (a x : Int) : Int := ((M.filter fun m => decide (av m.2 a = x)).map (·.1)).sum
structure yB (W : Int) (A : Nat) (M : List (Int × List Int)) : Prop where
  w0 : 0 < W
  w1 : W < 2 ^ 70
  ok : ∀ m ∈ M,0 <= m.1 /\ m.1 <= W /\ m.2.length = A
  ml : M.length <= 120
  a6 : A <= 6
abbrev lZ : Stmt := top 34
theorem L0 : bq ["mix", "asker", "one"] ["mix", "asker", "one"] (ak lZ) := ⟨rfl,rfl,rfl,by decide +kernel,rfl,by decide +kernel,by decide +kernel⟩
def C2 (dd : List Dv) (t : Tr) : Prop := ∃ (W : Int) (A : Nat) (M : List (Int × List Int)) (a x : Int),yB W A M /\ 0 <= a /\ a < A /\ dd = [.lst (M.map (qT W)),di a,di x] /\ t = tF (fW W (nZ M a x))
theorem L3 {f f1 : Addr} {fd aQ : FuncData} {k : Nat} (F : bt K "weight_of" "weight_of" lZ f fd) (T : Txt mg) (vP : Kn P w K mg base au (k + 4) "sum_of" f1 aQ ["some"] (spT K xh)) : aR P w K mg base au (k + 5) f fd ["mix", "asker", "one"] (spT K C2) := by
  refine bA F.d L0 (fun dd t h => by obtain ⟨_,_,_,_,_,_,_,_,rfl,_⟩ := h; rfl) fun dd t h => ?_
  obtain ⟨W,A,M,a,x,iX,a0,a1,rfl,rfl⟩ := h
  refine ⟨_,.inl rfl,?_⟩
  have big : 1000 < sizeLine := by decide
  have ml := iX.ml
  have eF : er (.ow ((M.filter fun m => decide (av m.2 a = x)).map fun m => tF (fW W m.1))) = d8 W ((M.filter fun m => decide (av m.2 a = x)).map (·.1)) := by
    rw [eW]
    show Dv.lst _ = Dv.lst (List.map _ (List.map _ _))
    rw [List.map_map]; rfl
  refine aJ (bW (Ev.s (aU vP (Nat.le_refl _) (ag (Ev.as (ph (own := ["weight", "deal"]) (fr := [2,1]) M (qT W) (fun m => decide (av m.2 a = x)) (fun m => tF (fW W m.1)) (fun i => lcs ⟨rfl,rfl,by decide +kernel,by decide +kernel,by decide +kernel,by decide +kernel⟩) (dr (ae 0 rfl) rfl) (kr 0 1 (fun _ => by show List.Nodup (["weight", "deal", "one", "asker"] : List Str); decide)) (by decide) (by omega) (fun m hm => ⟨_,rfl,by
      exact hZ (jQ (cy (ae 1 rfl) (ae 3 rfl) rfl (xi di a0 (by rw [(iX.ok m hm).2.2]; exact a1))) (ae 2 rfl)),fun _ => by exact ae 0 rfl⟩) (fun dd => by rcases dd with _ | ⟨a,_ | ⟨b,dd⟩⟩ <;> rfl)) eF) ax) ⟨W,(M.filter fun m => decide (av m.2 a = x)).map (·.1),iX.w0,iX.w1,fun y hy => ?_,?_,rfl,rfl⟩)))
  · obtain ⟨m,hm,rfl⟩ := List.mem_map.mp hy
    have := iX.ok m (List.mem_filter.mp hm).1
    exact ⟨this.1,this.2.1⟩
  · rw [List.length_map]
    have := List.length_filter_le (fun m : Int × List Int => decide (av m.2 a = x)) M
    omega
abbrev HX (W : Int) (A n : Nat) (M : List (Int × List Int)) : Tr := .ow ((aq A).map fun a => .ow ((aq (n + 1)).map fun x => tF (fW W (nZ M a x))))
abbrev md : Stmt := top 35
theorem Ck : bq ["counts", "mix", "askers"] ["counts", "mix"] (ak md) := ⟨rfl,rfl,rfl,by decide +kernel,rfl,by decide +kernel,by decide +kernel⟩
def C3 (dd : List Dv) (t : Tr) : Prop := ∃ (W : Int) (A : Nat) (M : List (Int × List Int)) (c : List Int),yB W A M /\ M ≠ [] /\ c.length <= 6 /\ dd = [dis c,.lst (M.map (qT W))] /\ t = HX W A c.length M
theorem L4 {f f1 : Addr} {fd aQ : FuncData} {k : Nat} (F : bt K "shares_of" "shares_of" md f fd) (T : Txt mg) (Mu : Kn P w K mg base au (k + 5) "weight_of" f1 aQ ["mix", "asker", "one"] (spT K C2)) : aR P w K mg base au (k + 6) f fd ["counts", "mix"] (spT K C3) := by
  refine bA F.d Ck (fun dd t h => by obtain ⟨_,_,_,_,_,_,_,rfl,_⟩ := h; rfl) fun dd t h => ?_
  obtain ⟨W,A,M,c,iX,YZ,c6,rfl,rfl⟩ := h
  refine ⟨_,.inl rfl,?_⟩
  have big : 1000 < sizeLine := by decide
  have a6 := iX.a6
  obtain ⟨m0,M',rfl⟩ : ∃ m0 M',M = m0 :: M' := by
    cases M with
    | nil => exact absurd rfl YZ
    | cons m0 M' => exact ⟨m0,M',rfl⟩
  have l0 : m0.2.length = A := (iX.ok m0 (.head _)).2.2
  refine aw (aH 2 (bL.to (t' := ti A) (Ev.s (cM (xs := m0.2.map di) T.cz (aO (xs := [dF (fW W m0.1),dis m0.2]) (d := dis m0.2) (cy (d := qT W m0) (ae 1 rfl) aj rfl (gg (j := 0) rfl)) aj rfl rfl) (.inl rfl))) (by rw [List.length_map,l0])) (fun _ => Ck.nd)) ?_
  generalize m0 :: M' = M at iX
  refine aJ (bW (Ev.s ?_))
  exact jd (own := ["asker"]) (fr := [1,0]) (aq A) di (fun a => .ow ((aq (c.length + 1)).map fun x => tF (fW W (nZ M a x)))) (fun i => yp ⟨rfl,rfl,by decide +kernel,by decide +kernel,by decide +kernel,by decide +kernel⟩) (bz.to (gf T.fu (ae 2 rfl) (by omega)) (EB A rfl)) (bX 0 (fun _ => by show List.Nodup (["asker", "mix", "counts"] : List Str); decide)) (by decide) (by rw [eh]; omega) (fun a ha => ⟨_,rfl,by
      obtain ⟨a0,a1⟩ := de.mp ha
      exact jd (own := ["one"]) (fr := [1,0]) (aq (c.length + 1)) di (fun x => tF (fW W (nZ M a x))) (fun i => GV ["asker", "mix", "counts"] ⟨rfl,by decide +kernel,by decide +kernel,by decide +kernel,by decide +kernel⟩ fun y hy => j9 _ _ y hy) (bz.to (gf T.fu (gP (cM T.cz (ae 2 rfl) (.inl rfl)) aj) (by rw [List.length_map]; omega)) (EB (c.length + 1) (by rw [List.length_map]; omega))) (bX 0 (fun _ => by show List.Nodup (["one", "mix", "asker"] : List Str); decide)) (by decide) (by rw [eh]; omega) (fun x hx => ⟨_,rfl,by
        exact aU Mu (Nat.le_refl _) (ag (ae 1 rfl) (ag (ae 2 rfl) (ag (ae 0 rfl) ax))) ⟨W,A,M,a,x,iX,a0,a1,rfl,rfl⟩⟩) (fun dd => by cases dd <;> rfl)⟩) (fun dd => by cases dd <;> rfl)
theorem Qt {K : List (List Int)} (nd : K.Nodup) (p : List Int -> Bool) {e : List Int} (he : e ∈ K) : (((K.filter p).map fun d => (if e = d then 1 else 0 : Int))).sum = if p e then 1 else 0 := by
  induction K with
  | nil => cases he
  | cons d K ih =>
    have zJ := List.nodup_cons.mp nd
    have none_of : ∀ K' : List (List Int),e ∉ K' -> (((K'.filter p).map fun d => (if e = d then 1 else 0 : Int))).sum = 0 := by
      intro K' h
      induction K' with
      | nil => rfl
      | cons x K' JL =>
        have h1 : e ≠ x := fun z => h (z ▸ .head _)
        have h2 : e ∉ K' := fun z => h (.tail _ z)
        rw [List.filter_cons]
        split
        · rw [List.map_cons,List.sum_cons,if_neg h1,JL h2]; rfl
        · exact JL h2
    by_cases q : e = d
    · subst q
      have := none_of K zJ.1
      rw [List.filter_cons]
      by_cases pe : p e = true
      · rw [if_pos pe,List.map_cons,List.sum_cons,this,if_pos rfl,if_pos pe]; rfl
      · rw [if_neg pe,this,if_neg pe]
    · have hK : e ∈ K := by
        rcases List.mem_cons.mp he with z | z
        · exact absurd z q
        · exact z
      rw [List.filter_cons]
      split
      · rw [List.map_cons,List.sum_cons,if_neg q,ih zJ.2 hK,Int.zero_add]
      · exact ih zJ.2 hK
theorem sum_add (l : List (List Int)) (f g : List Int -> Int) : (l.map fun d => f d + g d).sum = (l.map f).sum + (l.map g).sum := by
  induction l with
  | nil => rfl
  | cons d l ih => simp only [List.map_cons,List.sum_cons,ih]; omega
theorem C4 {K : List (List Int)} (nd : K.Nodup) (p : List Int -> Bool) : ∀ {D : List (List Int)},(∀ d ∈ D,d ∈ K) -> (((K.filter p).map fun d => ((D.count d : Nat) : Int))).sum = ((D.countP p : Nat) : Int)
  | [],_ => by
    have : ∀ l : List (List Int),(l.map fun d => ((([] : List (List Int)).count d : Nat) : Int)).sum = 0 := by
      intro l
      induction l with
      | nil => rfl
      | cons d l ih => rw [List.map_cons,List.sum_cons,ih]; rfl
    rw [this]; rfl
  | e :: D,h => by
    have ih := C4 nd p (D := D) fun d hd => h d (.tail _ hd)
    have e1 : ((K.filter p).map fun d => (((e :: D).count d : Nat) : Int)) = (K.filter p).map fun d => ((D.count d : Nat) : Int) + (if e = d then 1 else 0 : Int) := List.map_congr_left fun d _ => by
      rw [List.count_cons]
      by_cases q : e = d
      · simp [q]
      · simp [q]
    rw [e1,sum_add,ih,Qt nd p (h e (.head _)),List.countP_cons]
    by_cases pe : p e = true
    · simp [pe]
    · simp [pe]
def jS (D : List (List Int)) (a x : Int) : Int := ((D.countP fun d => decide (av d a = x) : Nat) : Int)
def jo (c : List Int) (os : List (List Int)) : List (Int × List Int) := (nu c os).map fun d => (((cj c os).count d : Nat),d)
abbrev wT (os : List (List Int)) : Int := ((cw os.length os.length).length : Nat)
theorem Qu (c : List Int) (os : List (List Int)) : er (tf c os) = .lst ((jo c os).map (qT (wT os))) := by
  unfold tf jo
  rw [eW,List.map_map]
  refine congrArg Dv.lst (List.map_congr_left fun d _ => ?_)
  show Dv.tup [_,er (bB d)] = _
  rw [eY]; rfl
theorem keys_nodup (c : List Int) (os : List (List Int)) : (nu c os).Nodup := (oz _).nodup_iff.mpr (Ny _)
theorem mem_keys {c : List Int} {os : List (List Int)} {d : List Int} : d ∈ nu c os ↔ d ∈ cj c os := (oz _).mem_iff.trans (oy _)
theorem RG (c : List Int) (os : List (List Int)) (a x : Int) : nZ (jo c os) a x = jS (cj c os) a x := by
  unfold nZ jo jS
  rw [List.filter_map,List.map_map]
  exact C4 (keys_nodup c os) (fun d => decide (av d a = x)) fun d hd => mem_keys.mpr hd
theorem EC {c : List Int} {os : List (List Int)} (o5 : os.length <= 5) : yB (wT os) os.length (jo c os) := by
  have Ll := vw os.length o5
  have al : (cj c os).length = (cw os.length os.length).length := by unfold cj; rw [List.length_map]
  refine ⟨by show (0 : Int) < ((cw os.length os.length).length : Nat); omega,by show ((cw os.length os.length).length : Int) < 2 ^ 70; exact Int.lt_of_le_of_lt (show _ <= (120 : Int) by omega) (by decide),fun m hm => ?_,?_,by omega⟩
  · obtain ⟨d,hd,rfl⟩ := List.mem_map.mp hm
    refine ⟨by show (0 : Int) <= ((cj c os).count d : Nat); omega,?_,?_⟩
    · have := List.count_le_length (a := d) (l := cj c os)
      show (((cj c os).count d : Nat) : Int) <= ((cw os.length os.length).length : Nat)
      omega
    · obtain ⟨ts,_,rfl⟩ := List.mem_map.mp (mem_keys.mp hd)
      unfold cG
      rw [List.length_map,mC]
  · unfold jo nu
    have := vh (cj c os)
    rw [List.length_map,(oz _).length_eq]
    omega
def uc (W : Int) (A n : Nat) (D : List (List Int)) : Tr := .ow ((aq A).map fun a => .ow ((aq (n + 1)).map fun x => tF (fW W (jS D a x))))
abbrev lN : Stmt := top 42
theorem La : bq ["table"] ["table"] (ak lN) := ⟨rfl,rfl,rfl,by decide +kernel,rfl,by decide +kernel,by decide +kernel⟩
def vb (dd : List Dv) (t : Tr) : Prop := ∃ c os,cN c os /\ os.length <= 5 /\ dd = [bT c os] /\ t = uc (wT os) os.length c.length (cj c os)
theorem Lb {f f1 f2 : Addr} {fd aQ fd2 : FuncData} {k : Nat} (F : bt K "turn_shares" "turn_shares" lN f fd) (T : Txt mg) (Mv : Kn P w K mg base au (k + 6) "shares_of" f1 aQ ["counts", "mix"] (spT K C3)) (MM : Kn P w K mg base au (k + 3) "turn_mix" f2 fd2 ["table"] (spT K DF)) : aR P w K mg base au (k + 7) f fd ["table"] (spT K vb) := by
  refine bA F.d La (fun dd t h => by obtain ⟨_,_,_,_,rfl,_⟩ := h; rfl) fun dd t h => ?_
  obtain ⟨c,os,ok,o5,rfl,rfl⟩ := h
  refine ⟨_,.inl rfl,?_⟩
  have ne : jo c os ≠ [] := fun z => by
    have Ll := (vw os.length o5).1
    have : ∃ d,d ∈ cj c os := by
      cases q : cj c os with
      | nil => have := congrArg List.length q; unfold cj at this; rw [List.length_map] at this; simp at this; rw [this] at Ll; simp at Ll
      | cons d _ => exact ⟨d,.head _⟩
    obtain ⟨d,hd⟩ := this
    have : ((((cj c os).count d : Nat) : Int),d) ∈ jo c os := List.mem_map.mpr ⟨d,mem_keys.mpr hd,rfl⟩
    rw [z] at this
    cases this
  refine aJ (bW (bL.to (Ev.s (aU Mv (Nat.le_refl _) (ag (aO (d := dis c) (ae 0 rfl) aj rfl rfl) (ag (Ev.as (aU MM (by show k + 3 <= k + 6; omega) (ag (ae 0 rfl) ax) ⟨c,os,ok,o5,rfl,rfl⟩) (Qu c os)) ax)) ⟨wT os,os.length,jo c os,c,EC o5,ne,ok.c6,rfl,rfl⟩)) ?_))
  unfold uc HX
  simp only [RG]
end
end bH
namespace bH
open PySem L2 dY
section
variable {P : Program} {w : World} {K : PySem.W.Frag} {mg : Str -> Option Value} {base : Heap}
abbrev lK : Stmt := top 47
theorem KR : bq ["_law_script", "_law_k"] ["_law_script", "_law_k"] (ak lK) := ⟨rfl,rfl,rfl,by decide +kernel,rfl,by decide +kernel,by decide +kernel⟩
def Hh (dd : List Dv) (t : Tr) : Prop := ∃ (ns : List Int) (k : Int),0 <= k /\ dd = [dis ns,di k] /\ t = ti (bI ns k)
theorem KS {f : Addr} {fd : FuncData} {k : Nat} (F : bt K "_law_cell_at" "_law_cell_at" lK f fd) (T : Txt mg) : aR P w K mg base au (k + 1) f fd ["_law_script", "_law_k"] (spT K Hh) := by
  refine bA F.d KR (fun dd t h => by obtain ⟨_,_,_,rfl,_⟩ := h; rfl) fun dd t h => ?_
  obtain ⟨ns,j,hj,rfl,rfl⟩ := h
  refine ⟨_,.inl rfl,?_⟩
  by_cases hl : j < ns.length
  · refine wa (jM (Et.s (sH (ae 1 rfl) (cM T.cz (ae 0 rfl) (.inl rfl)))) ?_ (aJ (bW (Ev.s (cy (ae 0 rfl) (ae 1 rfl) rfl ?_)))))
    · rw [List.length_map]; exact decide_eq_true hl
    · exact cell_in hj hl
  · refine aw (df (Et.s (sH (ae 1 rfl) (cM T.cz (ae 0 rfl) (.inl rfl)))) ?_) ?_
    · rw [List.length_map]; exact decide_eq_false hl
    · rw [cell_out hj (by omega)]
      exact aJ (bW (Ev.s aj))
def bK (cell : Int) (left : List Int) : Nat -> Int × List Int × List Int
  | 0 => (cell,left,[])
  | k + 1 => ((bK cell left k).1 / (bK cell left k).2.1.length,(bK cell left k).2.1.eraseIdx ((bK cell left k).1 % (bK cell left k).2.1.length).toNat,(bK cell left k).2.2 ++ [(((bK cell left k).2.1)[((bK cell left k).1 % (bK cell left k).2.1.length).toNat]?).getD 0])
theorem vB (cell : Int) (left : List Int) : ∀ k,k <= left.length -> ((bK cell left k).2.2 ++ (bK cell left k).2.1).Perm left /\ (bK cell left k).2.1.length = left.length - k /\ (bK cell left k).2.2.length = k
  | 0,_ => ⟨.refl _,by simp [bK],rfl⟩
  | k + 1,hk => by
    obtain ⟨h1,h2,h3⟩ := vB cell left k (by omega)
    generalize hs : bK cell left k = s at *
    obtain ⟨c,l,o⟩ := s
    have e : bK cell left (k + 1) = (c / l.length,l.eraseIdx (c % l.length).toNat,o ++ [(l[(c % l.length).toNat]?).getD 0]) := by
      show ((bK cell left k).1 / _,_,_) = _
      rw [hs]
    rw [e]
    have hl : 0 < l.length := by have : l.length = left.length - k := h2; omega
    have m0 := Int.emod_nonneg c (show (l.length : Int) ≠ 0 by omega)
    have m1 := Int.emod_lt_of_pos c (show 0 < (l.length : Int) by omega)
    generalize hm : (c % l.length).toNat = m at *
    have zK : m < l.length := by omega
    refine ⟨?_,?_,by rw [List.length_append]; have : o.length = k := h3; simp [this]⟩
    · show (o ++ [(l[m]?).getD 0] ++ l.eraseIdx m).Perm left
      rw [List.getElem?_eq_getElem zK,Option.getD_some,List.append_assoc]
      exact (List.Perm.append_left o (CB zK)).trans h1
    · show (l.eraseIdx m).length = _
      rw [List.length_eraseIdx_of_lt zK]
      have : l.length = left.length - k := h2
      omega
def je (cell : Int) (n : Nat) : Nat := if cell % 2 = 0 then n else (cell / 2 % (n + 1)).toNat
def jO (cell : Int) (n : Nat) : List Int := (bK (cell / (2 * n + 2)) (aq n) (je cell n)).2.2
theorem size_le (cell : Int) (n : Nat) : je cell n <= n := by
  unfold je
  split
  · exact Nat.le_refl _
  · have := Int.emod_lt_of_pos (cell / 2) (show 0 < (n : Int) + 1 by omega)
    omega
theorem vQ (n : Nat) : (aq n).length = n := by unfold aq; rw [List.length_map,List.length_range]
theorem vR (cell : Int) (n : Nat) : (jO cell n).Nodup /\ ∀ x ∈ jO cell n,0 <= x /\ x < n := by
  obtain ⟨h,_⟩ := vB (cell / (2 * n + 2)) (aq n) (je cell n) (by rw [vQ]; exact size_le cell n)
  refine ⟨(List.nodup_append.mp (h.nodup_iff.mpr (vg n))).1,fun x hx => de.mp (h.mem_iff.mp (List.mem_append_left _ hx))⟩
abbrev lV : Stmt := top 48
theorem jF : bq ["_law_cell", "_law_many", "_law_size", "_law_left", "_law_order_here", "_law_k", "_law_at"] ["_law_cell", "_law_many"] (ak lV) := ⟨rfl,rfl,rfl,by decide +kernel,rfl,by decide +kernel,by decide +kernel⟩
def sC (dd : List Dv) (t : Tr) : Prop := ∃ (cell : Int) (n : Nat),n <= 6 /\ dd = [di cell,di n] /\ t = bB (jO cell n)
theorem LA {f : Addr} {fd : FuncData} {k : Nat} (F : bt K "_law_order" "_law_order" lV f fd) (T : Txt mg) : aR P w K mg base au (k + 1) f fd ["_law_cell", "_law_many"] (spT K sC) := by
  refine bA F.d jF (fun dd t h => by obtain ⟨_,_,_,rfl,_⟩ := h; rfl) fun dd t h => ?_
  obtain ⟨cell,n,hn,rfl,rfl⟩ := h
  refine ⟨_,.inl rfl,?_⟩
  have big : 1000 < sizeLine := by decide
  have hsz := size_le cell n
  refine aw (aH 2 (Ev.s (cy (d := di (je cell n)) (eA (ag (ae 1 rfl) (ag (fA (hU (ae 0 rfl) aj ⟨by decide,iO (by decide) (by decide)⟩) (gP (ae 1 rfl) aj) (by omega)) ax)) (by show 2 <= sizeLine; decide)) (fA (ae 0 rfl) aj (by decide)) rfl ?_)) (fun _ => jF.nd)) ?_
  · show aY [di (n : Int),di (cell / 2 % ((n : Int) + 1))] (cell % 2) = _
    have h0 := Int.emod_nonneg cell (show (2 : Int) ≠ 0 by decide)
    have h2 := Int.emod_lt_of_pos cell (show (0 : Int) < 2 by decide)
    unfold je
    have : cell % 2 = 0 \/ cell % 2 = 1 := by omega
    rcases this with h | h
    · rw [h,if_pos rfl]; rfl
    · rw [h,if_neg (by decide)]
      have m0 := Int.emod_nonneg (cell / 2) (show (n : Int) + 1 ≠ 0 by omega)
      rw [show (((cell / 2 % ((n : Int) + 1)).toNat : Nat) : Int) = cell / 2 % ((n : Int) + 1) by omega]
      rfl
  refine aw (aH 0 (Ev.s (hU (ae 0 rfl) (gP (dP aj (ae 1 rfl) ⟨iO (by decide) (by decide),iO (by omega) (by omega)⟩) aj) ⟨by omega,iO (by omega) (by omega)⟩)) (fun _ => jF.nd)) ?_
  refine aw (aH 3 (Ev.s (Cg T.ky T.fu (ae 1 rfl) (by omega) (by omega))) (fun _ => jF.nd)) ?_
  refine aw (aH 4 (Ev.s (eA ax (Nat.zero_le _))) (fun _ => jF.nd)) ?_
  refine aw (gQ (bz.s (gf T.fu (ae 2 rfl) ⟨by omega,by omega⟩)) (bX 5 (fun _ => jF.nd)) (fun k => [some (ti (bK (cell / (2 * n + 2)) (aq n) k).1),some (ti n),some (ti (je cell n)),some (bB (bK (cell / (2 * n + 2)) (aq n) k).2.1),some (bB (bK (cell / (2 * n + 2)) (aq n) k).2.2),none,none]) rfl (fun _ => rfl) (fun j d hd => ?_)) ?_
  · obtain ⟨hj,rfl⟩ := oU hd
    have nV : j < je cell n := by omega
    obtain ⟨p1,p2,p3⟩ := vB (cell / (2 * n + 2)) (aq n) j (by rw [vQ]; omega)
    rw [vQ] at p2
    have e : bK (cell / (2 * n + 2)) (aq n) (j + 1) = ((bK (cell / (2 * n + 2)) (aq n) j).1 / (bK (cell / (2 * n + 2)) (aq n) j).2.1.length,(bK (cell / (2 * n + 2)) (aq n) j).2.1.eraseIdx ((bK (cell / (2 * n + 2)) (aq n) j).1 % (bK (cell / (2 * n + 2)) (aq n) j).2.1.length).toNat,(bK (cell / (2 * n + 2)) (aq n) j).2.2 ++ [(((bK (cell / (2 * n + 2)) (aq n) j).2.1)[((bK (cell / (2 * n + 2)) (aq n) j).1 % (bK (cell / (2 * n + 2)) (aq n) j).2.1.length).toNat]?).getD 0]) := rfl
    rw [e]
    generalize bK (cell / (2 * n + 2)) (aq n) j = s at p1 p2 p3
    obtain ⟨c,l,o⟩ := s
    simp only at p1 p2 p3 ⊢
    have hl : 0 < (l.length : Int) := by omega
    have hl6 : (l.length : Int) <= 6 := by omega
    have m0 := Int.emod_nonneg c (show (l.length : Int) ≠ 0 by omega)
    have m1 := Int.emod_lt_of_pos c hl
    have el : (dW (l.map fun n => Tr.fz (di n))).length = l.length := by rw [ja,List.length_map,List.length_map]
    have hlm : (((l.map fun n => Tr.fz (di n)).length : Nat) : Int) = l.length := by rw [List.length_map]
    refine ⟨_,_,rfl,aw (aH 6 (bL.to (t' := ti (c % l.length)) (Ev.pk (fA (ae 0 rfl) (cM T.cz (ae 3 rfl) (.inl rfl)) (by rw [el]; exact hl)) True.intro) (by rw [el])) (fun _ => jF.nd))
      (aw (aH 0 (bL.to (t' := ti (c / l.length)) (Ev.pk (hU (ae 0 rfl) (cM T.cz (ae 3 rfl) (.inl rfl)) (by rw [el]; exact ⟨hl,iO (by omega) (by omega)⟩)) True.intro) (by rw [el])) (fun _ => jF.nd))
      (aJ (Ls 4 3 (d := di ((l[(c % l.length).toNat]?).getD 0)) (n := c % l.length) (m := (c % l.length).toNat) (by decide) rfl rfl (Ev.s (ae 6 rfl)) ?_ ⟨by omega,by omega⟩ ?_ ?_))),[5,6],?_⟩
    · rw [List.length_map]
      unfold fI
      rw [if_pos m0,if_pos m1]
    · rw [List.getElem?_map,List.getElem?_eq_getElem (show (c % l.length).toNat < l.length by omega)]
      rfl
    · rw [List.length_map]; omega
    · show [_,_,_,some (Tr.ow (List.eraseIdx _ _)),some (Tr.ow (_ ++ [_])),_,_] = [_,_,_,some (Tr.ow _),some (Tr.ow _),_,_]
      rw [List.map_append,CV]
      rfl
  · rw [List.length_map,List.length_range]
    show bp _ _ [_,_,_,_,some (bB (bK (cell / (2 * n + 2)) (aq n) (je cell n)).2.2),_,_] _
    exact aJ (kj 4 rfl)
def eC (ns : List Int) (st : Int) : List Int := (List.range 13).map fun k => bI ns (st + (0 + ((k : Nat) : Int)))
theorem NB (ns : List Int) (st : Int) {k : Nat} (hk : k < 13) : (eC ns st)[k]? = some (bI ns (st + (0 + ((k : Nat) : Int)))) := by
  unfold eC
  rw [List.getElem?_map,List.getElem?_range hk]; rfl
def jT (c : Int) : Int := if c / 10 % 2 = 0 then c % 4 else c % 10
def dz (th : Nat) (ns : List Int) (st : Int) : Nat := (bI ns (st + (0 + ((0 : Nat) : Int))) % ((th : Int) + 1)).toNat
def jb (th : Nat) (ns : List Int) (st : Int) : List Int := (cutD (eC ns st) (some 1) (some (1 + (dz th ns st : Int)))).map jT
def jU (ns : List Int) (st most : Int) : Nat := (1 + bI ns (st + (0 + ((0 : Nat) : Int))) / 7 % most).toNat
def kD (ns : List Int) (st : Int) (k : Nat) : Int := if bI ns (st + (0 + ((0 : Nat) : Int))) / 42 % 3 = 0 /\ 1 < bI ns (st + (0 + ((7 + k : Nat) : Int))) % 5 then bI ns (st + (0 + ((7 : Nat) : Int))) else bI ns (st + (0 + ((7 + k : Nat) : Int)))
def eu (th : Nat) (ns : List Int) (st most : Int) : List (List Int) := (List.range (jU ns st most)).map fun k => jO (kD ns st k) (dz th ns st)
theorem Ox (th : Nat) (ns : List Int) (st : Int) : dz th ns st <= th := by
  unfold dz
  have := Int.emod_lt_of_pos (bI ns (st + (0 + ((0 : Nat) : Int)))) (show (0 : Int) < (th : Int) + 1 by omega)
  omega
theorem vS {th : Nat} (h : th <= 6) (ns : List Int) (st : Int) : dz th ns st <= 6 := Nat.le_trans (Ox th ns st) h
theorem NC (th : Nat) (ns : List Int) (st : Int) : bI ns (st + (0 + ((0 : Nat) : Int))) % ((th : Int) + 1) = (dz th ns st : Int) := by
  unfold dz
  have := Int.emod_nonneg (bI ns (st + (0 + ((0 : Nat) : Int)))) (show (th : Int) + 1 ≠ 0 by omega)
  omega
theorem ED {ns : List Int} {st most : Int} (h1 : 1 <= most) (h6 : most <= 6) : 1 <= jU ns st most /\ jU ns st most <= 6 /\ (1 + bI ns (st + (0 + ((0 : Nat) : Int))) / 7 % most = (jU ns st most : Int)) := by
  unfold jU
  have a := Int.emod_nonneg (bI ns (st + (0 + ((0 : Nat) : Int))) / 7) (show most ≠ 0 by omega)
  have b := Int.emod_lt_of_pos (bI ns (st + (0 + ((0 : Nat) : Int))) / 7) (show 0 < most by omega)
  omega
theorem Oy {α : Type} (l : List α) (a b : Nat) : cutD l (some (a : Int)) (some (b : Int)) = (l.drop (min a l.length)).take (min b l.length - min a l.length) := by
  unfold cutD
  rw [HT.D7,HT.D7]
theorem CF {th : Nat} (h6 : th <= 6) (ns : List Int) (st : Int) : (jb th ns st).length = dz th ns st := by
  unfold jb
  have := vS h6 ns st
  have e : cutD (eC ns st) (some 1) (some (1 + (dz th ns st : Int))) = cutD (eC ns st) (some ((1 : Nat) : Int)) (some ((1 + dz th ns st : Nat) : Int)) := by
    congr 2
  rw [List.length_map,e,Oy,List.length_take,List.length_drop]
  have : (eC ns st).length = 13 := by unfold eC; rw [List.length_map,List.length_range]
  omega
theorem Qv (c : Int) : 0 <= jT c /\ jT c <= 9 := by
  unfold jT
  have := Int.emod_nonneg c (show (4 : Int) ≠ 0 by decide)
  have := Int.emod_lt_of_pos c (show (0 : Int) < 4 by decide)
  have := Int.emod_nonneg c (show (10 : Int) ≠ 0 by decide)
  have := Int.emod_lt_of_pos c (show (0 : Int) < 10 by decide)
  split <;> omega
theorem RH {th : Nat} (t6 : th <= 6) {ns : List Int} {st most : Int} (h1 : 1 <= most) (h6 : most <= 6) : cN (jb th ns st) (eu th ns st most) := by
  obtain ⟨n1,n2,_⟩ := ED (ns := ns) (st := st) h1 h6
  refine ⟨by rw [CF t6]; exact vS t6 ns st,fun x hx => ?_,?_,?_,fun o ho => ?_,fun o ho x hx => ?_⟩
  · obtain ⟨c,_,rfl⟩ := List.mem_map.mp hx
    exact Qv c
  · unfold eu; rw [List.length_map,List.length_range]; exact n1
  · unfold eu; rw [List.length_map,List.length_range]; exact n2
  · obtain ⟨k,_,rfl⟩ := List.mem_map.mp ho
    exact (vR _ _).1
  · obtain ⟨k,_,rfl⟩ := List.mem_map.mp ho
    rw [CF t6]
    exact (vR _ _).2 x hx
abbrev lW : Stmt := top 49
theorem i5 : bq ["_law_script", "_law_start", "_law_things", "_law_askers", "_law_cells", "_law_many", "_law_counts", "_law_orders", "_law_k", "_law_cell"] ["_law_script", "_law_start", "_law_things", "_law_askers"] (ak lW) := ⟨rfl,rfl,rfl,by decide +kernel,rfl,by decide +kernel,by decide +kernel⟩
def FK (dd : List Dv) (t : Tr) : Prop := ∃ (th : Nat) (ns : List Int) (st most : Int),th <= 6 /\ 0 <= st /\ 1 <= most /\ most <= 6 /\ dd = [dis ns,di st,di th,di most] /\ t = .fz (bT (jb th ns st) (eu th ns st most))
theorem LC {f f1 f2 : Addr} {fd aQ fd2 : FuncData} {k : Nat} (F : bt K "_law_table" "_law_table" lW f fd) (T : Txt mg) (Lc : Kn P w K mg base au (k + 1) "_law_cell_at" f1 aQ ["_law_script", "_law_k"] (spT K Hh)) (rl : Kn P w K mg base au (k + 1) "_law_order" f2 fd2 ["_law_cell", "_law_many"] (spT K sC)) : aR P w K mg base au (k + 2) f fd ["_law_script", "_law_start", "_law_things", "_law_askers"] (spT K FK) := by
  refine bA F.d i5 (fun dd t h => by obtain ⟨_,_,_,_,_,_,_,_,rfl,_⟩ := h; rfl) fun dd t h => ?_
  obtain ⟨th,ns,st,most,t6,Jb,h1,h6,rfl,rfl⟩ := h
  refine ⟨_,.inl rfl,?_⟩
  have big : 1000 < sizeLine := by decide
  have hM := vS t6 ns st
  obtain ⟨n1,n2,n3⟩ := ED (ns := ns) (st := st) h1 h6
  have nH : ∀ k : Nat,k < 13 -> aY ((eC ns st).map di) ((k : Nat) : Int) = some (di (bI ns (st + (0 + ((k : Nat) : Int))))) := fun k hk => gg (by rw [List.getElem?_map,NB ns st hk]; rfl)
  have qa : (eC ns st).length = 13 := by unfold eC; rw [List.length_map,List.length_range]
  refine aw (ρ1 := [some (.fz (dis ns)),some (ti st),some (ti th),some (ti most),some (.fz (dis (eC ns st))),none,none,none,none,none]) (jL 4 (kJ (dH.as (d := dis (eC ns st)) (qE (own := ["_law_k"]) (fr := [0,1]) (gf T.fu aj ⟨by decide,by decide⟩) (bX 0 (fun _ => by show List.Nodup (["_law_k", "_law_script", "_law_start"] : List Str); decide)) (by decide) (fun k => true) (fun k => ti (bI ns (st + (0 + ((k : Nat) : Int))))) (by rw [List.length_map,List.length_range]; show 13 < sizeLine; decide) (fun k d hd => by
      obtain ⟨hk,rfl⟩ := oU hd
      exact ⟨_,rfl,pd,fun _ => aU Lc (Nat.le_refl _) (ag (ae 1 rfl) (ag (gP (ae 2 rfl) (ae 0 rfl)) ax)) ⟨ns,_,by omega,rfl,rfl⟩⟩) (fun dd => by cases dd <;> rfl)) (by rw [List.filter_eq_self.mpr (fun _ _ => rfl),mY]; rfl))) (fun i => lcs ⟨rfl,rfl,by decide +kernel,by decide +kernel,by decide +kernel,by decide +kernel⟩) (fun _ => i5.nd)) ?_
  refine aw (aH 5 (bL.to (t' := ti (dz th ns st)) (Ev.s (fA (cy (d := di (bI ns (st + (0 + ((0 : Nat) : Int))))) (ae 4 rfl) aj rfl (nH 0 (by decide))) (gP (ae 2 rfl) aj) (by omega))) (by rw [NC])) (fun _ => i5.nd)) ?_
  refine aw (jL 6 (kJ (dH.as (d := dis (jb th ns st)) (qE (own := ["_law_cell"]) (fr := []) (dr (Di (ae 4 rfl) rfl (rW aj) (rW (gP aj (ae 5 rfl)))) (mX _)) (bX 0 (fun _ => by show List.Nodup (["_law_cell"] : List Str); decide)) (by decide) (fun k => true) (fun k => ti ((((cutD (eC ns st) (some 1) (some (1 + (dz th ns st : Int)))).map jT)[k]?).getD 0)) ?_ (fun k d hd => ?_) (fun dd => ?_)) ?_)) (fun i => lcs ⟨rfl,rfl,by decide +kernel,by decide +kernel,by decide +kernel,by decide +kernel⟩) (fun _ => i5.nd)) ?_
  · have := N6 ((eC ns st).map di) (some 1) (some (1 + (dz th ns st : Int)))
    rw [List.length_map,qa] at this
    omega
  · rw [vI] at hd
    obtain ⟨c,hc,rfl⟩ := fO hd
    refine ⟨_,rfl,pd,fun _ => ?_⟩
    rw [List.getElem?_map,hc]
    refine cy (d := di (jT c)) (eA (ag (fA (ae 0 rfl) aj (by decide)) (ag (fA (ae 0 rfl) aj (by decide)) ax)) (by show 2 <= sizeLine; decide)) (fA (hU (ae 0 rfl) aj ⟨by decide,iO (by decide) (by decide)⟩) aj (by decide)) rfl ?_
    show aY [di (c % 4),di (c % 10)] (c / 10 % 2) = _
    have a := Int.emod_nonneg (c / 10) (show (2 : Int) ≠ 0 by decide)
    have b := Int.emod_lt_of_pos (c / 10) (show (0 : Int) < 2 by decide)
    unfold jT
    have : c / 10 % 2 = 0 \/ c / 10 % 2 = 1 := by omega
    rcases this with h | h <;> rw [h] <;> rfl
  · cases dd <;> rfl
  · rw [List.filter_eq_self.mpr (fun _ _ => rfl),mY,vI,List.length_map]
    unfold jb
    have := oh ((cutD (eC ns st) (some 1) (some (1 + (dz th ns st : Int)))).map jT) 0 id
    rw [List.length_map] at this
    simp only [List.map_id,id] at this
    rw [this]
  refine aw (aH 7 (Ev.s (eA ax (Nat.zero_le _))) (fun _ => i5.nd)) ?_
  have ud : pG (bI ns (st + (0 + ((0 : Nat) : Int)))) 7 := ⟨by decide,iO (by decide) (by decide)⟩
  have HY : pG (bI ns (st + (0 + ((0 : Nat) : Int)))) 42 := ⟨by decide,iO (by decide) (by decide)⟩
  refine aw (gQ (its := fE 0 (jU ns st most)) (bz.s (bz.to (gf T.fu (gP aj (fA (hU (cy (d := di (bI ns (st + (0 + ((0 : Nat) : Int))))) (ae 4 rfl) aj rfl (nH 0 (by decide))) aj ud) (ae 3 rfl) (by omega))) ?_) ?_)) (bX 8 (fun _ => i5.nd)) (fun k => [some (.fz (dis ns)),some (ti st),some (ti th),some (ti most),some (.fz (dis (eC ns st))),some (ti (dz th ns st)),some (.fz (dis (jb th ns st))),some (ni ((eu th ns st most).take k)),none,none]) rfl (fun _ => rfl) (fun j d hd => ?_)) ?_
  · rw [n3]; omega
  · rw [n3,Int.toNat_natCast]
  · obtain ⟨hj,rfl⟩ := oU hd
    have c7 : aY ((eC ns st).map di) (7 + (0 + (j : Int))) = some (di (bI ns (st + (0 + ((7 + j : Nat) : Int))))) := by
      have := nH (7 + j) (by omega)
      rwa [show ((7 + j : Nat) : Int) = 7 + (0 + (j : Int)) by omega] at this ⊢
    have Tq : (eu th ns st most)[j]? = some (jO (kD ns st j) (dz th ns st)) := by
      unfold eu
      rw [List.getElem?_map,List.getElem?_range hj]; rfl
    have hlen : ((eu th ns st most).take j).length < sizeLine := by
      rw [List.length_take]
      have : (eu th ns st most).length = jU ns st most := by unfold eu; rw [List.length_map,List.length_range]
      omega
    have fin : ni ((eu th ns st most).take (j + 1)) = .ow (((eu th ns st most).take j).map bB ++ [bB (jO (kD ns st j) (dz th ns st))]) := by
      rw [gM Tq]
      show Tr.ow _ = _
      rw [List.map_append]; rfl
    rw [fin]
    cases hf : decide (bI ns (st + (0 + ((0 : Nat) : Int))) / 42 % 3 = 0) && decide (1 < bI ns (st + (0 + ((7 + j : Nat) : Int))) % 5) with
    | true =>
      have ec : kD ns st j = bI ns (st + (0 + ((7 : Nat) : Int))) := by
        unfold kD
        rw [Bool.and_eq_true,decide_eq_true_eq,decide_eq_true_eq] at hf
        rw [if_pos hf]
      refine ⟨_,_,rfl,aw (aH 9 (Ev.s (cy (ae 4 rfl) (gP aj (ae 8 rfl)) rfl c7)) (fun _ => i5.nd)) (aw (jM (Et.s (Ew.et (E7 (jQ (fA (hU (cy (d := di (bI ns (st + (0 + ((0 : Nat) : Int))))) (ae 4 rfl) aj rfl (nH 0 (by decide))) aj HY) aj (by decide)) aj) fun _ => (Ec (pH (fA (ae 9 rfl) aj (by decide)) aj))))) hf (aJ (aH 9 (Ev.s (cy (d := di (bI ns (st + (0 + ((7 : Nat) : Int))))) (ae 4 rfl) aj rfl (nH 7 (by decide)))) (fun _ => i5.nd))))
        (aJ (oB 7 rfl (Ev.s (aU rl (Nat.le_refl _) (ag (ae 9 rfl) (ag (ae 5 rfl) ax)) ⟨_,dz th ns st,hM,rfl,rfl⟩)) (by rw [List.length_map]; exact hlen)))),[8,9],?_⟩
      rw [ec]; rfl
    | false =>
      have ec : kD ns st j = bI ns (st + (0 + ((7 + j : Nat) : Int))) := by
        unfold kD
        rw [if_neg]
        intro z
        rw [decide_eq_true z.1,decide_eq_true z.2] at hf
        cases hf
      refine ⟨_,_,rfl,aw (aH 9 (Ev.s (cy (ae 4 rfl) (gP aj (ae 8 rfl)) rfl c7)) (fun _ => i5.nd)) (aw (df (Et.s (Ew.et (E7 (jQ (fA (hU (cy (d := di (bI ns (st + (0 + ((0 : Nat) : Int))))) (ae 4 rfl) aj rfl (nH 0 (by decide))) aj HY) aj (by decide)) aj) fun _ => (Ec (pH (fA (ae 9 rfl) aj (by decide)) aj))))) hf)
        (aJ (oB 7 rfl (Ev.s (aU rl (Nat.le_refl _) (ag (ae 9 rfl) (ag (ae 5 rfl) ax)) ⟨_,dz th ns st,hM,rfl,rfl⟩)) (by rw [List.length_map]; exact hlen)))),[8,9],?_⟩
      rw [ec]; rfl
  · have el : (fE 0 (jU ns st most)).length = (eu th ns st most).length := by unfold eu; simp
    rw [el,List.take_length]
    refine LR (d := .lst ((eu th ns st most).map dis)) 7 rfl (Du _) ?_
    exact aJ (bW (Ev.s (oS (ag (ae 6 rfl) (ag (ae 7 rfl) ax)) rfl (by show 2 <= sizeLine; decide))))
end
end bH
namespace bH
open PySem L2 dY
section
variable {P : Program} {w : World} {K : PySem.W.Frag} {mg : Str -> Option Value} {base : Heap}
theorem RJ (p : Int × Int) : jA (dF p) = true := rfl
theorem FL (p : Int × Int) : fJ (dF p) <= 1 := by
  show cQ _ + 1 <= 1
  exact Nat.succ_le_succ (rY fun d hd => by
    rcases List.mem_cons.mp hd with rfl | hd
    · exact Nat.le_refl _
    · rw [List.mem_singleton.mp hd]; exact Nat.le_refl _)
def bN (aF : List Int) (x : Int) : Int := aF.getD x.toNat 0
def bx (aF : List Int) (full : List Int) (k : Nat) : Int := ((full.take k).map (bN aF)).sum
theorem oE {aF full : List Int} {k : Nat} {x : Int} (h : full[k]? = some x) : bx aF full (k + 1) = bx aF full k + bN aF x := by
  unfold bx
  rw [gM h,List.map_append,List.sum_append]
  simp
structure gV (W : Int) (n : Nat) (aF : List Int) : Prop where
  w0 : 0 < W
  w1 : W < 2 ^ 70
  len : aF.length = n + 1
  t0 : ∀ t ∈ aF,0 <= t /\ t <= W
theorem DH {W : Int} {n : Nat} {aF : List Int} (h : gV W n aF) (x : Int) : 0 <= bN aF x /\ bN aF x <= W := by
  unfold bN
  rw [List.getD_eq_getElem?_getD]
  cases q : aF[x.toNat]? with
  | none => exact ⟨Int.le_refl _,Int.le_of_lt h.w0⟩
  | some t => exact h.t0 t (List.mem_of_getElem? q)
theorem Oz {W s : Int} {m : Nat} (h : 0 < W) (w1 : W < 2 ^ 70) (s0 : 0 <= s) (s1 : s <= m * W) (hm : m <= 100) : fP (fW W s) := by
  have a := gi (s := s) h
  have b := xD (s := s) h
  have c := Fj (s := s) h
  have d : (m : Int) * W <= 100 * 2 ^ 70 := Int.mul_le_mul (by omega) (by omega) (by omega) (by decide)
  refine ⟨a,?_,?_⟩
  · have : (fW W s).2.natAbs <= 2 ^ 70 := by omega
    exact Nat.lt_of_le_of_lt this (by decide)
  · have : (fW W s).1.natAbs <= 100 * 2 ^ 70 := by omega
    exact Nat.lt_of_le_of_lt this (by decide)
theorem rowAt {W : Int} {n : Nat} {aF : List Int} (h : gV W n aF) {x : Int} (x0 : 0 <= x) (x1 : x <= n) : aY ((aF.map (fW W)).map dF) x = some (dF (fW W (bN aF x))) := by
  obtain ⟨m,rfl⟩ : ∃ m : Nat,x = (m : Int) := ⟨x.toNat,by omega⟩
  have hm : m < aF.length := by rw [h.len]; omega
  refine gg ?_
  unfold bN
  rw [List.getElem?_map,List.getElem?_map,List.getD_eq_getElem?_getD,Int.toNat_natCast,List.getElem?_eq_getElem hm]; rfl
theorem wt {n : Nat} {o : List Int} (h : ∀ x ∈ o,0 <= x /\ x < n) : ∀ x ∈ aA n o,0 <= x /\ x <= n := fun x hx => by
  unfold aA gq at hx
  rcases List.mem_append.mp hx with z | z
  · rcases List.mem_append.mp z with z | z
    · have := h x z; omega
    · rw [List.mem_singleton] at z; omega
  · obtain ⟨k,hk,rfl⟩ := List.mem_map.mp z
    have := List.mem_range.mp (List.mem_filter.mp hk).1
    omega
theorem vT {n : Nat} (o : List Int) : (aA n o).length <= o.length + 1 + n := by
  have := rD n o
  unfold aA
  simp only [List.length_append,List.length_singleton]; omega
theorem DI {W s t : Int} (h : 0 < W) : (lT ((fW W s).1 * (fW W t).2 - (fW W t).1 * (fW W s).2) ((fW W s).2 * (fW W t).2),lB ((fW W s).1 * (fW W t).2 - (fW W t).1 * (fW W s).2) ((fW W s).2 * (fW W t).2)) = fW W (s - t) := by
  have p1 := gi (s := s) h
  have p2 := gi (s := t) h
  have c1 := gN (s := s) h
  have c2 := gN (s := t) h
  generalize (fW W s).1 = a at *
  generalize (fW W s).2 = b at *
  generalize (fW W t).1 = c at *
  generalize (fW W t).2 = d at *
  refine oV h (by have := Int.mul_pos p1 p2; omega) ?_
  have e1 : (a * d - c * b) * W = (a * W) * d - (c * W) * b := by
    rw [Int.sub_mul,Int.mul_right_comm a d W,Int.mul_right_comm c b W]
  rw [e1,c1,c2,Int.sub_mul,Int.mul_assoc s b d,Int.mul_assoc t d b,Int.mul_comm d b]
theorem OA {W s c : Int} (h : 0 < W) : (lT ((fW W s).1 * c) ((fW W s).2 * 1),lB ((fW W s).1 * c) ((fW W s).2 * 1)) = fW W (s * c) := by
  have p1 := gi (s := s) h
  have c1 := gN (s := s) h
  generalize (fW W s).1 = a at *
  generalize (fW W s).2 = b at *
  refine oV h (by omega) ?_
  rw [Int.mul_one,Int.mul_right_comm a c W,c1,Int.mul_right_comm]
theorem Qw {W s c : Int} (h : 0 < W) (hc : 0 < c) (hd : c ∣ s) : (lT ((fW W s).1 * 1) ((fW W s).2 * c),lB ((fW W s).1 * 1) ((fW W s).2 * c)) = fW W (s / c) := by
  have p1 := gi (s := s) h
  have c1 := gN (s := s) h
  generalize (fW W s).1 = a at *
  generalize (fW W s).2 = b at *
  obtain ⟨q,rfl⟩ := hd
  rw [Int.mul_ediv_cancel_left _ (by omega)]
  refine oV h (by have := Int.mul_pos p1 hc; omega) ?_
  rw [Int.mul_one,c1,Int.mul_comm c q,Int.mul_assoc,Int.mul_comm c b]
theorem RK {W c : Int} (h : 0 < W) : (c,(1 : Int)) = fW W (c * W) := by
  rw [<- kC]
  exact oV h (by decide) (by rw [Int.mul_one])
theorem FN {c : Int} (h0 : 0 <= c) (h1 : c < 1000) : fP (c,1) := ⟨by show (0 : Int) < 1; decide,by show (1 : Int).natAbs < 2 ^ 90; decide,Nat.lt_of_le_of_lt (show c.natAbs <= 1000 by omega) (by decide)⟩
abbrev mN : Stmt := top 13
theorem OB : bq ["one", "other"] ["one", "other"] (ak mN) := ⟨rfl,rfl,rfl,by decide +kernel,rfl,by decide +kernel,by decide +kernel⟩
def xj (dd : List Dv) (t : Tr) : Prop := ∃ p q : Int × Int,fP p /\ fP q /\ dd = [dF p,dF q] /\ t = tF (lT (p.1 * q.2 - q.1 * p.2) (p.2 * q.2),lB (p.1 * q.2 - q.1 * p.2) (p.2 * q.2))
theorem OC {f f1 : Addr} {fd aQ : FuncData} {k : Nat} (F : bt K "minus" "minus" mN f fd) (T : Txt mg) (cK : Kn P w K mg base au (k + 2) "fraction" f1 aQ ["top", "bottom"] (spT K gv)) : aR P w K mg base au (k + 3) f fd ["one", "other"] (spT K xj) := by
  refine bA F.d OB (fun dd t h => by obtain ⟨_,_,_,_,rfl,_⟩ := h; rfl) fun dd t h => ?_
  obtain ⟨p,q,⟨p1,p2,p3⟩,⟨q1,q2,q3⟩,rfl,rfl⟩ := h
  refine ⟨_,.inl rfl,?_⟩
  have dm : ∀ r : Int × Int,aY [di r.1,di r.2] 0 = some (di r.1) := fun _ => rfl
  have cJ : ∀ r : Int × Int,aY [di r.1,di r.2] 1 = some (di r.2) := fun _ => rfl
  exact aJ (bW (Ev.s (aU cK (Nat.le_refl _) (ag (wM (dP (aO (ae 0 rfl) aj rfl (dm p)) (aO (ae 1 rfl) aj rfl (cJ q)) ⟨bR p3 (by decide),bR q2 (by decide)⟩) (dP (aO (ae 1 rfl) aj rfl (dm q)) (aO (ae 0 rfl) aj rfl (cJ p)) ⟨bR q3 (by decide),bR p2 (by decide)⟩)) (ag (dP (aO (ae 0 rfl) aj rfl (cJ p)) (aO (ae 1 rfl) aj rfl (cJ q)) ⟨bR p2 (by decide),bR q2 (by decide)⟩) ax)) ⟨_,_,Int.mul_pos p1 q1,bR (sy p2 q2) (by decide),rfl,rfl⟩)))
abbrev mO : Stmt := top 14
theorem OD : bq ["one", "other"] ["one", "other"] (ak mO) := ⟨rfl,rfl,rfl,by decide +kernel,rfl,by decide +kernel,by decide +kernel⟩
def FO (dd : List Dv) (t : Tr) : Prop := ∃ p q : Int × Int,fP p /\ fP q /\ dd = [dF p,dF q] /\ t = tF (lT (p.1 * q.1) (p.2 * q.2),lB (p.1 * q.1) (p.2 * q.2))
theorem OG {f f1 : Addr} {fd aQ : FuncData} {k : Nat} (F : bt K "times" "times" mO f fd) (T : Txt mg) (cK : Kn P w K mg base au (k + 2) "fraction" f1 aQ ["top", "bottom"] (spT K gv)) : aR P w K mg base au (k + 3) f fd ["one", "other"] (spT K FO) := by
  refine bA F.d OD (fun dd t h => by obtain ⟨_,_,_,_,rfl,_⟩ := h; rfl) fun dd t h => ?_
  obtain ⟨p,q,⟨p1,p2,p3⟩,⟨q1,q2,q3⟩,rfl,rfl⟩ := h
  refine ⟨_,.inl rfl,?_⟩
  have dm : ∀ r : Int × Int,aY [di r.1,di r.2] 0 = some (di r.1) := fun _ => rfl
  have cJ : ∀ r : Int × Int,aY [di r.1,di r.2] 1 = some (di r.2) := fun _ => rfl
  exact aJ (bW (Ev.s (aU cK (Nat.le_refl _) (ag (dP (aO (ae 0 rfl) aj rfl (dm p)) (aO (ae 1 rfl) aj rfl (dm q)) ⟨bR p3 (by decide),bR q3 (by decide)⟩) (ag (dP (aO (ae 0 rfl) aj rfl (cJ p)) (aO (ae 1 rfl) aj rfl (cJ q)) ⟨bR p2 (by decide),bR q2 (by decide)⟩) ax)) ⟨_,_,Int.mul_pos p1 q1,bR (sy p2 q2) (by decide),rfl,rfl⟩)))
abbrev m7 : Stmt := top 15
theorem Qx : bq ["one", "other"] ["one", "other"] (ak m7) := ⟨rfl,rfl,rfl,by decide +kernel,rfl,by decide +kernel,by decide +kernel⟩
def Hi (dd : List Dv) (t : Tr) : Prop := ∃ p q : Int × Int,fP p /\ fP q /\ 0 < q.1 /\ dd = [dF p,dF q] /\ t = tF (lT (p.1 * q.2) (p.2 * q.1),lB (p.1 * q.2) (p.2 * q.1))
theorem Qy {f f1 : Addr} {fd aQ : FuncData} {k : Nat} (F : bt K "over" "over" m7 f fd) (T : Txt mg) (cK : Kn P w K mg base au (k + 2) "fraction" f1 aQ ["top", "bottom"] (spT K gv)) : aR P w K mg base au (k + 3) f fd ["one", "other"] (spT K Hi) := by
  refine bA F.d Qx (fun dd t h => by obtain ⟨_,_,_,_,_,rfl,_⟩ := h; rfl) fun dd t h => ?_
  obtain ⟨p,q,⟨p1,p2,p3⟩,⟨q1,q2,q3⟩,qp,rfl,rfl⟩ := h
  refine ⟨_,.inl rfl,?_⟩
  have dm : ∀ r : Int × Int,aY [di r.1,di r.2] 0 = some (di r.1) := fun _ => rfl
  have cJ : ∀ r : Int × Int,aY [di r.1,di r.2] 1 = some (di r.2) := fun _ => rfl
  refine aw (df (Et.s (jQ (aO (ae 1 rfl) aj rfl (dm q)) aj)) (decide_eq_false (by omega))) ?_
  exact aJ (bW (Ev.s (aU cK (Nat.le_refl _) (ag (dP (aO (ae 0 rfl) aj rfl (dm p)) (aO (ae 1 rfl) aj rfl (cJ q)) ⟨bR p3 (by decide),bR q2 (by decide)⟩) (ag (dP (aO (ae 0 rfl) aj rfl (cJ p)) (aO (ae 1 rfl) aj rfl (dm q)) ⟨bR p2 (by decide),bR q3 (by decide)⟩) ax)) ⟨_,_,Int.mul_pos p1 qp,bR (sy p2 q3) (by decide),rfl,rfl⟩)))
def xk (p q : Int × Int) : Bool := decide (p.1 * q.2 < q.1 * p.2)
def FP (dd : List Dv) (t : Tr) : Prop := ∃ p q : Int × Int,fP p /\ fP q /\ dd = [dF p,dF q] /\ t = tb (xk p q)
abbrev mP : Stmt := top 16
theorem OH : bq ["one", "other"] ["one", "other"] (ak mP) := ⟨rfl,rfl,rfl,by decide +kernel,rfl,by decide +kernel,by decide +kernel⟩
theorem OI {f : Addr} {fd : FuncData} {k : Nat} (F : bt K "under" "under" mP f fd) (T : Txt mg) : aR P w K mg base au (k + 1) f fd ["one", "other"] (spT K FP) := by
  refine bA F.d OH (fun dd t h => by obtain ⟨_,_,_,_,rfl,_⟩ := h; rfl) fun dd t h => ?_
  obtain ⟨p,q,⟨p1,p2,p3⟩,⟨q1,q2,q3⟩,rfl,rfl⟩ := h
  refine ⟨_,.inl rfl,?_⟩
  have dm : ∀ r : Int × Int,aY [di r.1,di r.2] 0 = some (di r.1) := fun _ => rfl
  have cJ : ∀ r : Int × Int,aY [di r.1,di r.2] 1 = some (di r.2) := fun _ => rfl
  exact aJ (bW (Ev.s (pI (dP (aO (ae 0 rfl) aj rfl (dm p)) (aO (ae 1 rfl) aj rfl (cJ q)) ⟨bR p3 (by decide),bR q2 (by decide)⟩) (dP (aO (ae 1 rfl) aj rfl (dm q)) (aO (ae 0 rfl) aj rfl (cJ p)) ⟨bR q3 (by decide),bR p2 (by decide)⟩))))
theorem DJ {W s t : Int} (h : 0 < W) : xk (fW W s) (fW W t) = decide (s < t) := by
  unfold xk
  rw [decide_eq_decide]
  exact Sr h
def Hj (t1 t2 full : List Int) : List Bool := (List.range full.length).map fun k => decide (bx t1 full (k + 1) < bx t2 full (k + 1))
def sQ (t1 t2 full : List Int) : Bool := !(Hj t1 t2 full).any id
theorem DK {t1 t2 full : List Int} : sQ t1 t2 full = true ↔ ∀ k,k < full.length -> bx t2 full (k + 1) <= bx t1 full (k + 1) := by
  unfold sQ Hj
  rw [Bool.not_eq_true',List.any_eq_false]
  constructor
  · intro h k hk
    have := h _ (List.mem_map.mpr ⟨k,List.mem_range.mpr hk,rfl⟩)
    simp only [id,decide_eq_true_eq] at this
    omega
  · intro h b hb
    obtain ⟨k,hk,rfl⟩ := List.mem_map.mp hb
    have := h k (List.mem_range.mp hk)
    simp only [id,decide_eq_true_eq]
    omega
def cf (W : Int) (aF : List Int) : Dv := .lst ((aF.map (fW W)).map dF)
end
end bH
namespace bH
open PySem L2 dY
section
variable {P : Program} {w : World} {K : PySem.W.Frag} {mg : Str -> Option Value} {base : Heap}
def tm (l : List Int) : Int := l.foldl min (l.headD 0)
theorem u5 (l : List Int) : ∀ a : Int,l.foldl min a <= a /\ (∀ x ∈ l,l.foldl min a <= x) /\ (l.foldl min a = a \/ l.foldl min a ∈ l) := by
  induction l with
  | nil => intro a; exact ⟨Int.le_refl _,fun _ h => (nomatch h),.inl rfl⟩
  | cons y l ih =>
    intro a
    obtain ⟨h1,h2,h3⟩ := ih (min a y)
    rw [List.foldl_cons]
    refine ⟨by omega,fun x hx => ?_,?_⟩
    · rcases List.mem_cons.mp hx with rfl | hx
      · omega
      · exact h2 x hx
    · rcases h3 with h3 | h3
      · rcases Int.le_total a y with z | z
        · left; omega
        · right; rw [h3,Int.min_eq_right z]; exact .head _
      · right; exact .tail _ h3
theorem Qz {l : List Int} {x : Int} (h : x ∈ l) : tm l <= x := (u5 l _).2.1 x h
theorem OJ {l : List Int} (h : l ≠ []) : tm l ∈ l := by
  cases l with
  | nil => exact absurd rfl h
  | cons a r =>
    rcases (u5 (a :: r) a).2.2 with z | z
    · show (a :: r).foldl min a ∈ _
      rw [z]; exact .head _
    · exact z
abbrev mw : Stmt := top 18
theorem rn : bq ["some", "least", "one"] ["some"] (ak mw) := ⟨rfl,rfl,rfl,by decide +kernel,rfl,by decide +kernel,by decide +kernel⟩
def DL (dd : List Dv) (t : Tr) : Prop := ∃ (W : Int) (ss : List Int),0 < W /\ W < 2 ^ 70 /\ ss ≠ [] /\ (∀ s ∈ ss,0 <= s /\ s <= 100 * W) /\ dd = [d8 W ss] /\ t = tF (fW W (tm ss))
theorem Mw {f f1 : Addr} {fd aQ : FuncData} {k : Nat} (F : bt K "least_of" "least_of" mw f fd) (T : Txt mg) (EE : Kn P w K mg base au (k + 1) "under" f1 aQ ["one", "other"] (spT K FP)) : aR P w K mg base au (k + 2) f fd ["some"] (spT K DL) := by
  refine bA F.d rn (fun dd t h => by obtain ⟨_,_,_,_,_,_,rfl,_⟩ := h; rfl) fun dd t h => ?_
  obtain ⟨W,ss,w0,w1,ne,sb,rfl,rfl⟩ := h
  refine ⟨_,.inl rfl,?_⟩
  have h0 : aY (ss.map fun s => dF (fW W s)) 0 = some (dF (fW W (ss.headD 0))) := by
    cases ss with
    | nil => exact absurd rfl ne
    | cons a r => exact gg (j := 0) rfl
  refine aw (aH 1 (Ev.s (cy (ae 0 rfl) aj rfl h0)) (fun _ => rn.nd)) ?_
  have hm : ∀ j,(ss.take j).foldl min (ss.headD 0) ∈ ss := fun j => by
    have hh : ss.headD 0 ∈ ss := by
      cases ss with
      | nil => exact absurd rfl ne
      | cons a r => exact .head _
    rcases (u5 (ss.take j) (ss.headD 0)).2.2 with z | z
    · rw [z]; exact hh
    · exact List.mem_of_mem_take z
  refine aw (gQ (bz.s (dr (ae 0 rfl) rfl)) (bX 2 (fun _ => rn.nd)) (fun j => [some (.fz (d8 W ss)),some (tF (fW W ((ss.take j).foldl min (ss.headD 0)))),none]) rfl (fun _ => rfl) (fun j d hd => ?_)) ?_
  · obtain ⟨x,hx,rfl⟩ := fO hd
    have hb := sb x (List.mem_of_getElem? hx)
    have hl := sb _ (hm j)
    refine ⟨_,[some (.fz (d8 W ss)),some (tF (fW W ((ss.take (j + 1)).foldl min (ss.headD 0)))),some (tF (fW W x))],rfl,?_,[2],rfl⟩
    rw [gM hx,List.foldl_append]
    show bp _ _ _ (.nx [_,some (tF (fW W (min ((ss.take j).foldl min (ss.headD 0)) x))),_])
    generalize (ss.take j).foldl min (ss.headD 0) = m at hl
    rcases Int.lt_or_le x m with z | z
    · rw [show min m x = x by omega]
      exact aJ (jM (Et.s (fB (Ev.to (aU EE (by show k + 1 <= k + 1; omega) (ag (ae 2 rfl) (ag (ae 1 rfl) ax)) ⟨fW W x,fW W m,gU w0 w1 hb.1 (by omega),gU w0 w1 hl.1 (by omega),rfl,rfl⟩) (t' := tb true) (by rw [DJ w0,decide_eq_true z])))) rfl (aJ (aH 1 (Ev.s (ae 2 rfl)) (fun _ => rn.nd))))
    · rw [show min m x = m by omega]
      exact aJ (df (Et.s (fB (Ev.to (aU EE (by show k + 1 <= k + 1; omega) (ag (ae 2 rfl) (ag (ae 1 rfl) ax)) ⟨fW W x,fW W m,gU w0 w1 hb.1 (by omega),gU w0 w1 hl.1 (by omega),rfl,rfl⟩) (t' := tb false) (by rw [DJ w0,decide_eq_false (by omega)])))) rfl)
  · rw [List.length_map,List.take_length]
    exact aJ (bW (Ev.s (ae 1 rfl)))
def WM : Int := 2799360000000
structure dq where
  len : Int
  ai : List Int
  fin : List Int
def bJ (l : List Int) : List Int := (aq l.length).filter fun x => decide (av l x = 0)
def aB (fo : List (List Int)) (l : List Int) : List Int := fo.map fun o => (bS o (bJ l)).headD 0
def jq (l ai : List Int) : List Int := ((aq l.length).filter fun x => ai.contains x).map fun x => av l x / (ai.count x : Int)
def bU (l ai : List Int) (τ : Int) : Int := tm (τ :: jq l ai)
def bg (l ai : List Int) (len : Int) : List Int := (aq l.length).map fun x => av l x - len * (ai.count x : Int)
def iQ (fo : List (List Int)) (l : List Int) (τ : Int) : dq := ⟨bU l (aB fo l) τ,aB fo l,(bJ (bg l (aB fo l) (bU l (aB fo l) τ))).filter fun x => (aB fo l).contains x⟩
def cS : Nat -> List (List Int) -> List Int -> Int -> List dq
  | 0,_,_,_ => []
  | n + 1,fo,l,τ => if τ = 0 then [] else iQ fo l τ :: cS n fo (bg l (aB fo l) (bU l (aB fo l) τ)) (τ - bU l (aB fo l) τ)
theorem rG (n : Nat) (fo : List (List Int)) (l : List Int) : cS n fo l 0 = [] := by cases n <;> simp [cS]
theorem rq {n : Nat} {fo : List (List Int)} {l : List Int} {τ : Int} (h : τ ≠ 0) : cS (n + 1) fo l τ = iQ fo l τ :: cS n fo (bg l (aB fo l) (bU l (aB fo l) τ)) (τ - bU l (aB fo l) τ) := by rw [cS,if_neg h]
theorem rN (g : Int -> Int) {m : Nat} {x : Int} (h0 : 0 <= x) (h1 : x < m) : av ((aq m).map g) x = g x := by
  unfold av aq
  rw [List.map_map,List.getD_eq_getElem?_getD,List.getElem?_map,List.getElem?_range (by omega)]
  show g (0 + ((x.toNat : Nat) : Int)) = g x
  congr 1; omega
theorem mQ (l ai : List Int) (len : Int) : (bg l ai len).length = l.length := by unfold bg; rw [List.length_map,eh]
theorem r9 {l : List Int} {x : Int} (h0 : 0 <= x) (h1 : x < l.length) : av l x ∈ l := by
  unfold av
  rw [List.getD_eq_getElem?_getD,List.getElem?_eq_getElem (show x.toNat < l.length by omega)]
  exact List.getElem_mem _
def n5 (l : List Int) : Nat := ((aq l.length).filter fun x => decide (av l x ≠ 0)).length
structure il (m : Nat) (fo : List (List Int)) : Prop where
  o6 : fo.length <= 6
  none : ∀ o ∈ fo,(m : Int) ∈ o
  bj : ∀ o ∈ fo,∀ x ∈ o,0 <= x /\ x <= m
  nd : ∀ o ∈ fo,o.Nodup
  len : ∀ o ∈ fo,o.length <= 100
structure iL (n m : Nat) (l : List Int) (τ : Int) : Prop where
  len : l.length = m
  m6 : m <= 6
  lb : ∀ x ∈ l,0 <= x /\ x <= 9 * WM /\ ((60 ^ n : Nat) : Int) ∣ x
  t0 : 0 <= τ
  t1 : τ <= WM
  td : ((60 ^ n : Nat) : Int) ∣ τ
  nz : τ ≠ 0 -> n5 l < n
theorem oG {l : List Int} {x : Int} : x ∈ bJ l ↔ (0 <= x /\ x < l.length) /\ av l x = 0 := by
  unfold bJ
  rw [List.mem_filter,de,decide_eq_true_iff]
theorem vC {m : Nat} {o : List Int} {l : List Int} (hl : l.length = m) (ho : (m : Int) ∈ o) : ∃ x r,bS o (bJ l) = x :: r /\ x ∈ o /\ x ∉ bJ l := by
  have hm : (m : Int) ∈ bS o (bJ l) := by
    unfold bS
    refine List.mem_filter.mpr ⟨ho,?_⟩
    have : (m : Int) ∉ bJ l := fun z => by have := (oG.mp z).1; omega
    simpa using this
  cases h : bS o (bJ l) with
  | nil => rw [h] at hm; cases hm
  | cons x r =>
    have hx : x ∈ bS o (bJ l) := by rw [h]; exact .head _
    unfold bS at hx
    obtain ⟨h1,h2⟩ := List.mem_filter.mp hx
    exact ⟨x,r,rfl,h1,by simpa using h2⟩
theorem FQ {m : Nat} {fo : List (List Int)} {l : List Int} (F : il m fo) (hl : l.length = m) {x : Int} (hx : x ∈ aB fo l) : 0 <= x /\ x <= m /\ x ∉ bJ l := by
  unfold aB at hx
  obtain ⟨o,ho,rfl⟩ := List.mem_map.mp hx
  obtain ⟨y,r,e,h1,h2⟩ := vC hl (F.none o ho)
  rw [e]
  have := F.bj o ho y h1
  exact ⟨this.1,this.2,h2⟩
theorem sd (fo : List (List Int)) (l : List Int) : (aB fo l).length = fo.length := by unfold aB; rw [List.length_map]
theorem se {l ai : List Int} {q : Int} (h : q ∈ jq l ai) : ∃ x : Int,0 <= x /\ x < l.length /\ x ∈ ai /\ q = av l x / (ai.count x : Int) := by
  unfold jq at h
  obtain ⟨x,hx,rfl⟩ := List.mem_map.mp h
  obtain ⟨h1,h2⟩ := List.mem_filter.mp hx
  have := de.mp h1
  exact ⟨x,this.1,this.2,by simpa using h2,rfl⟩
theorem RL {l ai : List Int} {x : Int} (h0 : 0 <= x) (h1 : x < l.length) (h2 : x ∈ ai) : av l x / (ai.count x : Int) ∈ jq l ai :=
  List.mem_map.mpr ⟨x,List.mem_filter.mpr ⟨de.mpr ⟨h0,h1⟩,by simpa using h2⟩,rfl⟩
theorem Hk {c : Nat} (h1 : 1 <= c) (h6 : c <= 6) : (c : Int) ∣ 60 := by
  have : c = 1 \/ c = 2 \/ c = 3 \/ c = 4 \/ c = 5 \/ c = 6 := by omega
  rcases this with rfl | rfl | rfl | rfl | rfl | rfl <;> decide
theorem RM {n : Nat} {v : Int} {c : Nat} (h1 : 1 <= c) (h6 : c <= 6) (hd : ((60 ^ (n + 1) : Nat) : Int) ∣ v) : (c : Int) ∣ v /\ ((60 ^ n : Nat) : Int) ∣ v / c /\ v / c * c = v := by
  obtain ⟨k,rfl⟩ := hd
  obtain ⟨e,he⟩ := Hk h1 h6
  have e1 : ((60 ^ (n + 1) : Nat) : Int) * k = (c : Int) * (((60 ^ n : Nat) : Int) * (e * k)) := by
    rw [Nat.pow_succ,Int.natCast_mul,show ((60 : Nat) : Int) = c * e from he,Int.mul_assoc,Int.mul_assoc,Int.mul_left_comm]
  have hc : (c : Int) ≠ 0 := by omega
  rw [e1,Int.mul_ediv_cancel_left _ hc]
  exact ⟨Int.dvd_mul_right _ _,Int.dvd_mul_right _ _,Int.mul_comm _ _⟩
structure RN (n m : Nat) (l ai : List Int) (len τ : Int) : Prop where
  pos : 0 < len
  le : len <= τ
  part : ((60 ^ n : Nat) : Int) ∣ len
  has : ∀ x : Int,0 <= x -> x < m -> len * (ai.count x : Int) <= av l x
  next : iL n m (bg l ai len) (τ - len)
theorem oX {n m : Nat} {fo : List (List Int)} {l : List Int} {τ : Int} (F : il m fo) (S : iL (n + 1) m l τ) (ht : τ ≠ 0) : RN n m l (aB fo l) (bU l (aB fo l) τ) τ := by
  have hl := S.len
  have nI := sd fo l
  have zL : ∀ x ∈ aB fo l,0 <= x /\ x <= m /\ x ∉ bJ l := fun x hx => FQ F hl hx
  generalize aB fo l = ai at nI zL
  have o6 := F.o6
  have cnt : ∀ x ∈ ai,1 <= ai.count x /\ ai.count x <= 6 := fun x hx => ⟨List.count_pos_iff.mpr hx,Nat.le_trans List.count_le_length (by omega)⟩
  have lb : ∀ x : Int,0 <= x -> x < m -> 0 <= av l x /\ av l x <= 9 * WM /\ ((60 ^ (n + 1) : Nat) : Int) ∣ av l x := fun x h0 h1 => S.lb _ (r9 h0 (by omega))
  have HZ : ∀ x ∈ ai,x < m -> 0 < av l x := fun x hx h1 => by
    obtain ⟨h0,_,h2⟩ := zL x hx
    have a := (lb x h0 h1).1
    rcases Int.lt_or_eq_of_le a with z | z
    · exact z
    · exact absurd (oG.mpr ⟨⟨h0,by omega⟩,z.symm⟩) h2
  have uf : ∀ x ∈ ai,x < m -> 0 < av l x / (ai.count x : Int) /\ ((60 ^ n : Nat) : Int) ∣ av l x / (ai.count x : Int) /\ av l x / (ai.count x : Int) * (ai.count x : Int) = av l x := fun x hx h1 => by
    obtain ⟨h0,_,_⟩ := zL x hx
    obtain ⟨c1,c6⟩ := cnt x hx
    obtain ⟨_,a,b⟩ := RM c1 c6 (lb x h0 h1).2.2
    have p := HZ x hx h1
    refine ⟨?_,a,b⟩
    rcases Int.lt_or_le 0 (av l x / (ai.count x : Int)) with z | z
    · exact z
    · have : av l x / (ai.count x : Int) * (ai.count x : Int) <= 0 := Int.mul_nonpos_of_nonpos_of_nonneg z (by omega)
      omega
  have yC : ((60 ^ n : Nat) : Int) ∣ ((60 ^ (n + 1) : Nat) : Int) := ⟨60,by rw [Nat.pow_succ,Int.natCast_mul]; rfl⟩
  have tq : bU l ai τ ∈ τ :: jq l ai := OJ (by simp)
  have zM : ∀ x,x ∈ τ :: jq l ai -> bU l ai τ <= x := fun x hx => Qz hx
  generalize bU l ai τ = len at tq zM
  have h1 : 0 < len := by
    rcases List.mem_cons.mp tq with z | z
    · have := S.t0; omega
    · obtain ⟨x,h0,h1,h2,rfl⟩ := se z
      exact (uf x h2 (by omega)).1
  have h2 : len <= τ := zM τ (.head _)
  have h3 : ((60 ^ n : Nat) : Int) ∣ len := by
    rcases List.mem_cons.mp tq with z | z
    · rw [z]; exact Int.dvd_trans yC S.td
    · obtain ⟨x,a0,a1,a2,e⟩ := se z
      rw [e]
      exact (uf x a2 (by omega)).2.1
  have h4 : ∀ x : Int,0 <= x -> x < m -> len * (ai.count x : Int) <= av l x := fun x a b => by
    by_cases hx : x ∈ ai
    · have q := zM _ (.tail _ (RL a (by omega) hx))
      have e := (uf x hx b).2.2
      rw [<- e]
      exact Int.mul_le_mul_of_nonneg_right q (by omega)
    · rw [List.count_eq_zero.mpr hx]
      have := (lb x a b).1
      show len * (0 : Int) <= _
      omega
  refine ⟨h1,h2,h3,h4,?_⟩
  have Ia : ∀ x : Int,0 <= x -> x < m -> av (bg l ai len) x = av l x - len * (ai.count x : Int) := fun x a b => by
    unfold bg
    exact rN _ a (by omega)
  have aal : 0 < WM := by decide
  refine ⟨by rw [mQ,hl],S.m6,fun y hy => ?_,by omega,by have := S.t1; omega,Int.dvd_sub (Int.dvd_trans yC S.td) h3,fun hn => ?_⟩
  · unfold bg at hy
    obtain ⟨x,hx,rfl⟩ := List.mem_map.mp hy
    obtain ⟨a,b⟩ := de.mp hx
    have a4 := h4 x a (by omega)
    obtain ⟨b1,b2,b3⟩ := lb x a (by omega)
    have : 0 <= len * (ai.count x : Int) := Int.mul_nonneg (by omega) (by omega)
    exact ⟨by omega,by omega,Int.dvd_sub (Int.dvd_trans yC b3) (Int.dvd_mul_of_dvd_left h3)⟩
  · have hq : len ∈ jq l ai := by
      rcases List.mem_cons.mp tq with z | z
      · omega
      · exact z
    obtain ⟨x,a,b,hx,e⟩ := se hq
    have zero : av (bg l ai len) x = 0 := by
      rw [Ia x a (by omega),e,(uf x hx (by omega)).2.2]; omega
    have pos := HZ x hx (by omega)
    have key : n5 (bg l ai len) < n5 l := by
      unfold n5
      rw [mQ]
      have e1 : ((aq l.length).filter fun x => decide (av (bg l ai len) x ≠ 0)) = ((aq l.length).filter fun x => decide (av l x ≠ 0)).filter fun x => decide (av (bg l ai len) x ≠ 0) := by
        rw [List.filter_filter]
        refine List.filter_congr fun y hy => ?_
        obtain ⟨a',b'⟩ := de.mp hy
        rw [Bool.eq_iff_iff,Bool.and_eq_true,decide_eq_true_iff,decide_eq_true_iff]
        refine ⟨fun z => ⟨z,fun w => z ?_⟩,fun z => z.1⟩
        rw [Ia y a' (by omega)]
        have := h4 y a' (by omega)
        have : 0 <= len * (ai.count y : Int) := Int.mul_nonneg (by omega) (by omega)
        omega
      rw [e1]
      refine List.length_filter_lt_length_iff_exists.mpr ⟨x,List.mem_filter.mpr ⟨de.mpr ⟨a,b⟩,decide_eq_true (by omega)⟩,?_⟩
      rw [zero]; decide
    have := S.nz ht
    omega
theorem DM {m : Nat} {fo : List (List Int)} (F : il m fo) : ∀ (n : Nat) (l : List Int) (τ : Int),iL n m l τ -> ∀ s ∈ cS n fo l τ,∃ l',l'.length = m /\ s.ai = aB fo l' /\ 0 < s.len /\ s.len <= WM
  | 0,l,τ,_,s,hs => by cases hs
  | n + 1,l,τ,S,s,hs => by
    by_cases ht : τ = 0
    · rw [ht,rG] at hs; cases hs
    · rw [rq ht] at hs
      have ok := oX F S ht
      rcases List.mem_cons.mp hs with rfl | hs
      · exact ⟨l,S.len,rfl,ok.pos,Int.le_trans ok.le S.t1⟩
      · exact DM F n _ _ ok.next s hs
theorem DN {m : Nat} {fo : List (List Int)} (F : il m fo) : ∀ (n : Nat) (l : List Int) (τ : Int),iL n m l τ -> ((cS n fo l τ).map dq.len).sum = τ
  | 0,l,τ,S => by
    by_cases ht : τ = 0
    · rw [ht]; rfl
    · exact absurd (S.nz ht) (Nat.not_lt_zero _)
  | n + 1,l,τ,S => by
    by_cases ht : τ = 0
    · rw [ht,rG]; rfl
    · rw [rq ht,List.map_cons,List.sum_cons,DN F n _ _ (oX F S ht).next]
      show bU l (aB fo l) τ + _ = _
      omega
theorem DP : ∀ (n : Nat) (fo : List (List Int)) (l : List Int) (τ : Int),(cS n fo l τ).length <= n
  | 0,_,_,_ => Nat.le_refl _
  | n + 1,fo,l,τ => by
    rw [cS]
    split
    · exact Nat.zero_le _
    · rw [List.length_cons]; have := DP n fo (bg l (aB fo l) (bU l (aB fo l) τ)) (τ - bU l (aB fo l) τ); omega
theorem RO (l : List Int) : n5 l <= l.length := by
  unfold n5
  exact Nat.le_trans (List.length_filter_le _ _) (by rw [eh]; exact Nat.le_refl _)
def cn (c : List Int) (os : List (List Int)) : List dq := cS 7 (os.map (aA c.length)) (c.map (· * WM)) WM
theorem rO {c : List Int} (h6 : c.length <= 6) (hc : ∀ x ∈ c,0 <= x /\ x <= 9) : iL 7 c.length (c.map (· * WM)) WM := by
  have hw : WM = ((60 ^ 7 : Nat) : Int) := by decide
  refine ⟨by rw [List.length_map],h6,fun x hx => ?_,by decide,Int.le_refl _,by rw [<- hw]; exact Int.dvd_refl _,fun _ => ?_⟩
  · obtain ⟨y,hy,rfl⟩ := List.mem_map.mp hx
    obtain ⟨a,b⟩ := hc y hy
    refine ⟨Int.mul_nonneg a (by decide),Int.mul_le_mul_of_nonneg_right b (by decide),by rw [<- hw]; exact Int.dvd_mul_left _ _⟩
  · have := RO (c.map (· * WM))
    rw [List.length_map] at this
    omega
end
end bH
namespace bH
open PySem L2 dY
section
variable {P : Program} {w : World} {K : PySem.W.Frag} {mg : Str -> Option Value} {base : Heap}
theorem dJ : 0 < WM := by decide
theorem jD : WM < 2 ^ 70 := by decide
theorem QA {α : Type} (l : List Int) (f : Int -> α) : l.map f = (aq l.length).map fun x => f (av l x) := by
  unfold aq
  rw [List.map_map,<- oh l 0 f]
  refine List.map_congr_left fun j hj => ?_
  show f ((l[j]?).getD 0) = f (av l (0 + (j : Int)))
  unfold av
  rw [Int.zero_add,Int.toNat_natCast,List.getD_eq_getElem?_getD]
theorem RP {α β : Type} (l : List α) (d : α) (f : α -> β) : l.map f = (aq l.length).map fun x => f (l.getD x.toNat d) := by
  unfold aq
  rw [List.map_map,<- oh l d f]
  refine List.map_congr_left fun j hj => ?_
  show f ((l[j]?).getD d) = f (l.getD (0 + (j : Int)).toNat d)
  rw [Int.zero_add,Int.toNat_natCast,List.getD_eq_getElem?_getD]
theorem Hl (l : List Int) (f : Int -> Dv) : jm (l.map f) = (aq l.length).map fun x => .tup [di x,f (av l x)] := by
  rw [QA l f]
  unfold jm aq
  rw [List.map_map,List.length_map,List.length_range,List.zipWith_map_right,List.zipWith_self,List.map_map]
  refine List.map_congr_left fun j _ => ?_
  show Dv.tup [di (j : Int),f (av l (0 + (j : Int)))] = Dv.tup [di (0 + (j : Int)),f (av l (0 + (j : Int)))]
  rw [Int.zero_add]
theorem RQ (p q : Int × Int) : cE (dF p) (dF q) = decide (p = q) := by
  show (p.1 == q.1 && (p.2 == q.2 && true)) = _
  rw [Bool.and_true,Bool.eq_iff_iff,Bool.and_eq_true,beq_iff_eq,beq_iff_eq,decide_eq_true_iff]
  exact ⟨fun h => Prod.ext h.1 h.2,fun h => by rw [h]; exact ⟨rfl,rfl⟩⟩
theorem DQ {W s : Int} (h : 0 < W) : cE (dF (fW W s)) (dF (lT 0 1,lB 0 1)) = decide (s = 0) := by
  rw [RQ,kC,<- Ei h,decide_eq_decide]
  exact ⟨fun e => Rp h e,fun e => by rw [e]⟩
theorem JM (p : Int × Int) : fJ (er (tF p)) <= 50 := Nat.le_trans (FL p) (by decide)
structure n6 (l : List Int) : Prop where
  len : l.length <= 6
  b : ∀ x ∈ l,0 <= x /\ x <= 9 * WM /\ (60 : Int) ∣ x
theorem n6.at {l : List Int} (h : n6 l) {x : Int} (h0 : 0 <= x) (h1 : x < l.length) : 0 <= av l x /\ av l x <= 9 * WM /\ (60 : Int) ∣ av l x := h.b _ (r9 h0 h1)
abbrev lO : Stmt := top 27
theorem B6 : bq ["left", "eaten", "time_left", "things"] ["left", "eaten", "time_left"] (ak lO) := ⟨rfl,rfl,rfl,by decide +kernel,rfl,by decide +kernel,by decide +kernel⟩
def DR (dd : List Dv) (t : Tr) : Prop := ∃ (l ai : List Int) (τ : Int),n6 l /\ ai.length <= 6 /\ 0 <= τ /\ τ <= WM /\ dd = [d8 WM l,dis ai,dF (fW WM τ)] /\ t = tF (fW WM (bU l ai τ))
theorem Ld {f f1 f2 f3 : Addr} {fd aQ fd2 gK : FuncData} {k : Nat} {tk : Tok} (F : bt K "next_length" "next_length" lO f fd) (T : Txt mg) (cK : Kn P w K mg base au (k + 2) "fraction" f1 aQ ["top", "bottom"] (spT K gv)) (B1 : Binds K aQ ["top", "bottom"] [.int 1 tk]) (RR : Kn P w K mg base au (k + 3) "over" f2 fd2 ["one", "other"] (spT K Hi)) (MN : Kn P w K mg base au (k + 2) "least_of" f3 gK ["some"] (spT K DL)) : aR P w K mg base au (k + 4) f fd ["left", "eaten", "time_left"] (spT K DR) := by
  refine bA F.d B6 (fun dd t h => by obtain ⟨_,_,_,_,_,_,_,rfl,_⟩ := h; rfl) fun dd t h => ?_
  obtain ⟨l,ai,τ,fV,e6,t0,t1,rfl,rfl⟩ := h
  refine ⟨_,.inl rfl,?_⟩
  have big : 1000 < sizeLine := by decide
  have w0 := dJ
  have l6 := fV.len
  have nI : (((l.map fun s => dF (fW WM s)).length : Nat) : Int) = l.length := by rw [List.length_map]
  have qU : fE 0 (((l.map fun s => dF (fW WM s)).length : Nat) : Int).toNat = (aq l.length).map di := by
    rw [nI,Int.toNat_natCast]
    unfold aq
    rw [List.map_map]; rfl
  refine aw (jL 3 (kJ (dH.as (d := dis ((aq l.length).filter fun x => ai.contains x)) (yu (own := ["thing"]) (fr := [1]) (aq l.length) di (fun x => ai.contains x) ti (bz.to (gf T.fu (cM T.cz (ae 0 rfl) (.inl rfl)) (by rw [nI]; omega)) qU) (bX 0 (fun _ => by show List.Nodup (["thing", "eaten"] : List Str); decide)) (by decide) (by rw [eh]; omega) (fun x hx => ⟨_,rfl,by exact hZ (GP (ae 0 rfl) (ae 1 rfl) rfl (by with_unfolding_all rfl)),fun _ => by exact ae 0 rfl⟩) (fun dd => by cases dd <;> rfl)) (eY _))) (fun i => lcs ⟨rfl,rfl,by decide +kernel,by decide +kernel,by decide +kernel,by decide +kernel⟩) (fun _ => B6.nd)) ?_
  have JN : ∀ x ∈ (aq l.length).filter (fun x => ai.contains x),0 <= x /\ x < l.length /\ 1 <= ai.count x /\ ai.count x <= 6 := fun x hx => by
    obtain ⟨h1,h2⟩ := List.mem_filter.mp hx
    have := de.mp h1
    exact ⟨this.1,this.2,List.count_pos_iff.mpr (by simpa using h2),Nat.le_trans List.count_le_length e6⟩
  have hlen : ((aq l.length).filter (fun x => ai.contains x)).length <= 6 := Nat.le_trans (List.length_filter_le _ _) (by rw [eh]; exact l6)
  have eq : jq l ai = ((aq l.length).filter fun x => ai.contains x).map fun x => av l x / (ai.count x : Int) := rfl
  have hq : ∀ s ∈ τ :: jq l ai,0 <= s /\ s <= 100 * WM := fun s hs => by
    rcases List.mem_cons.mp hs with rfl | hs
    · omega
    · obtain ⟨x,a0,a1,_,rfl⟩ := se hs
      have := fV.at a0 a1
      have d1 := Int.ediv_nonneg this.1 (show (0 : Int) <= (ai.count x : Int) by omega)
      have d2 := Int.ediv_le_self (ai.count x : Int) this.1
      omega
  unfold bU
  rw [eq] at hq ⊢
  generalize (aq l.length).filter (fun x => ai.contains x) = th at JN hlen hq
  show bp _ _ [some (.fz (d8 WM l)),some (.fz (dis ai)),some (tF (fW WM τ)),some (.fz (dis th))] _
  refine aJ (bW (Ev.s (aU MN (by show k + 2 <= k + 3; omega) (ag (Ev.as (d := d8 WM (τ :: th.map fun x => av l x / (ai.count x : Int))) (mV (xs := [dF (fW WM τ)]) (ys := th.map fun x => dF (fW WM (av l x / (ai.count x : Int)))) (eA (ag (ae 2 rfl) ax) (by show 1 <= sizeLine; decide)) (jd (own := ["thing"]) (fr := [0,1]) th di (fun x => tF (fW WM (av l x / (ai.count x : Int)))) (fun i => lcs ⟨rfl,rfl,by decide +kernel,by decide +kernel,by decide +kernel,by decide +kernel⟩) (dr (ae 3 rfl) rfl) (bX 0 (fun _ => by show List.Nodup (["thing", "left", "eaten"] : List Str); decide)) (by decide) (by omega) (fun x hx => ⟨_,rfl,by
      obtain ⟨x0,x1,c1,c6⟩ := JN x hx
      obtain ⟨l0,l9,JO⟩ := fV.at x0 x1
      have dU : (0 : Int) < (ai.count x : Int) := by omega
      exact Ev.to (aU RR (Nat.le_refl _) (ag (cy (ae 1 rfl) (ae 0 rfl) rfl (xi (fun s => dF (fW WM s)) x0 x1)) (ag (Ev.to (ke cK B1 (by show k + 2 <= k + 3; omega) (ag (Dn (ae 2 rfl) rfl (ae 0 rfl)) ax) ⟨(ai.count x : Int),1,by decide,by decide,rfl,rfl⟩) (t' := tF ((ai.count x : Int),1)) (by rw [kC])) ax)) ⟨fW WM (av l x),((ai.count x : Int),1),gU dJ jD l0 (by omega),FN (by omega) (by omega),dU,rfl,rfl⟩) (by rw [<- Qw dJ dU (Int.dvd_trans (Hk c1 c6) JO)])⟩) (fun dd => by cases dd <;> rfl)) rfl (eW _ _) (by rw [List.length_map]; show 1 + _ <= _; omega)) (by rw [mX]; show Dv.lst (dF (fW WM τ) :: _) = Dv.lst (dF (fW WM τ) :: _); rw [List.map_map]; rfl)) ax) ⟨WM,_,dJ,jD,by simp,hq,rfl,rfl⟩)))
abbrev lP : Stmt := top 28
theorem Le : bq ["left", "eaten", "length"] ["left", "eaten", "length"] (ak lP) := ⟨rfl,rfl,rfl,by decide +kernel,rfl,by decide +kernel,by decide +kernel⟩
def Cu (dd : List Dv) (t : Tr) : Prop := ∃ (l ai : List Int) (len : Int),n6 l /\ ai.length <= 6 /\ 0 <= len /\ len <= WM /\ dd = [d8 WM l,dis ai,dF (fW WM len)] /\ t = .ow ((bg l ai len).map fun s => tF (fW WM s))
theorem Lf {f f1 f2 f3 : Addr} {fd aQ fd2 gK : FuncData} {k : Nat} {tk : Tok} (F : bt K "left_behind" "left_behind" lP f fd) (T : Txt mg) (cK : Kn P w K mg base au (k + 2) "fraction" f1 aQ ["top", "bottom"] (spT K gv)) (B1 : Binds K aQ ["top", "bottom"] [.int 1 tk]) (wu : Kn P w K mg base au (k + 3) "minus" f2 fd2 ["one", "other"] (spT K xj)) (QB : Kn P w K mg base au (k + 3) "times" f3 gK ["one", "other"] (spT K FO)) : aR P w K mg base au (k + 4) f fd ["left", "eaten", "length"] (spT K Cu) := by
  refine bA F.d Le (fun dd t h => by obtain ⟨_,_,_,_,_,_,_,rfl,_⟩ := h; rfl) fun dd t h => ?_
  obtain ⟨l,ai,len,fV,e6,t0,t1,rfl,rfl⟩ := h
  refine ⟨_,.inl rfl,?_⟩
  have big : 1000 < sizeLine := by decide
  have w0 := dJ
  have l6 := fV.len
  unfold bg
  rw [List.map_map]
  refine aJ (bW (Ev.s (jd (own := ["thing", "some"]) (fr := [2,1]) (aq l.length) (fun x => .tup [di x,dF (fW WM (av l x))]) (fun x => tF (fW WM (av l x - len * (ai.count x : Int)))) (fun i => lcs ⟨rfl,rfl,by decide +kernel,by decide +kernel,by decide +kernel,by decide +kernel⟩) (bz.to (oN T.oq (ae 0 rfl) rfl) (Hl l fun s => dF (fW WM s))) (kr 0 1 (fun _ => by show List.Nodup (["thing", "some", "length", "eaten"] : List Str); decide)) (by decide) (by rw [eh]; omega) (fun x hx => ⟨_,rfl,by
      obtain ⟨x0,x1⟩ := de.mp hx
      obtain ⟨l0,l9,JO⟩ := fV.at x0 x1
      have c6 : ai.count x <= 6 := Nat.le_trans List.count_le_length e6
      have c0 : 0 <= len * (ai.count x : Int) := Int.mul_nonneg t0 (by omega)
      have c9 : len * (ai.count x : Int) <= WM * 6 := Int.mul_le_mul t1 (by omega) (by omega) (by omega)
      exact Ev.to (aU wu (Nat.le_refl _) (ag (ae 1 rfl) (ag (Ev.to (aU QB (Nat.le_refl _) (ag (ae 2 rfl) (ag (Ev.to (ke cK B1 (by show k + 2 <= k + 3; omega) (ag (Dn (ae 3 rfl) rfl (ae 0 rfl)) ax) ⟨(ai.count x : Int),1,by decide,by decide,rfl,rfl⟩) (t' := tF ((ai.count x : Int),1)) (by rw [kC])) ax)) ⟨fW WM len,((ai.count x : Int),1),gU dJ jD t0 (by omega),FN (by omega) (by omega),rfl,rfl⟩) (t' := tF (fW WM (len * (ai.count x : Int)))) (by rw [<- OA dJ])) ax)) ⟨fW WM (av l x),fW WM (len * (ai.count x : Int)),gU dJ jD l0 (by omega),gU dJ jD c0 (by omega),rfl,rfl⟩) (by rw [DI dJ])⟩) (fun dd => by rcases dd with _ | ⟨a,_ | ⟨b,dd⟩⟩ <;> rfl))))
abbrev lL : Stmt := top 29
theorem KU : bq ["left"] ["left"] (ak lL) := ⟨rfl,rfl,rfl,by decide +kernel,rfl,by decide +kernel,by decide +kernel⟩
def FR (dd : List Dv) (t : Tr) : Prop := ∃ l : List Int,l.length <= 6 /\ dd = [d8 WM l] /\ t = bB (bJ l)
theorem KW {f f1 : Addr} {fd aQ : FuncData} {k : Nat} {tk : Tok} (F : bt K "ended_things" "ended_things" lL f fd) (T : Txt mg) (cK : Kn P w K mg base au (k + 2) "fraction" f1 aQ ["top", "bottom"] (spT K gv)) (B1 : Binds K aQ ["top", "bottom"] [.int 1 tk]) : aR P w K mg base au (k + 3) f fd ["left"] (spT K FR) := by
  refine bA F.d KU (fun dd t h => by obtain ⟨_,_,rfl,_⟩ := h; rfl) fun dd t h => ?_
  obtain ⟨l,l6,rfl,rfl⟩ := h
  refine ⟨_,.inl rfl,?_⟩
  have big : 1000 < sizeLine := by decide
  refine aJ (bW (Ev.s (ph (own := ["thing", "some"]) (fr := []) (aq l.length) (fun x => .tup [di x,dF (fW WM (av l x))]) (fun x => decide (av l x = 0)) ti (fun i => lcs ⟨rfl,rfl,by decide +kernel,by decide +kernel,by decide +kernel,by decide +kernel⟩) (bz.to (oN T.oq (ae 0 rfl) rfl) (Hl l fun s => dF (fW WM s))) (kr 0 1 (fun _ => by show List.Nodup (["thing", "some"] : List Str); decide)) (by decide) (by rw [eh]; omega) (fun x hx => ⟨_,rfl,by
      exact hZ (Et.to (wO (tb' := tF (lT 0 1,lB 0 1)) (ae 1 rfl) (ke cK B1 (Nat.le_refl _) (ag aj ax) ⟨0,1,by decide,by decide,rfl,rfl⟩) (.inr ⟨_,_,rfl,rfl⟩) (JM _)) (DQ dJ)),fun _ => by exact ae 0 rfl⟩) (fun dd => by rcases dd with _ | ⟨a,_ | ⟨b,dd⟩⟩ <;> rfl))))
def ny (s : dq) : Dv := .tup [dF (fW WM s.len),dis s.ai,dis s.fin]
abbrev xm (st : List dq) : Dv := .lst (st.map ny)
abbrev lX : Stmt := top 30
theorem iN : bq ["table", "orders", "left", "time_left", "steps", "gone", "eaten", "length"] ["table"] (ak lX) := ⟨rfl,rfl,rfl,by decide +kernel,rfl,by decide +kernel,by decide +kernel⟩
def FT (dd : List Dv) (t : Tr) : Prop := ∃ (c : List Int) (os : List (List Int)),cN c os /\ il c.length (os.map (aA c.length)) /\ dd = [bT c os] /\ t = .ow ((cn c os).map fun s => .fz (ny s))
theorem iL.fV {n m : Nat} {l : List Int} {τ : Int} (S : iL (n + 1) m l τ) : n6 l := by
  refine ⟨by rw [S.len]; exact S.m6,fun x hx => ?_⟩
  obtain ⟨a,b,c⟩ := S.lb x hx
  refine ⟨a,b,Int.dvd_trans ?_ c⟩
  exact ⟨((60 ^ n : Nat) : Int),by rw [Nat.pow_succ,Int.natCast_mul,Int.mul_comm]; rfl⟩
theorem LD {f f1 f2 f3 f4 f5 f6 f7 : Addr} {fd aQ fd2 gK qV qW Y0 Y1 : FuncData} {k : Nat} {tk : Tok} (F : bt K "meal_steps" "meal_steps" lX f fd) (T : Txt mg) (cK : Kn P w K mg base au (k + 2) "fraction" f1 aQ ["top", "bottom"] (spT K gv)) (B1 : Binds K aQ ["top", "bottom"] [.int 1 tk]) (wu : Kn P w K mg base au (k + 3) "minus" f2 fd2 ["one", "other"] (spT K xj)) (uZ : Kn P w K mg base au (k + 1) "full_order" f3 gK ["table", "asker"] (spT K pN)) (u3 : Kn P w K mg base au (k + 1) "first_left" f4 qV ["order", "gone"] (spT K w8))
    (LI : Kn P w K mg base au (k + 4) "next_length" f5 qW ["left", "eaten", "time_left"] (spT K DR)) (LJ : Kn P w K mg base au (k + 4) "left_behind" f6 Y0 ["left", "eaten", "length"] (spT K Cu)) (B7 : Kn P w K mg base au (k + 3) "ended_things" f7 Y1 ["left"] (spT K FR)) : aR P w K mg base au (k + 5) f fd ["table"] (spT K FT) := by
  refine bA F.d iN (fun dd t h => by obtain ⟨_,_,_,_,rfl,_⟩ := h; rfl) fun dd t h => ?_
  obtain ⟨c,os,tab,fm,rfl,rfl⟩ := h
  refine ⟨_,.inl rfl,?_⟩
  have big : 1000 < sizeLine := by decide
  have c6 := tab.c6
  have o6 := tab.o6
  have fQ : (((os.map dis).length : Nat) : Int) = os.length := by rw [List.length_map]
  have qU : fE 0 (((os.map dis).length : Nat) : Int).toNat = (aq os.length).map di := by
    rw [fQ,Int.toNat_natCast]
    unfold aq
    rw [List.map_map]; rfl
  have eO : er (.ow ((aq os.length).map fun x => bB (aA c.length (os.getD x.toNat [])))) = .lst ((os.map (aA c.length)).map dis) := by
    rw [eW]
    show Dv.lst _ = Dv.lst (List.map _ (List.map _ _))
    rw [List.map_map,RP os [] (dis ∘ aA c.length)]
    congr 1
    exact List.map_congr_left fun x _ => eY _
  refine aw (jL 1 (kJ (dH.as (yv (own := ["asker"]) (fr := [0]) (aq os.length) di (fun x => bB (aA c.length (os.getD x.toNat []))) (bz.to (gf T.fu (cM T.cz (aO (d := .lst (os.map dis)) (ae 0 rfl) aj rfl rfl) (.inl rfl)) (by rw [fQ]; omega)) qU) (bX 0 (fun _ => by show List.Nodup (["asker", "table"] : List Str); decide)) (by decide) (by rw [eh]; omega) (fun x hx => ⟨_,rfl,by
      obtain ⟨x0,x1⟩ := de.mp hx
      have hx : os[x.toNat]? = some (os.getD x.toNat []) := by rw [List.getD_eq_getElem?_getD,List.getElem?_eq_getElem (show x.toNat < os.length by omega)]; rfl
      have hm := List.mem_of_getElem? hx
      have hl := vo (tab.nd _ hm) (tab.bj _ hm)
      have lD : aY os x = some (os.getD x.toNat []) := by
        have := N9 (k := x.toNat) hx
        rwa [show ((x.toNat : Nat) : Int) = x by omega] at this
      exact aU uZ (by show k + 1 <= k + 4; omega) (ag (ae 1 rfl) (ag (ae 0 rfl) ax)) ⟨c,os,x,os.getD x.toNat [],by omega,by omega,lD,rfl,rfl⟩⟩) (fun dd => by cases dd <;> rfl)) eO)) (fun i => lcs ⟨rfl,rfl,by decide +kernel,by decide +kernel,by decide +kernel,by decide +kernel⟩) (fun _ => iN.nd)) ?_
  have eL : er (.ow (c.map fun x => tF (fW WM (x * WM)))) = d8 WM (c.map (· * WM)) := by
    rw [eW]
    show Dv.lst _ = Dv.lst (List.map _ (List.map _ _))
    rw [List.map_map]; rfl
  refine aw (jL 2 (kJ (dH.as (yv (own := ["count"]) (fr := []) c di (fun x => tF (fW WM (x * WM))) (dr (aO (d := dis c) (ae 0 rfl) aj rfl rfl) rfl) (bX 0 (fun _ => by show List.Nodup (["count"] : List Str); decide)) (by decide) (by omega) (fun x hx => ⟨_,rfl,by
      exact Ev.to (ke cK B1 (by show k + 2 <= k + 4; omega) (ag (ae 0 rfl) ax) ⟨x,1,by decide,by decide,rfl,rfl⟩) (by rw [kC,RK dJ])⟩) (fun dd => by cases dd <;> rfl)) eL)) (fun i => lcs ⟨rfl,rfl,by decide +kernel,by decide +kernel,by decide +kernel,by decide +kernel⟩) (fun _ => iN.nd)) ?_
  refine aw (aH 3 (bL.to (t' := tF (fW WM WM)) (Ev.s (ke cK B1 (by show k + 2 <= k + 4; omega) (ag aj ax) ⟨1,1,by decide,by decide,rfl,rfl⟩)) (by rw [kC,Pz dJ])) (fun _ => iN.nd)) ?_
  refine aw (aH 4 (Ev.s (eA ax (Nat.zero_le _))) (fun _ => iN.nd)) ?_
  have JP := rO tab.c6 tab.cnt
  have e0 : cn c os = cS 7 (os.map (aA c.length)) (c.map (· * WM)) WM := rfl
  generalize cn c os = res at e0
  generalize c.map (· * WM) = l0 at JP e0
  generalize os.map (aA c.length) = fo at fm e0
  refine Ce (fun p : (List dq × List Int) × (Int × Nat) => [some (.fz (bT c os)),some (.fz (.lst (fo.map dis))),some (.fz (d8 WM p.1.2)),some (tF (fW WM p.2.1)),some (.ow (p.1.1.map fun s => .fz (ny s))),none,none,none]) (fun p => iL p.2.2 c.length p.1.2 p.2.1 /\ p.1.1 ++ cS p.2.2 fo p.1.2 p.2.1 = res /\ p.1.1.length <= 7 - p.2.2 /\ p.2.2 <= 7) (fun p => !decide (p.2.1 = 0)) (fun p => p.2.2) (([],l0),(WM,7)) rfl ⟨JP,e0.symm,by show 0 <= _; omega,Nat.le_refl _⟩ (fun p hp => ?_) (fun p hp h => ?_) (fun p hp h => ?_)
  · refine Et.s (Et.to (sr (tb' := tF (lT 0 1,lB 0 1)) (ae 3 rfl) (ke cK B1 (by show k + 2 <= k + 4; omega) (ag aj ax) ⟨0,1,by decide,by decide,rfl,rfl⟩) (.inr ⟨_,_,rfl,rfl⟩) (JM _)) ?_)
    show (!cE (dF (fW WM p.2.1)) (dF (lT 0 1,lB 0 1))) = _
    rw [DQ dJ]
  · obtain ⟨⟨acc,l⟩,⟨τ,n⟩⟩ := p
    obtain ⟨h1,h2,h3,h4⟩ := hp
    have ht : τ ≠ 0 := by simpa using h
    replace h1 : iL n c.length l τ := h1
    replace h2 : acc ++ cS n fo l τ = res := h2
    replace h3 : acc.length <= 7 - n := h3
    replace h4 : n <= 7 := h4
    obtain ⟨n,rfl⟩ : ∃ m,n = m + 1 := ⟨n - 1,by have := h1.nz ht; omega⟩
    have iM := oX fm h1 ht
    have fV := h1.fV
    have Ts := h1.len
    rw [rq ht] at h2
    have SJ : iQ fo l τ = ⟨bU l (aB fo l) τ,aB fo l,(bJ (bg l (aB fo l) (bU l (aB fo l) τ))).filter fun x => (aB fo l).contains x⟩ := rfl
    have nI := sd fo l
    have fo6 := fm.o6
    refine ⟨((acc ++ [iQ fo l τ],bg l (aB fo l) (bU l (aB fo l) τ)),(τ - bU l (aB fo l) τ,n)),⟨iM.next,by show (acc ++ [iQ fo l τ]) ++ _ = _; rw [List.append_assoc]; exact h2,by show (acc ++ [iQ fo l τ]).length <= 7 - n; rw [List.length_append,List.length_singleton]; omega,by show n <= 7; omega⟩,Nat.lt_succ_self n,?_⟩
    have Tt : er (.ow (fo.map fun o => ti ((bS o (bJ l)).headD 0))) = dis (aB fo l) := by
      rw [eW]
      unfold aB
      show Dv.lst _ = Dv.lst (List.map _ (List.map _ _))
      rw [List.map_map]; rfl
    refine bp.fg (ρ1 := [some (.fz (bT c os)),some (.fz (.lst (fo.map dis))),some (.fz (d8 WM (bg l (aB fo l) (bU l (aB fo l) τ)))),some (tF (fW WM (τ - bU l (aB fo l) τ))),some (.ow ((acc ++ [iQ fo l τ]).map fun s => .fz (ny s))),some (.fz (dis (bJ l))),some (.fz (dis (aB fo l))),some (tF (fW WM (bU l (aB fo l) τ)))]) ?_ ⟨[5,6,7],rfl⟩
    refine aw (aH 5 (Ev.s (Ev.as (aU B7 (by show k + 3 <= k + 4; omega) (ag (ae 2 rfl) ax) ⟨l,fV.len,rfl,rfl⟩) (eY _))) (fun _ => iN.nd)) ?_
    refine aw (aH 6 (Ev.s (Ev.as (jd (own := ["order"]) (fr := [5]) fo dis (fun o => ti ((bS o (bJ l)).headD 0)) (fun i => lcs ⟨rfl,rfl,by decide +kernel,by decide +kernel,by decide +kernel,by decide +kernel⟩) (dr (ae 1 rfl) rfl) (bX 0 (fun _ => by show List.Nodup (["order", "gone"] : List Str); decide)) (by decide) (by omega) (fun o ho => ⟨_,rfl,by
        obtain ⟨x,r,e,_,_⟩ := vC Ts (fm.none o ho)
        exact Ev.to (aU u3 (by show k + 1 <= k + 4; omega) (ag (ae 0 rfl) (ag (ae 1 rfl) ax)) ⟨o,bJ l,x,r,fm.len o ho,e,rfl,rfl⟩) (by rw [e]; rfl)⟩) (fun dd => by cases dd <;> rfl)) Tt)) (fun _ => iN.nd)) ?_
    have eS : acc ++ [iQ fo l τ] = acc ++ [⟨bU l (aB fo l) τ,aB fo l,(bJ (bg l (aB fo l) (bU l (aB fo l) τ))).filter fun x => (aB fo l).contains x⟩] := by rw [SJ]
    rw [eS]
    generalize aB fo l = ai at iM nI
    have aam : n6 l := fV
    refine aw (aH 7 (Ev.s (aU LI (Nat.le_refl _) (ag (ae 2 rfl) (ag (ae 6 rfl) (ag (ae 3 rfl) ax))) ⟨l,ai,τ,fV,by omega,h1.t0,h1.t1,rfl,rfl⟩)) (fun _ => iN.nd)) ?_
    generalize bU l ai τ = len at iM
    have l0 := iM.pos
    have l1 : len <= WM := Int.le_trans iM.le h1.t1
    refine aw (aH 2 (Ev.s (Ev.as (d := d8 WM (bg l ai len)) (aU LJ (Nat.le_refl _) (ag (ae 2 rfl) (ag (ae 6 rfl) (ag (ae 7 rfl) ax))) ⟨l,ai,len,fV,by omega,by omega,l1,rfl,rfl⟩) (eW _ _))) (fun _ => iN.nd)) ?_
    have t0 := h1.t0
    have t1 := h1.t1
    refine aw (aH 3 (bL.to (t' := tF (fW WM (τ - len))) (Ev.s (aU wu (by show k + 3 <= k + 4; omega) (ag (ae 3 rfl) (ag (ae 7 rfl) ax)) ⟨fW WM τ,fW WM len,gU dJ jD t0 (by omega),gU dJ jD (by omega) (by omega),rfl,rfl⟩)) (by rw [DI dJ])) (fun _ => iN.nd)) ?_
    have yD : (bg l ai len).length <= 6 := by rw [mQ]; exact fV.len
    generalize bg l ai len = bl at yD
    have aan : (bJ bl).length <= 6 := by
      unfold bJ
      exact Nat.le_trans (List.length_filter_le _ _) (by rw [eh]; exact yD)
    rw [List.map_append]
    refine aJ (oB 4 rfl (Ev.s (oS (dd := [dF (fW WM len),dis ai,dis ((bJ bl).filter fun x => ai.contains x)]) (ag (ae 7 rfl) (ag (ae 6 rfl) (ag (Ev.as (d := dis ((bJ bl).filter fun x => ai.contains x)) (ph (own := ["thing"]) (fr := [6]) (bJ bl) di (fun x => ai.contains x) ti (fun i => lcs ⟨rfl,rfl,by decide +kernel,by decide +kernel,by decide +kernel,by decide +kernel⟩) (dr (aU B7 (by show k + 3 <= k + 4; omega) (ag (ae 2 rfl) ax) ⟨bl,yD,rfl,rfl⟩) (eY _)) (bX 0 (fun _ => by show List.Nodup (["thing", "eaten"] : List Str); decide)) (by decide) (by omega) (fun x hx => ⟨_,rfl,by exact hZ (GP (ae 0 rfl) (ae 1 rfl) rfl (by with_unfolding_all rfl)),fun _ => by exact ae 0 rfl⟩) (fun dd => by cases dd <;> rfl)) (eY _)) ax))) rfl (by show 3 <= sizeLine; decide))) (by rw [List.length_map]; omega))
  · obtain ⟨⟨acc,l⟩,⟨τ,n⟩⟩ := p
    obtain ⟨h1,h2,h3,h4⟩ := hp
    have ht : τ = 0 := by simpa using h
    replace h2 : acc ++ cS n fo l τ = res := h2
    rw [ht,rG,List.append_nil] at h2
    rw [<- h2]
    exact aJ (kj 4 rfl)
def dv (steps : List dq) (a one : Int) : Int := ((steps.filter fun s => decide (av s.ai a = one)).map dq.len).sum
def gw (m : Nat) (steps : List dq) (a : Int) : List Int := (aq (m + 1)).map (dv steps a)
theorem CG (s : dq) (st : List dq) (a x : Int) : dv (s :: st) a x = (if av s.ai a = x then s.len else 0) + dv st a x := by
  unfold dv
  rw [List.filter_cons]
  by_cases h : av s.ai a = x
  · rw [if_pos (decide_eq_true h),if_pos h,List.map_cons,List.sum_cons]
  · rw [if_neg (by rw [decide_eq_true_iff]; exact h),if_neg h]; omega
theorem L5 {steps : List dq} (h : ∀ s ∈ steps,0 <= s.len) (a x : Int) : 0 <= dv steps a x /\ dv steps a x <= (steps.map dq.len).sum := by
  induction steps with
  | nil => exact ⟨Int.le_refl _,Int.le_refl _⟩
  | cons s st ih =>
    have := ih fun t ht => h t (.tail _ ht)
    have h0 := h s (.head _)
    rw [CG,List.map_cons,List.sum_cons]
    split <;> omega
theorem wz {n : Nat} {o : List Int} (nd : o.Nodup) (h : ∀ x ∈ o,0 <= x /\ x < n) : (aA n o).Nodup := by
  unfold aA gq
  rw [List.append_assoc,List.nodup_append]
  refine ⟨nd,?_,?_⟩
  · rw [List.singleton_append,List.nodup_cons]
    refine ⟨fun hx => ?_,?_⟩
    · obtain ⟨k,hk,e⟩ := List.mem_map.mp hx
      have := List.mem_range.mp (List.mem_filter.mp hk).1
      omega
    · rw [List.nodup_iff_pairwise_ne,List.pairwise_map]
      exact ((List.nodup_range (n := n)).filter _).imp fun h z => h (by omega)
  · intro x hx y hy e
    subst e
    rcases List.mem_append.mp hy with hy | hy
    · have := List.mem_singleton.mp hy
      have := h x hx
      omega
    · obtain ⟨k,hk,e⟩ := List.mem_map.mp hy
      have h2 := (List.mem_filter.mp hk).2
      rw [e] at h2
      simp at h2
      exact h2 hx
theorem oY {c : List Int} {os : List (List Int)} (T : cN c os) : il c.length (os.map (aA c.length)) := by
  refine ⟨by rw [List.length_map]; exact T.o6,fun o ho => ?_,fun o ho x hx => ?_,fun o ho => ?_,fun o ho => ?_⟩
  · obtain ⟨p,hp,rfl⟩ := List.mem_map.mp ho
    unfold aA; simp
  · obtain ⟨p,hp,rfl⟩ := List.mem_map.mp ho
    have := wt (T.bj p hp) x hx
    omega
  · obtain ⟨p,hp,rfl⟩ := List.mem_map.mp ho
    exact wz (T.nd p hp) (T.bj p hp)
  · obtain ⟨p,hp,rfl⟩ := List.mem_map.mp ho
    have := vT (n := c.length) p
    have := T.c6
    have := vo (T.nd p hp) (T.bj p hp)
    omega
structure Hm (n : Nat) (s : dq) : Prop where
  len : s.ai.length = n
  l0 : 0 <= s.len
  l1 : s.len <= WM
abbrev mz : Stmt := top 31
theorem Mx : bq ["steps", "asker", "one"] ["steps", "asker", "one"] (ak mz) := ⟨rfl,rfl,rfl,by decide +kernel,rfl,by decide +kernel,by decide +kernel⟩
def DT (dd : List Dv) (t : Tr) : Prop := ∃ (n : Nat) (st : List dq) (a one : Int),(∀ s ∈ st,Hm n s) /\ st.length <= 120 /\ 0 <= a /\ a < n /\ dd = [xm st,di a,di one] /\ t = tF (fW WM (dv st a one))
theorem My {f f1 : Addr} {fd aQ : FuncData} {k : Nat} (F : bt K "eaten_by" "eaten_by" mz f fd) (T : Txt mg) (vP : Kn P w K mg base au (k + 4) "sum_of" f1 aQ ["some"] (spT K xh)) : aR P w K mg base au (k + 5) f fd ["steps", "asker", "one"] (spT K DT) := by
  refine bA F.d Mx (fun dd t h => by obtain ⟨_,_,_,_,_,_,_,_,rfl,_⟩ := h; rfl) fun dd t h => ?_
  obtain ⟨n,st,a,one,iM,sl,a0,a1,rfl,rfl⟩ := h
  refine ⟨_,.inl rfl,?_⟩
  have big : 1000 < sizeLine := by decide
  have eF : er (.ow ((st.filter fun s => decide (av s.ai a = one)).map fun s => tF (fW WM s.len))) = d8 WM ((st.filter fun s => decide (av s.ai a = one)).map dq.len) := by
    rw [eW]
    show Dv.lst _ = Dv.lst (List.map _ (List.map _ _))
    rw [List.map_map]; rfl
  refine aJ (bW (Ev.s (aU vP (Nat.le_refl _) (ag (Ev.as (ph (own := ["length", "eaten", "ended"]) (fr := [2,1]) st ny (fun s => decide (av s.ai a = one)) (fun s => tF (fW WM s.len)) (fun i => lcs ⟨rfl,rfl,by decide +kernel,by decide +kernel,by decide +kernel,by decide +kernel⟩) (dr (ae 0 rfl) rfl) (Rc 0 1 2 (fun _ => by show List.Nodup (["length", "eaten", "ended", "one", "asker"] : List Str); decide)) (by decide) (by omega) (fun s hs => ⟨_,rfl,by
      exact hZ (jQ (cy (ae 1 rfl) (ae 4 rfl) rfl (xi di a0 (by rw [(iM s hs).len]; exact a1))) (ae 3 rfl)),fun _ => by exact ae 0 rfl⟩) (fun dd => by rcases dd with _ | ⟨a,_ | ⟨b,_ | ⟨c,dd⟩⟩⟩ <;> rfl)) eF) ax) ⟨WM,(st.filter fun s => decide (av s.ai a = one)).map dq.len,dJ,jD,fun x hx => ?_,?_,rfl,rfl⟩)))
  · obtain ⟨s,hs,rfl⟩ := List.mem_map.mp hx
    have := iM s (List.mem_filter.mp hs).1
    exact ⟨this.l0,this.l1⟩
  · rw [List.length_map]
    exact Nat.le_trans (List.length_filter_le _ _) sl
abbrev m8 : Stmt := top 32
theorem sf : bq ["table", "steps", "many", "shares"] ["table"] (ak m8) := ⟨rfl,rfl,rfl,by decide +kernel,rfl,by decide +kernel,by decide +kernel⟩
def km (m : Nat) (st : List dq) (n : Nat) : Dv := .lst ((aq n).map fun a => d8 WM (gw m st a))
def xK (dd : List Dv) (t : Tr) : Prop := ∃ (c : List Int) (os : List (List Int)),cN c os /\ il c.length (os.map (aA c.length)) /\ dd = [bT c os] /\ t = .fz (.tup [xm (cn c os),km c.length (cn c os) os.length])
theorem DU {c : List Int} {os : List (List Int)} (tab : cN c os) (fm : il c.length (os.map (aA c.length))) : ∀ s ∈ cn c os,Hm os.length s := fun s hs => by
  obtain ⟨l',hl,e,p,q⟩ := DM fm 7 _ _ (rO tab.c6 tab.cnt) s hs
  exact ⟨by rw [e,sd,List.length_map],Int.le_of_lt p,q⟩
theorem QC {f f1 f2 : Addr} {fd aQ fd2 : FuncData} {k : Nat} (F : bt K "meal" "meal" m8 f fd) (T : Txt mg) (L6 : Kn P w K mg base au (k + 5) "meal_steps" f1 aQ ["table"] (spT K FT)) (MO : Kn P w K mg base au (k + 5) "eaten_by" f2 fd2 ["steps", "asker", "one"] (spT K DT)) : aR P w K mg base au (k + 6) f fd ["table"] (spT K xK) := by
  refine bA F.d sf (fun dd t h => by obtain ⟨_,_,_,_,rfl,_⟩ := h; rfl) fun dd t h => ?_
  obtain ⟨c,os,tab,fm,rfl,rfl⟩ := h
  refine ⟨_,.inl rfl,?_⟩
  have big : 1000 < sizeLine := by decide
  have c6 := tab.c6
  have o6 := tab.o6
  have iM := DU tab fm
  have Tu : (cn c os).length <= 7 := DP 7 _ _ _
  have fQ : (((os.map dis).length : Nat) : Int) = os.length := by rw [List.length_map]
  have qa : (((c.map di).length : Nat) : Int) = c.length := by rw [List.length_map]
  have qU : fE 0 (((os.map dis).length : Nat) : Int).toNat = (aq os.length).map di := by
    rw [fQ,Int.toNat_natCast]
    unfold aq
    rw [List.map_map]; rfl
  have Tv : fE 0 ((((c.map di).length : Nat) : Int) + 1).toNat = (aq (c.length + 1)).map di := by
    rw [qa,show ((c.length : Int) + 1).toNat = c.length + 1 by omega]
    unfold aq
    rw [List.map_map]; rfl
  have e1 : er (.ow ((cn c os).map fun s => .fz (ny s))) = xm (cn c os) := eW _ _
  refine aw (aH 1 (Ev.s (Ev.as (aU L6 (Nat.le_refl _) (ag (ae 0 rfl) ax) ⟨c,os,tab,fm,rfl,rfl⟩) e1)) (fun _ => sf.nd)) ?_
  generalize cn c os = st at iM Tu
  refine aw (aH 2 (Ev.s (cM T.cz (aO (d := dis c) (ae 0 rfl) aj rfl rfl) (.inl rfl))) (fun _ => sf.nd)) ?_
  have e2 : er (.ow ((aq os.length).map fun a => .ow ((aq (c.length + 1)).map fun x => tF (fW WM (dv st a x))))) = km c.length st os.length := by
    rw [eW]
    unfold km
    congr 1
    refine List.map_congr_left fun a _ => ?_
    rw [eW]
    unfold gw
    show _ = Dv.lst _
    rw [List.map_map]; rfl
  refine aw (jL 3 (kJ (dH.as (yv (own := ["asker"]) (fr := [1,2]) (aq os.length) di (fun a => .ow ((aq (c.length + 1)).map fun x => tF (fW WM (dv st a x)))) (bz.to (gf T.fu (cM T.cz (aO (d := .lst (os.map dis)) (ae 0 rfl) aj rfl rfl) (.inl rfl)) (by rw [fQ]; omega)) qU) (bX 0 (fun _ => by show List.Nodup (["asker", "steps", "many"] : List Str); decide)) (by decide) (by rw [eh]; omega) (fun a ha => ⟨_,rfl,by
      obtain ⟨a0,a1⟩ := de.mp ha
      exact jd (own := ["one"]) (fr := [1,0]) (aq (c.length + 1)) di (fun x => tF (fW WM (dv st a x))) (fun i => GV ["asker", "steps", "many"] ⟨rfl,by decide +kernel,by decide +kernel,by decide +kernel,by decide +kernel⟩ fun y hy => j9 _ _ y hy) (bz.to (gf T.fu (gP (ae 2 rfl) aj) (by rw [qa]; omega)) Tv) (bX 0 (fun _ => by show List.Nodup (["one", "steps", "asker"] : List Str); decide)) (by decide) (by rw [eh]; omega) (fun x hx => ⟨_,rfl,by
        exact aU MO (Nat.le_refl _) (ag (ae 1 rfl) (ag (ae 2 rfl) (ag (ae 0 rfl) ax))) ⟨os.length,st,a,x,iM,by omega,a0,a1,rfl,rfl⟩⟩) (fun dd => by cases dd <;> rfl)⟩) (fun dd => by cases dd <;> rfl)) e2)) (fun i => yp ⟨rfl,rfl,by decide +kernel,by decide +kernel,by decide +kernel,by decide +kernel⟩) (fun _ => sf.nd)) ?_
  exact aJ (bW (Ev.s (oS (ag (ae 1 rfl) (ag (ae 3 rfl) ax)) rfl (by show 2 <= sizeLine; decide))))
end
end bH
namespace bH
open PySem L2 dY
section
variable {P : Program} {w : World} {K : PySem.W.Frag} {mg : Str -> Option Value} {base : Heap}
def aL : Nat -> (Nat -> Bool) -> Int
  | 0,_ => 0
  | p + 1,b => aL p b + if b p = true then 1 else 0
theorem fF (p : Nat) (b : Nat -> Bool) : aL (p + 1) b = aL p b + if b p = true then 1 else 0 := rfl
theorem pO (p : Nat) (b : Nat -> Bool) : 0 <= aL p b := by
  induction p with
  | zero => exact Int.le_refl _
  | succ p ih => rw [fF]; split <;> omega
theorem oZ {p : Nat} {b c : Nat -> Bool} (h : ∀ j < p,b j = true -> c j = true) : aL p b <= aL p c := by
  induction p with
  | zero => exact Int.le_refl _
  | succ p ih =>
    have := ih fun j hj => h j (by omega)
    rw [fF,fF]
    by_cases hb : b p = true
    · rw [if_pos hb,if_pos (h p (by omega) hb)]; omega
    · rw [if_neg hb]; split <;> omega
theorem mI {p : Nat} {b c : Nat -> Bool} (h : ∀ j < p,b j = c j) : aL p b = aL p c :=
  Int.le_antisymm (oZ fun j hj z => by rw [<- h j hj]; exact z) (oZ fun j hj z => by rw [h j hj]; exact z)
theorem pP {k n : Nat} (f : Nat -> Bool) (h : k <= n) : aL k f <= aL n f /\ aL n f <= aL k f + ((n : Int) - k) := by
  induction n with
  | zero => rw [show k = 0 by omega]; exact ⟨Int.le_refl _,by omega⟩
  | succ n ih =>
    by_cases e : k = n + 1
    · rw [e]; exact ⟨Int.le_refl _,by omega⟩
    · have := ih (by omega)
      rw [fF]; split <;> omega
theorem RT {p j : Nat} {b : Nat -> Bool} (hj : j < p) (h : b j = true) : 1 <= aL p b := by
  have a := (pP b (show j + 1 <= p by omega)).1
  have := pO j b
  rw [fF,if_pos h] at a
  omega
theorem o7 {k n : Nat} {f : Nat -> Bool} (h : k <= n) (z : ∀ j,k <= j -> j < n -> f j = false) : aL n f = aL k f := by
  induction n with
  | zero => rw [show k = 0 by omega]
  | succ n ih =>
    by_cases e : k = n + 1
    · rw [e]
    · rw [fF,z n (by omega) (by omega),ih (by omega) fun j a b => z j a (by omega)]
      simp
theorem FU {k n : Nat} {f : Nat -> Bool} (h : k <= n) (z : ∀ j,k <= j -> j < n -> f j = true) : aL n f = aL k f + ((n : Int) - k) := by
  induction n with
  | zero => rw [show k = 0 by omega]; omega
  | succ n ih =>
    by_cases e : k = n + 1
    · rw [e]; omega
    · rw [fF,z n (by omega) (by omega),ih (by omega) fun j a b => z j a (by omega)]
      simp; omega
theorem DV {p i : Nat} (hi : i < p) (b : Nat -> Bool) : aL p b = aL p (fun j => b j && decide (j ≠ i)) + if b i = true then 1 else 0 := by
  induction p with
  | zero => omega
  | succ p ih =>
    rw [fF,fF]
    by_cases e : i = p
    · subst e
      have : aL i (fun j => b j && decide (j ≠ i)) = aL i b := mI fun j hj => by
        rw [decide_eq_true (show j ≠ i by omega),Bool.and_true]
      rw [this]
      simp
    · rw [ih (by omega),decide_eq_true (show p ≠ i by omega),Bool.and_true]
      omega
theorem FV {P : Nat -> Prop} {n : Nat} (h : P n) : ∃ k,k <= n /\ P k /\ ∀ j < k,¬ P j := by
  induction n using Nat.strongRecOn with
  | _ n ih =>
    by_cases q : ∃ j,j < n /\ P j
    · obtain ⟨j,hj,pj⟩ := q
      obtain ⟨k,hk,r⟩ := ih j hj pj
      exact ⟨k,by omega,r⟩
    · exact ⟨n,Nat.le_refl _,h,fun j hj pj => q ⟨j,hj,pj⟩⟩
structure jr (m p N : Nat) (ρ : Nat -> Int -> Nat) (R : Nat -> Int -> Int) (e : Nat -> Nat -> Int) : Prop where
  step : ∀ k < N,∀ x : Int,0 <= x -> x < m -> R (k + 1) x = R k x - aL p (fun j => decide (e k j = x))
  nn : ∀ k ≤ N,∀ x : Int,0 <= x -> x < m -> 0 <= R k x
  bj : ∀ k < N,∀ j < p,0 <= e k j /\ e k j <= m
  lE : ∀ k < N,∀ j < p,e k j < m -> R k (e k j) ≠ 0
  best : ∀ k < N,∀ j < p,∀ y : Int,0 <= y -> y <= m -> (y < m -> R k y ≠ 0) -> ρ j (e k j) <= ρ j y
  inj : ∀ j < p,∀ x y : Int,0 <= x -> x <= m -> 0 <= y -> y <= m -> ρ j x = ρ j y -> x = y
section
variable {m p N : Nat} {ρ ρ' : Nat -> Int -> Nat} {R R' : Nat -> Int -> Int} {e e' : Nat -> Nat -> Int}
theorem jr.dead (A : jr m p N ρ R e) {x : Int} (x0 : 0 <= x) (x1 : x < m) {k n : Nat} (hk : k <= n) (hn : n <= N) (h : R k x = 0) : R n x = 0 := by
  induction n with
  | zero => rw [show k = 0 by omega] at h; exact h
  | succ n ih =>
    by_cases q : k = n + 1
    · rw [<- q]; exact h
    · have a := ih (by omega) (by omega)
      have b := A.step n (by omega) x x0 x1
      have c := A.nn (n + 1) hn x x0 x1
      have d := pO p (fun j => decide (e n j = x))
      omega
theorem jr.keep (A : jr m p N ρ R e) {j : Nat} (hj : j < p) {k n : Nat} (hk : k <= n) (hn : n < N) {a : Int} (h : e k j = a) (al : a < m -> R n a ≠ 0) : e n j = a := by
  obtain ⟨a0,a1⟩ := A.bj k (by omega) j hj
  obtain ⟨b0,b1⟩ := A.bj n hn j hj
  have h1 := A.best n hn j hj a (by omega) (by omega) al
  have h2 := A.best k (by omega) j hj (e n j) b0 b1 fun z w => A.lE n hn j hj z (A.dead b0 z hk (by omega) w)
  rw [h] at h2
  exact A.inj j hj _ _ b0 b1 (by omega) (by omega) (by omega)
theorem C5 (A : jr m p N ρ R e) (B : jr m p N ρ' R' e') {j k : Nat} (hj : j < p) (hk : k < N) (Y2 : ρ j = ρ' j) (h : ∀ y : Int,0 <= y -> y < m -> R' k y ≠ 0 -> R k y ≠ 0) (al : e k j < m -> R' k (e k j) ≠ 0) : e' k j = e k j := by
  obtain ⟨a0,a1⟩ := A.bj k hk j hj
  obtain ⟨b0,b1⟩ := B.bj k hk j hj
  have h1 := B.best k hk j hj (e k j) a0 a1 al
  have h2 := A.best k hk j hj (e' k j) b0 b1 fun z => h _ b0 z (B.lE k hk j hj z)
  rw [<- Y2] at h1
  exact A.inj j hj _ _ b0 b1 a0 a1 (by omega)
theorem OL (A : jr m p N ρ R e) (B : jr m p N ρ' R' e') {i : Nat} (hi : i < p) (same : ∀ j < p,j ≠ i -> ρ j = ρ' j) (r0 : ∀ x : Int,0 <= x -> x < m -> R 0 x = R' 0 x) (big : ∀ x : Int,0 <= x -> x < m -> R 0 x = 0 \/ (N : Int) <= R 0 x) :
    (∀ x : Int,aL N (fun k => decide (e k i = x)) = aL N (fun k => decide (e' k i = x))) \/ ∃ a : Int,0 <= a /\ a <= m /\ (∀ y : Int,0 <= y -> y <= m -> ρ i y < ρ i a -> aL N (fun k => decide (e k i = y)) = aL N (fun k => decide (e' k i = y))) /\ aL N (fun k => decide (e' k i = a)) < aL N (fun k => decide (e k i = a)) := by
  by_cases H : ∀ k < N,e k i = e' k i
  · exact .inl fun x => mI fun k hk => by rw [H k hk]
  right
  obtain ⟨n,hn⟩ := Classical.not_forall.mp H
  obtain ⟨t,_,⟨tN,td⟩,tl⟩ := FV (P := fun k => k < N /\ e k i ≠ e' k i) (n := n) (by
    obtain ⟨a,b⟩ := Classical.not_imp.mp hn
    exact ⟨a,b⟩)
  have JQ : ∀ k < t,e k i = e' k i := fun k hk => Classical.byContradiction fun z => tl k hk ⟨by omega,z⟩
  have eR : ∀ k ≤ t,(∀ x : Int,0 <= x -> x < m -> R k x = R' k x) /\ ∀ k' < k,∀ j < p,e' k' j = e k' j := by
    intro k
    induction k with
    | zero => exact fun _ => ⟨r0,fun k' h => by omega⟩
    | succ k ih =>
      intro hk
      obtain ⟨i1,i2⟩ := ih (by omega)
      have e1 : ∀ j < p,e' k j = e k j := fun j hj => by
        by_cases q : j = i
        · rw [q]; exact (JQ k (by omega)).symm
        · refine C5 A B hj (by omega) (same j hj q) (fun y y0 y1 h => by rw [i1 y y0 y1]; exact h) fun z => ?_
          rw [<- i1 _ (A.bj k (by omega) j hj).1 z]
          exact A.lE k (by omega) j hj z
      refine ⟨fun x x0 x1 => ?_,fun k' h' j hj => ?_⟩
      · rw [A.step k (by omega) x x0 x1,B.step k (by omega) x x0 x1,i1 x x0 x1]
        congr 1
        exact mI fun j hj => by rw [e1 j hj]
      · by_cases q : k' = k
        · rw [q]; exact e1 j hj
        · exact i2 k' (by omega) j hj
  obtain ⟨n8,eb⟩ := eR t (Nat.le_refl _)
  obtain ⟨a,ea⟩ : ∃ a,a = e t i := ⟨_,rfl⟩
  obtain ⟨a0,a1⟩ := A.bj t tN i hi
  rw [<- ea] at a0 a1
  have alt : a < m -> R t a ≠ 0 := fun z => by rw [ea]; exact A.lE t tN i hi (by rw [<- ea]; exact z)
  have cb : ∀ y : Int,aL t (fun k => decide (e k i = y)) = aL t (fun k => decide (e' k i = y)) := fun y => mI fun k hk => by rw [JQ k hk]
  refine ⟨a,a0,a1,fun y y0 y1 hy => ?_,?_⟩
  ·
    have dy : y < m /\ R t y = 0 := by
      refine Classical.byContradiction fun z => ?_
      have := A.best t tN i hi y y0 y1 fun z1 z2 => z ⟨z1,z2⟩
      rw [<- ea] at this
      omega
    have d1 : ∀ k,t <= k -> k < N -> decide (e k i = y) = false := fun k h1 h2 => decide_eq_false fun z => by
      have := A.lE k h2 i hi (by rw [z]; exact dy.1)
      rw [z] at this
      exact this (A.dead y0 dy.1 h1 (by omega) dy.2)
    have d2 : ∀ k,t <= k -> k < N -> decide (e' k i = y) = false := fun k h1 h2 => decide_eq_false fun z => by
      have := B.lE k h2 i hi (by rw [z]; exact dy.1)
      rw [z] at this
      exact this (B.dead y0 dy.1 h1 (by omega) (by rw [<- n8 y y0 dy.1]; exact dy.2))
    rw [o7 (Nat.le_of_lt tN) d1,o7 (Nat.le_of_lt tN) d2]
    exact cb y
  have ne : e' t i ≠ a := fun z => td (by rw [<- ea,z])
  have Y3 := cb a
  obtain ⟨T,TN,TP,Tl⟩ := FV (P := fun k => N <= k \/ (t < k /\ a < m /\ R k a = 0)) (n := N) (.inl (Nat.le_refl _))
  have tT : t < T := by
    rcases TP with h | h
    · omega
    · exact h.1
  have alive : ∀ k,t <= k -> k < T -> a < m -> R k a ≠ 0 := fun k h1 h2 h3 h4 => by
    by_cases q : k = t
    · rw [q] at h4; exact alt h3 h4
    · exact Tl k h2 (.inr ⟨by omega,h3,h4⟩)
  have eats : ∀ k,t <= k -> k < T -> e k i = a := fun k h1 h2 => A.keep hi h1 (by omega) ea.symm (alive k h1 h2)
  have cT := FU (f := fun k => decide (e k i = a)) (Nat.le_of_lt tT) fun k h1 h2 => decide_eq_true (eats k h1 h2)
  have cTN := (pP (fun k => decide (e k i = a)) TN).1
  have JR : aL (t + 1) (fun k => decide (e' k i = a)) = aL t (fun k => decide (e' k i = a)) := by rw [fF,decide_eq_false ne]; simp
  rcases Nat.lt_or_ge T N |>.symm with zN | zN
  · have := (pP (fun k => decide (e' k i = a)) (show t + 1 <= N by omega)).2
    omega
  have aT : a < m /\ R T a = 0 := by
    rcases TP with h | h
    · omega
    · exact h.2
  by_cases D : ∃ k,k <= T /\ R' k a = 0
  · obtain ⟨k,hk,dk⟩ := D
    have tk : t < k := by
      refine Classical.byContradiction fun z => ?_
      exact alt aT.1 ((n8 a a0 aT.1).trans (B.dead a0 aT.1 (by omega) (by omega) dk))
    have c1 : aL N (fun k => decide (e' k i = a)) = aL k (fun k => decide (e' k i = a)) := o7 (by omega) fun j h1 h2 => decide_eq_false fun z => by
      have := B.lE j h2 i hi (by rw [z]; exact aT.1)
      rw [z] at this
      exact this (B.dead a0 aT.1 h1 (by omega) dk)
    have := (pP (fun k => decide (e' k i = a)) (show t + 1 <= k by omega)).2
    omega
  have zO : ∀ k,k <= T -> R' k a ≠ 0 := fun k h1 h2 => D ⟨k,h1,h2⟩
  obtain ⟨O,hO⟩ : ∃ O : (Nat -> Nat -> Int) -> Nat -> Int,O = fun e k => aL p (fun j => decide (e k j = a) && decide (j ≠ i)) := ⟨_,rfl⟩
  have JS : ∀ k < N,R (k + 1) a + aL (k + 1) (fun k => decide (e k i = a)) = R k a + aL k (fun k => decide (e k i = a)) - O e k := fun k hk => by
    rw [A.step k hk a a0 aT.1,DV hi,fF,hO]
    dsimp only
    omega
  have JT : ∀ k < N,R' (k + 1) a + aL (k + 1) (fun k => decide (e' k i = a)) = R' k a + aL k (fun k => decide (e' k i = a)) - O e' k := fun k hk => by
    rw [B.step k hk a a0 aT.1,DV hi,fF,hO]
    dsimp only
    omega
  have inv : ∀ k,t <= k -> k <= T -> (∀ x : Int,0 <= x -> x < m -> x ≠ a -> R' k x <= R k x) /\ R' k a + aL k (fun k => decide (e' k i = a)) <= R k a + aL k (fun k => decide (e k i = a)) /\ ∀ k',t <= k' -> k' < k -> ∀ j < p,j ≠ i -> ∀ x : Int,e k' j = x -> (x < m -> R' k' x ≠ 0) -> e' k' j = x := by
    intro k
    induction k with
    | zero =>
      intro h1 _
      have : t = 0 := by omega
      subst this
      exact ⟨fun x x0 x1 _ => by rw [n8 x x0 x1]; exact Int.le_refl _,by rw [n8 a a0 aT.1]; exact Int.le_refl _,fun k' _ h => by omega⟩
    | succ k ih =>
      intro h1 h2
      by_cases q : t = k + 1
      · rw [<- q]
        exact ⟨fun x x0 x1 _ => by rw [n8 x x0 x1]; exact Int.le_refl _,by rw [n8 a a0 aT.1,Y3]; exact Int.le_refl _,fun k' _ h => by omega⟩
      · obtain ⟨i1,i2,i3⟩ := ih (by omega) (by omega)
        have mv : ∀ j < p,j ≠ i -> ∀ x : Int,e k j = x -> (x < m -> R' k x ≠ 0) -> e' k j = x := fun j hj ji x ex al => by
          have := C5 A B hj (show k < N by omega) (same j hj ji) (fun y y0 y1 hy => by
            by_cases ya : y = a
            · rw [ya]; exact alive k (by omega) (by omega) aT.1
            · have := i1 y y0 y1 ya
              have := B.nn k (by omega) y y0 y1
              omega) (by rw [ex]; exact al)
          rw [this,ex]
        have oo : O e k <= O e' k := by
          rw [hO]
          refine oZ fun j hj hb => ?_
          rw [Bool.and_eq_true,decide_eq_true_iff,decide_eq_true_iff] at hb ⊢
          exact ⟨mv j hj hb.2 a hb.1 fun _ => zO k (by omega),hb.2⟩
        refine ⟨fun x x0 x1 xa => ?_,?_,fun k' h3 h4 => ?_⟩
        · have sA := A.step k (by omega) x x0 x1
          have sB := B.step k (by omega) x x0 x1
          have nA := A.nn (k + 1) (by omega) x x0 x1
          by_cases z : R' k x = 0
          · have := B.dead x0 x1 (show k <= k + 1 by omega) (by omega) z
            omega
          · have := oZ (p := p) (b := fun j => decide (e k j = x)) (c := fun j => decide (e' k j = x)) fun j hj hb => by
              have hb := of_decide_eq_true hb
              refine decide_eq_true (mv j hj (fun ji => ?_) x hb fun _ => z)
              rw [ji,eats k (by omega) (by omega)] at hb
              exact xa hb.symm
            have := i1 x x0 x1 xa
            omega
        · have sA := JS k (by omega)
          have sB := JT k (by omega)
          omega
        · by_cases q' : k' = k
          · rw [q']; exact mv
          · exact i3 k' h3 (by omega)
  obtain ⟨_,iT,mv⟩ := inv T (by omega) (Nat.le_refl _)
  have dn : ∀ k,T < k -> k <= N -> R' k a + aL k (fun k => decide (e' k i = a)) <= R' T a + aL T (fun k => decide (e' k i = a)) - O e' T := by
    intro k
    induction k with
    | zero => intro h; omega
    | succ k ih =>
      intro h1 h2
      have sB := JT k (by omega)
      by_cases q : k = T
      · rw [q] at sB ⊢; omega
      · have := ih (by omega) (by omega)
        have o0 : 0 <= O e' k := by rw [hO]; exact pO _ _
        omega
  have dN := dn N zN (Nat.le_refl _)
  have nN := B.nn N (Nat.le_refl _) a a0 aT.1
  have O0 : 0 <= O e' T := by rw [hO]; exact pO _ _
  rcases Int.lt_or_eq_of_le O0 with O1 | O1
  · omega
  exfalso
  have no : ∀ j < p,j ≠ i -> e' T j ≠ a := fun j hj ji z => by
    have := RT (b := fun j => decide (e' T j = a) && decide (j ≠ i)) hj (by
      show (decide (e' T j = a) && decide (j ≠ i)) = true
      rw [decide_eq_true z,decide_eq_true ji]; rfl)
    rw [hO] at O1
    dsimp only at O1
    omega
  have alone : ∀ k < T,O e k = 0 := fun k hk => by
    rw [hO]
    show aL p _ = 0
    have : aL p (fun j => decide (e k j = a) && decide (j ≠ i)) <= aL p (fun _ => false) := oZ fun j hj hb => by
      rw [Bool.and_eq_true,decide_eq_true_iff,decide_eq_true_iff] at hb
      exfalso
      have e1 : e' k j = a := by
        rcases Nat.lt_or_ge k t with q | q
        · rw [eb k q j hj]; exact hb.1
        · exact mv k q hk j hj hb.2 a hb.1 fun _ => zO k (by omega)
      exact no j hj hb.2 (B.keep hj (Nat.le_of_lt hk) zN e1 fun _ => zO T (Nat.le_refl _))
    have z : aL p (fun _ => false) = 0 := (o7 (Nat.zero_le _) fun _ _ _ => rfl).trans rfl
    have := pO p (fun j => decide (e k j = a) && decide (j ≠ i))
    omega
  have Y4 : ∀ k ≤ T,R k a + aL k (fun k => decide (e k i = a)) = R 0 a := by
    intro k
    induction k with
    | zero => intro _; show _ + (0 : Int) = _; omega
    | succ k ih =>
      intro h
      have := ih (by omega)
      have := JS k (by omega)
      have := alone k (by omega)
      omega
  have tT' := Y4 T (Nat.le_refl _)
  have le := (pP (fun k => decide (e k i = a)) (Nat.zero_le T)).2
  have z0 : aL 0 (fun k => decide (e k i = a)) = 0 := rfl
  rcases big a a0 aT.1 with h | h
  · exact alt aT.1 (A.dead a0 aT.1 (Nat.zero_le _) (by omega) h)
  · omega
end
def cm (fo : List (List Int)) : Nat -> List Int -> List Int
  | 0,l => l
  | k + 1,l => bg (cm fo k l) (aB fo (cm fo k l)) 1
theorem xn (fo : List (List Int)) (a : Nat) : ∀ (b : Nat) (l : List Int),cm fo (a + b) l = cm fo b (cm fo a l)
  | 0,l => rfl
  | b + 1,l => by
    show bg (cm fo (a + b) l) (aB fo (cm fo (a + b) l)) 1 = bg _ _ 1
    rw [xn fo a b l]
theorem FW (fo : List (List Int)) (l : List Int) : ∀ k,(cm fo k l).length = l.length
  | 0 => rfl
  | k + 1 => by show (bg _ _ 1).length = _; rw [mQ,FW fo l k]
theorem FX (a : Nat) (f : Nat -> Bool) : ∀ b,aL (a + b) f = aL a f + aL b (fun k => f (a + k))
  | 0 => by show _ = _ + (0 : Int); rw [Int.add_zero]; rfl
  | b + 1 => by
    show aL (a + b + 1) f = _
    rw [fF,fF,FX a f b]
    omega
theorem OM (p : Nat) (b : Nat -> Bool) : aL p b = (((List.range p).countP b : Nat) : Int) := by
  induction p with
  | zero => rfl
  | succ p ih =>
    rw [fF,ih,List.range_succ,List.countP_append,List.countP_singleton]
    split <;> simp
theorem RU (ai : List Int) (x : Int) : ((ai.count x : Nat) : Int) = aL ai.length (fun j => decide (av ai (j : Nat) = x)) := by
  rw [OM]
  congr 1
  have e : ai = (List.range ai.length).map fun j => av ai ((j : Nat) : Int) := by
    refine List.ext_getElem (by rw [List.length_map,List.length_range]) fun i h1 h2 => ?_
    rw [List.getElem_map,List.getElem_range]
    unfold av
    rw [Int.toNat_natCast,List.getD_eq_getElem?_getD,List.getElem?_eq_getElem h1]; rfl
  conv => lhs; rw [e]
  rw [List.count,List.countP_map]
  refine List.countP_congr fun j _ => ?_
  show ((_ == x) = true) ↔ _
  rw [beq_iff_eq,decide_eq_true_iff]
theorem OO (l ai : List Int) : bg l ai 0 = l := by
  unfold bg
  refine List.ext_getElem (by rw [List.length_map,eh]) fun i h1 h2 => ?_
  have : (aq l.length)[i]? = some ((i : Nat) : Int) := by
    unfold aq
    rw [List.getElem?_map,List.getElem?_range h2]
    show some (0 + ((i : Nat) : Int)) = _
    rw [Int.zero_add]
  rw [List.getElem_map]
  have e : (aq l.length)[i]'(by rw [eh]; exact h2) = ((i : Nat) : Int) := by
    rw [List.getElem?_eq_getElem (by rw [eh]; exact h2)] at this
    exact Option.some.inj this
  rw [e]
  unfold av
  rw [Int.toNat_natCast,List.getD_eq_getElem?_getD,List.getElem?_eq_getElem h2]
  simp
theorem si {l ai : List Int} {len x : Int} (h0 : 0 <= x) (h1 : x < l.length) : av (bg l ai len) x = av l x - len * (ai.count x : Int) := by
  unfold bg
  exact rN _ h0 h1
theorem QD (l ai : List Int) (a b : Int) : bg (bg l ai a) ai b = bg l ai (a + b) := by
  have e : ∀ c : Int,bg l ai c = (aq l.length).map fun x => av l x - c * (ai.count x : Int) := fun _ => rfl
  rw [e (a + b)]
  show (aq (bg l ai a).length).map _ = _
  rw [mQ]
  refine List.map_congr_left fun x hx => ?_
  obtain ⟨h0,h1⟩ := de.mp hx
  rw [si h0 h1,Int.add_mul]
  omega
theorem ND {n m : Nat} {fo : List (List Int)} {l : List Int} {τ : Int} (F : il m fo) (S : iL (n + 1) m l τ) (ht : τ ≠ 0) : ∀ k : Nat,(k : Int) <= bU l (aB fo l) τ -> cm fo k l = bg l (aB fo l) k /\ ((k : Int) < bU l (aB fo l) τ -> aB fo (cm fo k l) = aB fo l) := by
  have ok := oX F S ht
  have hl := S.len
  have same : ∀ k : Nat,(k : Int) < bU l (aB fo l) τ -> aB fo (bg l (aB fo l) k) = aB fo l := fun k hk => by
    have : bJ (bg l (aB fo l) k) = bJ l := by
      unfold bJ
      rw [mQ]
      refine List.filter_congr fun x hx => ?_
      obtain ⟨h0,h1⟩ := de.mp hx
      rw [decide_eq_decide,si h0 h1]
      have hh := ok.has x h0 (by omega)
      by_cases q : x ∈ aB fo l
      · have c1 : 1 <= (aB fo l).count x := List.count_pos_iff.mpr q
        have l0 : av l x ≠ 0 := fun z => (FQ F hl q).2.2 (oG.mpr ⟨⟨h0,h1⟩,z⟩)
        have : (k : Int) * ((aB fo l).count x : Int) < bU l (aB fo l) τ * ((aB fo l).count x : Int) := Int.mul_lt_mul_of_pos_right hk (by omega)
        exact ⟨fun z => by omega,fun z => absurd z l0⟩
      · rw [List.count_eq_zero.mpr q]
        show av l x - k * (0 : Int) = 0 ↔ _
        rw [Int.mul_zero,Int.sub_zero]
    show (fo.map fun o => (bS o (bJ (bg l (aB fo l) k))).headD 0) = fo.map fun o => (bS o (bJ l)).headD 0
    rw [this]
  intro k
  induction k with
  | zero =>
    intro _
    have e : cm fo 0 l = bg l (aB fo l) ((0 : Nat) : Int) := (OO _ _).symm
    exact ⟨e,fun h => by rw [e]; exact same 0 h⟩
  | succ k ih =>
    intro hk
    obtain ⟨i1,i2⟩ := ih (by omega)
    have e : cm fo (k + 1) l = bg l (aB fo l) ((k + 1 : Nat) : Int) := by
      show bg (cm fo k l) (aB fo (cm fo k l)) 1 = _
      rw [i2 (by omega),i1,QD]
      rfl
    exact ⟨e,fun h => by rw [e]; exact same (k + 1) h⟩
theorem vD {m : Nat} {fo : List (List Int)} (F : il m fo) (a : Int) : ∀ (n : Nat) (l : List Int) (τ : Int),iL n m l τ -> (∀ k : Nat,(k : Int) <= τ -> ∀ x : Int,0 <= x -> x < m -> 0 <= av (cm fo k l) x) /\ ∀ x : Int,dv (cS n fo l τ) a x = aL τ.toNat (fun k => decide (av (aB fo (cm fo k l)) a = x))
  | n,l,τ,S => by
    by_cases ht : τ = 0
    · subst ht
      rw [rG]
      refine ⟨fun k hk x h0 h1 => ?_,fun x => rfl⟩
      rw [show k = 0 by omega]
      exact (S.lb _ (r9 h0 (by rw [S.len]; exact h1))).1
    match n,S with
    | 0,S => exact absurd (S.nz ht) (Nat.not_lt_zero _)
    | n + 1,S =>
      have ok := oX F S ht
      have tk := ND F S ht
      obtain ⟨i1,i2⟩ := vD F a n _ _ ok.next
      rw [rq ht]
      have l0 := ok.pos
      have l1 := ok.le
      have hl := S.len
      have has := ok.has
      have e0 : (iQ fo l τ).len = bU l (aB fo l) τ := rfl
      have e1 : (iQ fo l τ).ai = aB fo l := rfl
      generalize bU l (aB fo l) τ = len at tk i1 i2 l0 l1 has e0
      obtain ⟨d,rfl⟩ : ∃ d : Nat,len = (d : Int) := ⟨len.toNat,by omega⟩
      have td := (tk d (Int.le_refl _)).1
      refine ⟨fun k hk x h0 h1 => ?_,fun x => ?_⟩
      · rcases Nat.lt_or_ge k d with q | q
        · rw [(tk k (by omega)).1,si h0 (by omega)]
          have a1 := has x h0 h1
          have a2 : (k : Int) * ((aB fo l).count x : Int) <= (d : Int) * ((aB fo l).count x : Int) := Int.mul_le_mul_of_nonneg_right (by omega) (by omega)
          omega
        · obtain ⟨r,rfl⟩ : ∃ r,k = d + r := ⟨k - d,by omega⟩
          rw [xn,td]
          exact i1 r (by omega) x h0 h1
      · rw [CG,i2 x,e0,e1,show τ.toNat = d + (τ - d).toNat by omega,FX]
        congr 1
        · have : aL d (fun k => decide (av (aB fo (cm fo k l)) a = x)) = aL d (fun _ => decide (av (aB fo l) a = x)) := mI fun k hk => by rw [(tk k (by omega)).2 (by omega)]
          rw [this]
          by_cases q : av (aB fo l) a = x
          · rw [if_pos q,FU (Nat.zero_le d) fun _ _ _ => decide_eq_true q]
            show _ = (0 : Int) + _
            omega
          · rw [if_neg q,o7 (Nat.zero_le d) fun _ _ _ => decide_eq_false q]; rfl
        · refine mI fun k _ => ?_
          rw [xn,td]
theorem MP {o : List Int} {q : Int -> Bool} {x : Int} {r : List Int} (h : o.filter q = x :: r) {y : Int} (hy : y ∈ o) (qy : q y = true) : o.idxOf x <= o.idxOf y := by
  induction o with
  | nil => cases hy
  | cons z o ih =>
    by_cases zq : q z = true
    · rw [List.filter_cons,if_pos zq] at h
      rw [<- (List.cons.inj h).1,List.idxOf_cons_self]
      exact Nat.zero_le _
    · rw [List.filter_cons,if_neg zq] at h
      have zy : z ≠ y := fun e => zq (by rw [e]; exact qy)
      have zx : z ≠ x := fun e => zq (by
        have : x ∈ o.filter q := by rw [h]; exact .head _
        rw [e]; exact (List.mem_filter.mp this).2)
      have cs : ∀ w : Int,z ≠ w -> (z :: o).idxOf w = o.idxOf w + 1 := fun w hw => by
        rw [List.idxOf_cons]
        have : (z == w) = false := by simpa using hw
        rw [this]; rfl
      rw [cs x zx,cs y zy]
      have := ih h (by
        rcases List.mem_cons.mp hy with e | e
        · exact absurd e.symm zy
        · exact e)
      omega
theorem vU {n : Nat} {o : List Int} {x : Int} (h0 : 0 <= x) (h1 : x <= n) : x ∈ aA n o := by
  unfold aA gq
  simp only [List.mem_append,List.mem_singleton,List.mem_map,List.mem_filter,List.mem_range]
  by_cases hx : x ∈ o
  · exact .inl (.inl hx)
  by_cases hn : x = n
  · exact .inl (.inr hn)
  · refine .inr ⟨x.toNat,⟨by omega,?_⟩,by omega⟩
    rw [show 0 + ((x.toNat : Nat) : Int) = x by omega]
    simpa using hx
theorem Mz (fo : List (List Int)) (l : List Int) {j : Nat} (hj : j < fo.length) : av (aB fo l) ((j : Nat) : Int) = (bS (fo.getD j []) (bJ l)).headD 0 := by
  unfold av aB
  rw [Int.toNat_natCast,List.getD_eq_getElem?_getD,List.getElem?_map,List.getD_eq_getElem?_getD,List.getElem?_eq_getElem hj]; rfl
theorem FY {m N : Nat} {fo : List (List Int)} {l : List Int} (F : il m fo) (all : ∀ o ∈ fo,∀ x : Int,0 <= x -> x <= m -> x ∈ o) (hl : l.length = m) (nn : ∀ k : Nat,k <= N -> ∀ x : Int,0 <= x -> x < m -> 0 <= av (cm fo k l) x) :
    jr m fo.length N (fun j y => (fo.getD j []).idxOf y) (fun k x => av (cm fo k l) x) (fun k j => av (aB fo (cm fo k l)) (j : Nat)) := by
  have tl : ∀ k,(cm fo k l).length = m := fun k => by rw [FW,hl]
  have om : ∀ j,j < fo.length -> fo.getD j [] ∈ fo := fun j hj => by
    rw [List.getD_eq_getElem?_getD,List.getElem?_eq_getElem hj]; exact List.getElem_mem _
  have hd : ∀ k j,j < fo.length -> ∃ x r,bS (fo.getD j []) (bJ (cm fo k l)) = x :: r /\ x ∈ fo.getD j [] /\ x ∉ bJ (cm fo k l) /\ av (aB fo (cm fo k l)) (j : Nat) = x := fun k j hj => by
    obtain ⟨x,r,e,h1,h2⟩ := vC (tl k) (F.none _ (om j hj))
    exact ⟨x,r,e,h1,h2,by rw [Mz fo _ hj,e]; rfl⟩
  refine ⟨fun k hk x x0 x1 => ?_,nn,fun k hk j hj => ?_,fun k hk j hj h => ?_,fun k hk j hj y y0 y1 al => ?_,fun j hj x y x0 x1 y0 y1 h => ?_⟩
  · show av (bg (cm fo k l) (aB fo (cm fo k l)) 1) x = _
    rw [si x0 (by rw [tl]; exact x1),RU,sd,Int.one_mul]
  · obtain ⟨x,r,_,h1,_,e⟩ := hd k j hj
    rw [e]
    exact F.bj _ (om j hj) x h1
  · obtain ⟨x,r,_,h1,h2,e⟩ := hd k j hj
    rw [e] at h ⊢
    exact fun z => h2 (oG.mpr ⟨⟨(F.bj _ (om j hj) x h1).1,by rw [tl]; exact h⟩,z⟩)
  · obtain ⟨x,r,e1,_,_,e⟩ := hd k j hj
    rw [e]
    unfold bS at e1
    refine MP e1 (all _ (om j hj) y y0 y1) ?_
    have : y ∉ bJ (cm fo k l) := fun z => by
      obtain ⟨⟨_,z1⟩,z2⟩ := oG.mp z
      rw [tl] at z1
      exact al z1 z2
    simpa using this
  · have a1 := List.idxOf_lt_length_iff.mpr (all _ (om j hj) x x0 x1)
    have a2 := List.idxOf_lt_length_iff.mpr (all _ (om j hj) y y0 y1)
    have e1 := List.getElem_idxOf a1
    have e2 := List.getElem_idxOf a2
    rw [<- e1,<- e2]
    congr 1
theorem OQ {c : List Int} {os : List (List Int)} (ok : cN c os) {a : Int} (a0 : 0 <= a) (a1 : a < os.length) {o' : List Int} (iY : cN c (os.set a.toNat o')) :
    gw c.length (cn c (os.set a.toNat o')) a = gw c.length (cn c os) a \/ ∃ k x,(aA c.length (os.getD a.toNat []))[k]? = some x /\ (∀ y ∈ (aA c.length (os.getD a.toNat [])).take k,bN (gw c.length (cn c (os.set a.toNat o')) a) y = bN (gw c.length (cn c os) a) y) /\ bN (gw c.length (cn c (os.set a.toNat o')) a) x < bN (gw c.length (cn c os) a) x := by
  have fm := oY ok
  have Ib := oY iY
  have S := rO ok.c6 ok.cnt
  have l2 : (os.set a.toNat o').length = os.length := List.length_set
  have all : ∀ os : List (List Int),∀ o ∈ os.map (aA c.length),∀ x : Int,0 <= x -> x <= c.length -> x ∈ o := fun os o ho x h0 h1 => by
    obtain ⟨p,_,rfl⟩ := List.mem_map.mp ho
    exact vU h0 h1
  obtain ⟨n1,s1⟩ := vD fm a 7 _ _ S
  obtain ⟨n2,s2⟩ := vD Ib a 7 _ _ S
  obtain ⟨N,hN⟩ : ∃ N : Nat,WM = (N : Int) := ⟨WM.toNat,by decide⟩
  have R1 := FY (N := N) fm (all os) (l := c.map (· * WM)) (by rw [List.length_map]) fun k hk => n1 k (by omega)
  have R2 := FY (N := N) Ib (all _) (l := c.map (· * WM)) (by rw [List.length_map]) fun k hk => n2 k (by omega)
  have tN : WM.toNat = N := by omega
  rw [tN] at s1 s2
  rw [List.length_map] at R1 R2
  rw [l2] at R2
  have eo : ∀ (os : List (List Int)) j,j < os.length -> (os.map (aA c.length)).getD j [] = aA c.length (os.getD j []) := fun os j hj => by
    rw [List.getD_eq_getElem?_getD,List.getD_eq_getElem?_getD,List.getElem?_map,List.getElem?_eq_getElem hj]; rfl
  have tw := OL R1 R2 (i := a.toNat) (by omega) (fun j hj ji => by
    have : ((os.set a.toNat o').map (aA c.length)).getD j [] = (os.map (aA c.length)).getD j [] := by
      rw [List.map_set,List.getD_eq_getElem?_getD,List.getD_eq_getElem?_getD,List.getElem?_set_ne (fun e => ji e.symm)]
    rw [this]) (fun _ _ _ => rfl) (fun x x0 x1 => by
    show av (c.map (· * WM)) x = 0 \/ (N : Int) <= av (c.map (· * WM)) x
    have e : av (c.map (· * WM)) x = av c x * WM := by
      unfold av
      rw [List.getD_eq_getElem?_getD,List.getD_eq_getElem?_getD,List.getElem?_map]
      cases c[x.toNat]? with
      | none => simp
      | some v => rfl
    rw [e,<- hN]
    have h0 := (ok.cnt _ (r9 x0 x1)).1
    rcases Int.lt_or_eq_of_le h0 with z | z
    · refine .inr ?_
      have : 1 * WM <= av c x * WM := Int.mul_le_mul_of_nonneg_right (by omega) (by decide)
      omega
    · exact .inl (by rw [<- z,Int.zero_mul]))
  have ea : (((a.toNat : Nat)) : Int) = a := by omega
  simp only [ea] at tw
  have t1 : ∀ y : Int,0 <= y -> y <= c.length -> bN (gw c.length (cn c os) a) y = dv (cn c os) a y := fun y h0 h1 => rN _ h0 (by omega)
  have t2 : ∀ y : Int,0 <= y -> y <= c.length -> bN (gw c.length (cn c (os.set a.toNat o')) a) y = dv (cn c (os.set a.toNat o')) a y := fun y h0 h1 => rN _ h0 (by omega)
  rcases tw with h | ⟨x,x0,x1,hb,hx⟩
  · refine .inl ?_
    unfold gw
    refine List.map_congr_left fun x _ => ?_
    show dv (cS 7 _ _ _) a x = dv (cS 7 _ _ _) a x
    rw [s1,s2,h x]
  · refine .inr ⟨(aA c.length (os.getD a.toNat [])).idxOf x,x,?_,fun y hy => ?_,?_⟩
    · have := List.idxOf_lt_length_iff.mpr (vU (o := os.getD a.toNat []) x0 x1)
      rw [List.getElem?_eq_getElem this,List.getElem_idxOf this]
    · obtain ⟨i,hi,e⟩ := List.mem_take_iff_getElem.mp hy
      have ym : y ∈ aA c.length (os.getD a.toNat []) := List.mem_of_mem_take hy
      have om : os.getD a.toNat [] ∈ os := by
        rw [List.getD_eq_getElem?_getD,List.getElem?_eq_getElem (show a.toNat < os.length by omega)]; exact List.getElem_mem _
      obtain ⟨y0,y1⟩ := wt (ok.bj _ om) y ym
      rw [t1 y y0 y1,t2 y y0 y1]
      show dv (cS 7 _ _ _) a y = dv (cS 7 _ _ _) a y
      rw [s1,s2]
      refine (hb y y0 y1 ?_).symm
      rw [eo os _ (by omega)]
      have nd := wz (n := c.length) (ok.nd _ om) (ok.bj _ om)
      rw [<- e,nd.idxOf_getElem i (by omega)]
      omega
    · rw [t1 x x0 x1,t2 x x0 x1]
      show dv (cS 7 _ _ _) a x < dv (cS 7 _ _ _) a x
      rw [s1,s2]
      exact hx
end
end bH
namespace bH
open PySem L2 dY
section
variable {P : Program} {w : World} {K : PySem.W.Frag} {mg : Str -> Option Value} {base : Heap}
theorem pC (cs : List Int) (os : List (List Int)) : aY [dis cs,.lst (os.map dis)] 1 = some (.lst (os.map dis)) := rfl
theorem sD (cs : List Int) (os : List (List Int)) : aY [dis cs,.lst (os.map dis)] 0 = some (dis cs) := rfl
abbrev lQ : Stmt := top 44
theorem Lg : bq ["table", "asker"] ["table", "asker"] (ak lQ) := ⟨rfl,rfl,rfl,by decide +kernel,rfl,by decide +kernel,by decide +kernel⟩
def Ic (dd : List Dv) (t : Tr) : Prop := ∃ (cs : List Int) (os : List (List Int)) (n : Int),0 <= n /\ n < os.length /\ dd = [bT cs os,di n] /\ t = tn
theorem Lh {f : Addr} {fd : FuncData} {k : Nat} (F : bt K "check_asker" "check_asker" lQ f fd) (T : Txt mg) : aR P w K mg base au (k + 1) f fd ["table", "asker"] (spT K Ic) := by
  refine bA F.d Lg (fun dd t h => by obtain ⟨_,_,_,_,_,rfl,_⟩ := h; rfl) fun dd t h => ?_
  obtain ⟨cs,os,n,n0,n1,rfl,rfl⟩ := h
  refine ⟨_,.inr ⟨rfl,[some (.fz (bT cs os)),some (ti n)],rfl⟩,?_⟩
  refine aJ (df (Et.s (Ew.et (sI (p := false) (q := false) (Et.to (sH (ae 1 rfl) aj) (decide_eq_false (by omega))) fun _ => su (Et.to (Sh (ae 1 rfl) (cM T.cz (aO (ae 0 rfl) aj rfl (pC cs os)) (.inl rfl))) (decide_eq_false (by rw [List.length_map]; omega)))))) rfl)
abbrev Y5 : List Str := ["table", "asker", "order", "orders"]
abbrev lH : Stmt := top 45
theorem B5 : bq Y5 ["table", "asker", "order"] (ak lH) := ⟨rfl,rfl,rfl,by decide +kernel,rfl,by decide +kernel,by decide +kernel⟩
theorem NF (os : List (List Int)) (n : Nat) (o : List Int) : er (.ow (((os.map dis).map Tr.fz).set n (.fz (dis o)))) = .lst ((os.set n o).map dis) := by
  rw [<- List.map_set,<- List.map_set,mX]
theorem RV {os : List (List Int)} {n : Int} (n0 : 0 <= n) (n1 : n < os.length) : fI ((os.map dis).map Tr.fz).length n = some n.toNat := by
  unfold fI
  rw [List.length_map,List.length_map,if_pos n0,if_pos (by omega)]
def JU (dd : List Dv) (t : Tr) : Prop := ∃ (cs : List Int) (os : List (List Int)) (n : Int) (o : List Int),0 <= n /\ n < os.length /\ cN cs (os.set n.toNat o) /\ dd = [bT cs os,di n,dis o] /\ t = .tp [bB cs,ni (os.set n.toNat o)]
theorem KN {f f1 f2 : Addr} {fd aQ fd2 : FuncData} {k : Nat} (F : bt K "told_otherwise" "told_otherwise" lH f fd) (T : Txt mg) (LK : Kn P w K mg base au (k + 1) "check_asker" f1 aQ ["table", "asker"] (spT K Ic)) (MQ : Kn P w K mg base au (k + 2) "table_of" f2 fd2 ["counts", "orders"] (spT K HU)) : aR P w K mg base au (k + 3) f fd ["table", "asker", "order"] (spT K JU) := by
  refine bA F.d B5 (fun dd t h => by obtain ⟨_,_,_,_,_,_,_,rfl,_⟩ := h; rfl) fun dd t h => ?_
  obtain ⟨cs,os,n,o,n0,n1,ok,rfl,rfl⟩ := h
  refine ⟨_,.inl rfl,?_⟩
  refine aw (Ee (Ev.s (aU LK (by show k + 1 <= k + 2; omega) (ag (ae 0 rfl) (ag (ae 1 rfl) ax)) ⟨cs,os,n,n0,n1,rfl,rfl⟩))) ?_
  refine aw (aH 3 (Ev.s (rX T.ky (aO (ae 0 rfl) aj rfl (pC cs os)) (.inl rfl))) (fun _ => B5.nd)) ?_
  refine aw (Dr 3 (n := n) (m := n.toNat) (us := (os.map dis).map Tr.fz) (t := .fz (dis o)) rfl (Ev.s (ae 1 rfl)) (RV n0 n1) (Ev.s (ae 2 rfl)) (hps := fun i => ER (pv 3) (sJ i) set_list)) ?_
  refine PB 3 rfl ?_
  rw [NF]
  show bp _ _ [some (.fz (bT cs os)),some (ti n),some (.fz (dis o)),some (.fz (.lst ((os.set n.toNat o).map dis)))] _
  exact aJ (bW (Ev.s (aU MQ (Nat.le_refl _) (ag (aO (ae 0 rfl) aj rfl (sD cs os)) (ag (ae 3 rfl) ax)) ⟨cs,os.set n.toNat o,ok,rfl,rfl⟩)))
def mR (c : List Int) (os : List (List Int)) (a : Int) : List Int := gw c.length (cn c os) a
theorem DW (W : Int) (r : List Int) : cf W r = .lst (r.map fun s => dF (fW W s)) := by unfold cf; rw [List.map_map]; rfl
theorem FZ {c : List Int} {os : List (List Int)} (ok : cN c os) (a : Int) : gV WM c.length (mR c os a) := by
  have fm := oY ok
  have S := rO ok.c6 ok.cnt
  refine ⟨dJ,jD,by unfold mR gw; rw [List.length_map,eh],fun t ht => ?_⟩
  obtain ⟨x,_,rfl⟩ := List.mem_map.mp ht
  have := L5 (steps := cn c os) (fun s hs => (DU ok fm s hs).l0) a x
  have sm : ((cn c os).map dq.len).sum = WM := DN fm 7 _ _ S
  rw [sm] at this
  exact this
theorem rP {n : Nat} {a : Int} (a0 : 0 <= a) (a1 : a < n) (g : Int -> Dv) : aY ((aq n).map g) a = some (g a) := by
  rw [show a = ((a.toNat : Nat) : Int) by omega]
  refine gg ?_
  unfold aq
  rw [List.map_map,List.getElem?_map,List.getElem?_range (by omega)]
  show some (g (0 + ((a.toNat : Nat) : Int))) = _
  rw [Int.zero_add]
theorem Cv (c : List Int) (os : List (List Int)) : km c.length (cn c os) os.length = .lst ((aq os.length).map fun b => cf WM (mR c os b)) := by
  unfold km
  congr 1
  exact List.map_congr_left fun b _ => (DW _ _).symm
def fX (c : List Int) (os : List (List Int)) (a : Int) : List Int := (aq (c.length + 1)).map (jS (cj c os) a)
theorem F0 {c : List Int} {os : List (List Int)} (h5 : os.length <= 5) (a : Int) : gV (wT os) c.length (fX c os a) := by
  have M := EC (c := c) h5
  refine ⟨M.w0,M.w1,by unfold fX; rw [List.length_map,eh],fun t ht => ?_⟩
  obtain ⟨x,_,rfl⟩ := List.mem_map.mp ht
  have al : (cj c os).length = (cw os.length os.length).length := by unfold cj; rw [List.length_map]
  have := List.countP_le_length (p := fun d => decide (av d a = x)) (l := cj c os)
  unfold jS
  show _ /\ _ <= ((cw os.length os.length).length : Int)
  omega
theorem RW (W : Int) (r : List Int) : fJ (cf W r) <= 50 := Nat.le_trans (Pw (n := 1) fun d hd => by
  obtain ⟨p,_,rfl⟩ := List.mem_map.mp hd
  exact FL p) (by decide)
theorem RX (cs : List Int) (os : List (List Int)) : er (.tp [bB cs,ni os]) = bT cs os := by
  show Dv.tup [er _,er _] = _
  rw [eY,Du]; rfl
theorem RY {c : List Int} {os : List (List Int)} (ok : cN c os) {a : Nat} {o : List Int} (nd : o.Nodup) (bj : ∀ x ∈ o,0 <= x /\ x < c.length) : cN c (os.set a o) := by
  refine ⟨ok.c6,ok.cnt,by rw [List.length_set]; exact ok.o1,by rw [List.length_set]; exact ok.o6,fun o' h => ?_,fun o' h => ?_⟩
  · rcases List.mem_or_eq_of_mem_set h with z | rfl
    · exact ok.nd o' z
    · exact nd
  · rcases List.mem_or_eq_of_mem_set h with z | rfl
    · exact ok.bj o' z
    · exact bj
end
end bH
namespace bH
open PySem L2 dY
section
variable {P : Program} {w : World} {K : PySem.W.Frag} {mg : Str -> Option Value} {base : Heap}
theorem head_take {o g : List Int} {k : Nat} {y : Int} (h1 : y ∈ o.take k) (h2 : y ∉ g) : (bS o g).headD 0 ∈ o.take k := by
  have e : bS o g = bS (o.take k) g ++ bS (o.drop k) g := by
    unfold bS
    rw [<- List.filter_append,List.take_append_drop]
  have hy : y ∈ bS (o.take k) g := List.mem_filter.mpr ⟨h1,by simpa using h2⟩
  rw [e]
  cases q : bS (o.take k) g with
  | nil => rw [q] at hy; cases hy
  | cons z r =>
    have hz : z ∈ bS (o.take k) g := by rw [q]; exact .head _
    exact (List.mem_filter.mp hz).1
theorem MA {c : List Int} {os : List (List Int)} {a : Nat} {o : List Int} : ∀ (n : Nat) (ts : List Int),ts.length = n -> (∀ b ∈ ts,b.toNat ≠ a) -> cA c (os.set a o) ts = cA c os ts := by
  intro n
  induction n with
  | zero =>
    intro ts hl _
    obtain rfl := List.length_eq_zero_iff.mp hl
    show List.replicate _ _ = List.replicate _ _
    rw [List.length_set]
  | succ n ih =>
    intro qQ hl h
    obtain ⟨ts,b,rfl⟩ : ∃ ts b,qQ = ts ++ [b] := by
      rcases List.eq_nil_or_concat qQ with rfl | ⟨ts,b,rfl⟩
      · cases hl
      · exact ⟨ts,b,by rw [List.concat_eq_append]⟩
    have hb := h b (by simp)
    rw [ox,ox,ih ts (by simpa using hl) fun x hx => h x (List.mem_append_left _ hx)]
    unfold h9
    rw [List.getD_eq_getElem?_getD,List.getElem?_set_ne (fun z => hb z.symm),<- List.getD_eq_getElem?_getD]
theorem EF {c : List Int} {os : List (List Int)} {ts : List Int} (hp : ts.Perm (aq os.length)) {a : Int} (a0 : 0 <= a) (a1 : a < os.length) : ∃ j,ts[j]? = some a /\ av (cG c os ts) a = nr c (os.getD a.toNat []) (cA c os (ts.take j)) := by
  obtain ⟨j,hj,ej⟩ := List.mem_iff_getElem.mp (hp.mem_iff.mpr (de.mpr ⟨a0,a1⟩))
  have ha : ts[j]? = some a := by rw [List.getElem?_eq_getElem hj,ej]
  refine ⟨j,ha,?_⟩
  unfold av cG
  rw [List.getD_eq_getElem?_getD,List.getElem?_map,Nx hp ha]; rfl
theorem RZ {c : List Int} {os : List (List Int)} {ts : List Int} (hp : ts.Perm (aq os.length)) {a : Int} (a0 : 0 <= a) (a1 : a < os.length) (o : List Int) {k : Nat} (h : av (cG c (os.set a.toNat o) ts) a ∈ (aA c.length (os.getD a.toNat [])).take k) : av (cG c os ts) a ∈ (aA c.length (os.getD a.toNat [])).take k := by
  obtain ⟨j,hj,e⟩ := EF (c := c) hp a0 a1
  obtain ⟨j',nV,e'⟩ := EF (c := c) (os := os.set a.toNat o) (ts := ts) (by rw [List.length_set]; exact hp) a0 (by rw [List.length_set]; exact a1)
  have nd : ts.Nodup := hp.nodup_iff.mpr (vg _)
  have jj : j' = j := by
    obtain ⟨q1,q2⟩ := List.getElem?_eq_some_iff.mp hj
    obtain ⟨q3,q4⟩ := List.getElem?_eq_some_iff.mp nV
    exact (List.getElem_inj nd).mp (q4.trans q2.symm)
  subst jj
  have jl := (List.getElem?_eq_some_iff.mp hj).1
  have off : ∀ b ∈ ts.take j',b.toNat ≠ a.toNat := fun b hb z => by
    have hb0 := de.mp (hp.mem_iff.mp (List.mem_of_mem_take hb))
    have : b = a := by omega
    subst this
    obtain ⟨i,hi,ei⟩ := List.mem_take_iff_getElem.mp hb
    obtain ⟨q1,q2⟩ := List.getElem?_eq_some_iff.mp hj
    have := (List.getElem_inj nd).mp (ei.trans q2.symm)
    omega
  rw [MA _ _ rfl off] at e'
  rw [e'] at h
  rw [e]
  unfold nr at h ⊢
  obtain ⟨y,r,hy⟩ := Ey c ((os.set a.toNat o).getD a.toNat []) (cA c os (ts.take j'))
  rw [hy] at h
  exact head_take h (Ot hy).2
theorem C6 {α : Type} (p q : α -> Bool) (h : ∀ d,p d = true -> q d = false) : ∀ D : List α,D.countP (fun d => p d || q d) = D.countP p + D.countP q
  | [] => rfl
  | d :: D => by
    rw [List.countP_cons,List.countP_cons,List.countP_cons,C6 p q h D]
    have := h d
    cases hp : p d <;> cases hq : q d <;> simp_all <;> omega
theorem EG (D : List (List Int)) (a : Int) : ∀ P : List Int,P.Nodup -> (P.map (jS D a)).sum = ((D.countP fun d => decide (av d a ∈ P) : Nat) : Int)
  | [],_ => by
    have : (D.countP fun d => decide (av d a ∈ ([] : List Int))) = 0 := List.countP_eq_zero.mpr fun d _ h => by simp at h
    rw [this]; rfl
  | x :: P,nd => by
    obtain ⟨h1,h2⟩ := List.nodup_cons.mp nd
    rw [List.map_cons,List.sum_cons,EG D a P h2]
    unfold jS
    have e : (fun d => decide (av d a ∈ x :: P)) = fun d : List Int => decide (av d a = x) || decide (av d a ∈ P) := by
      funext d
      rw [Bool.eq_iff_iff,Bool.or_eq_true,decide_eq_true_iff,decide_eq_true_iff,decide_eq_true_iff,List.mem_cons]
    rw [e,C6 _ _ (fun d hd => by
      have hd := of_decide_eq_true hd
      rw [hd]; exact decide_eq_false h1),Int.natCast_add]
theorem Ge {c : List Int} {os : List (List Int)} {a : Int} {full : List Int} (nd : full.Nodup) (bj : ∀ x ∈ full,0 <= x /\ x <= c.length) (k : Nat) : bx (fX c os a) full k = (((cj c os).countP fun d => decide (av d a ∈ full.take k) : Nat) : Int) := by
  unfold bx
  rw [<- EG _ _ _ (nd.sublist (List.take_sublist k full))]
  congr 1
  refine List.map_congr_left fun x hx => ?_
  have := bj x (List.mem_of_mem_take hx)
  unfold bN fX aq
  rw [List.map_map,List.getD_eq_getElem?_getD,List.getElem?_map,List.getElem?_range (by omega)]
  show jS _ _ (0 + ((x.toNat : Nat) : Int)) = _
  rw [show (0 + ((x.toNat : Nat) : Int)) = x by omega]
theorem B8 {α β : Type} (f g : α -> β) (p : β -> Bool) : ∀ {l : List α},(∀ x ∈ l,p (f x) = true -> p (g x) = true) -> (l.map f).countP p <= (l.map g).countP p
  | [],_ => Nat.le_refl _
  | x :: l,h => by
    rw [List.map_cons,List.map_cons,List.countP_cons,List.countP_cons]
    have ih := B8 f g p (l := l) fun y hy => h y (.tail _ hy)
    have hx := h x (.head _)
    cases hf : p (f x) with
    | false => rw [if_neg Bool.false_ne_true]; split <;> omega
    | true => rw [hx hf]; omega
theorem OS {c : List Int} {os : List (List Int)} (ok : cN c os) (h5 : os.length <= 5) {a : Int} (a0 : 0 <= a) (a1 : a < os.length) (o : List Int) : sQ (fX c os a) (fX c (os.set a.toNat o) a) (aA c.length (os.getD a.toNat [])) = true := by
  have om : os.getD a.toNat [] ∈ os := by
    rw [List.getD_eq_getElem?_getD,List.getElem?_eq_getElem (show a.toNat < os.length by omega)]
    exact List.getElem_mem _
  have nd := wz (ok.nd _ om) (ok.bj _ om)
  have bj := Ou (ok.bj _ om)
  refine DK.mpr fun k _ => ?_
  rw [Ge nd bj,Ge nd bj]
  have : ((cj c (os.set a.toNat o)).countP fun d => decide (av d a ∈ (aA c.length (os.getD a.toNat [])).take (k + 1))) <= (cj c os).countP fun d => decide (av d a ∈ (aA c.length (os.getD a.toNat [])).take (k + 1)) := by
    unfold cj
    rw [List.length_set]
    exact B8 _ _ _ fun ts qR h => decide_eq_true (RZ (CD _ h5 ts qR) a0 a1 o (of_decide_eq_true h))
  omega
end
end bH
namespace bH
open PySem L2 dY
section
variable {P : Program} {w : World} {K : PySem.W.Frag} {mg : Str -> Option Value} {base : Heap}
abbrev me : Stmt := top 50
theorem u9 : bq ["_law_table_here", "_law_asker", "_law_order_here", "_law_many"] ["_law_table_here", "_law_asker"] (ak me) := ⟨rfl,rfl,rfl,by decide +kernel,rfl,by decide +kernel,by decide +kernel⟩
theorem L7 {f : Addr} {fd : FuncData} {k : Nat} (F : bt K "_law_full" "_law_full" me f fd) (T : Txt mg) : aR P w K mg base au (k + 1) f fd ["_law_table_here", "_law_asker"] (spT K pN) := by
  refine bA F.d u9 (fun dd t h => by obtain ⟨_,_,_,_,_,_,_,rfl,_⟩ := h; rfl) fun dd t h => ?_
  obtain ⟨c,os,a,o,h1,h2,h3,rfl,rfl⟩ := h
  refine ⟨_,.inl rfl,?_⟩
  have big : 1000 < sizeLine := by decide
  refine aw (aH 2 (Ev.s (cy (d := dis o) (aO (d := .lst (os.map dis)) (ae 0 rfl) aj rfl rfl) (ae 1 rfl) rfl (wo dis h3))) (fun _ => u9.nd)) ?_
  refine aw (aH 3 (Ev.s (cM T.cz (aO (d := dis c) (ae 0 rfl) aj rfl rfl) (.inl rfl))) (fun _ => u9.nd)) ?_
  rw [List.length_map]
  refine aJ (bW (Ev.s (Ev.to (mV (mV (ae 2 rfl) (eA (ag (ae 3 rfl) ax) (by show 1 <= sizeLine; decide)) rfl rfl ?_) (nh (own := ["_law_k"]) (fr := [2]) (fun i => lcs ⟨rfl,rfl,by decide +kernel,by decide +kernel,by decide +kernel,by decide +kernel⟩) (gf T.fu (ae 3 rfl) ⟨by omega,by omega⟩) (bX 0 (fun _ => by show List.Nodup (["_law_k", "_law_order_here"] : List Str); decide)) (by decide) (fun k => !o.contains (0 + ((k : Nat) : Int))) (fun k => ti (0 + ((k : Nat) : Int))) ?_ (fun k d hd => ?_) (fun dd => ?_)) (mX _) (mY _ _) ?_) ?_)))
  · show (o.map di).length + 1 <= sizeLine
    rw [List.length_map]; omega
  · rw [List.length_map,List.length_range]; omega
  · obtain ⟨hi,rfl⟩ := oU hd
    exact ⟨_,rfl,hZ (rK (ae 0 rfl) (ae 1 rfl) rfl (by with_unfolding_all rfl)),fun _ => ae 0 rfl⟩
  · cases dd <;> rfl
  · have e : (fE 0 ((c.length : Nat) : Int).toNat).length = c.length := by simp
    rw [e]
    show ((o.map di) ++ [di _]).length + ((gq c.length o).map di).length <= sizeLine
    have := rD c.length o
    simp only [List.length_append,List.length_map,List.length_singleton]
    omega
  · have e : (fE 0 ((c.length : Nat) : Int).toNat).length = c.length := by simp
    rw [e]
    show Tr.ow ((((o.map di) ++ [di _]) ++ ((gq c.length o).map di)).map .fz) = Tr.ow ((o ++ [(c.length : Int)] ++ gq c.length o).map _)
    simp only [List.map_append,List.map_map]
    rfl
def uS (W : Int) (aF : List Int) (s : Int × Int) (x : Int) : Int × Int := (s.1 * (fW W (bN aF x)).2 + (fW W (bN aF x)).1 * s.2,s.2 * (fW W (bN aF x)).2)
def uP (W : Int) (aF full : List Int) (k : Nat) : Int × Int := (full.take k).foldl (uS W aF) (0,1)
theorem EH {W : Int} {aF full : List Int} {k : Nat} {x : Int} (h : full[k]? = some x) : uP W aF full (k + 1) = uS W aF (uP W aF full k) x := by
  unfold uP
  rw [gM h,List.foldl_append]; rfl
structure qX (W S : Int) (k : Nat) (p : Int × Int) : Prop where
  b0 : 0 < p.2
  b1 : p.2 <= ((2 ^ (70 * k) : Nat) : Int)
  t0 : 0 <= p.1
  t1 : p.1 <= k * p.2
  e : p.1 * W = S * p.2
theorem sR {W : Int} {n : Nat} {aF : List Int} (h : gV W n aF) (full : List Int) : ∀ k,k <= full.length -> qX W (bx aF full k) k (uP W aF full k)
  | 0,_ => ⟨by show (0 : Int) < 1; decide,by show (1 : Int) <= ((2 ^ 0 : Nat) : Int); decide,by show (0 : Int) <= 0; decide,by show (0 : Int) <= ((0 : Nat) : Int) * 1; decide,by show (0 : Int) * W = 0 * 1; rw [Int.zero_mul]; rfl⟩
  | k + 1,hk => by
    obtain ⟨x,hx⟩ : ∃ x,full[k]? = some x := ⟨_,List.getElem?_eq_getElem (by omega)⟩
    obtain ⟨b0,b1,t0,t1,e⟩ := sR h full k (by omega)
    rw [EH hx,oE hx]
    obtain ⟨x0,x1⟩ := DH h x
    have w0 := h.w0
    have w1 := h.w1
    have q0 := gi (s := bN aF x) w0
    have q1 := xD (s := bN aF x) w0
    have qe := gN (s := bN aF x) w0
    have p0 := Nm (s := bN aF x) w0 x0
    unfold uS
    generalize uP W aF full k = u at b0 b1 t0 t1 e
    generalize fW W (bN aF x) = f at q0 q1 qe p0
    generalize bN aF x = t at x0 x1 qe
    generalize bx aF full k = S at e
    obtain ⟨T,B⟩ := u
    obtain ⟨p,q⟩ := f
    dsimp only at b0 b1 t0 t1 e q0 q1 qe p0 ⊢
    have pq : p <= q := by
      have : p * W <= q * W := by
        rw [qe,Int.mul_comm q W]
        exact Int.mul_le_mul_of_nonneg_right x1 (by omega)
      exact Int.le_of_mul_le_mul_right this w0
    refine ⟨Int.mul_pos b0 q0,?_,?_,?_,?_⟩
    · have m1 : B * q <= ((2 ^ (70 * k) : Nat) : Int) * q := Int.mul_le_mul_of_nonneg_right b1 (by omega)
      have m2 : ((2 ^ (70 * k) : Nat) : Int) * q <= ((2 ^ (70 * k) : Nat) : Int) * (2 ^ 70 : Int) := Int.mul_le_mul_of_nonneg_left (by omega) (by omega)
      have m3 : ((2 ^ (70 * (k + 1)) : Nat) : Int) = ((2 ^ (70 * k) : Nat) : Int) * (2 ^ 70 : Int) := by
        rw [show 70 * (k + 1) = 70 * k + 70 by omega,Nat.pow_add,Int.natCast_mul]; rfl
      omega
    · have := Int.mul_nonneg t0 (Int.le_of_lt q0)
      have := Int.mul_nonneg p0 (Int.le_of_lt b0)
      omega
    · show T * q + p * B <= (((k + 1 : Nat)) : Int) * (B * q)
      have m1 : T * q <= (k * B) * q := Int.mul_le_mul_of_nonneg_right t1 (by omega)
      have m2 : p * B <= q * B := Int.mul_le_mul_of_nonneg_right pq (by omega)
      have m3 : (((k + 1 : Nat)) : Int) * (B * q) = (k * B) * q + q * B := by
        rw [Int.natCast_add,Int.add_mul,Int.mul_assoc,Int.mul_comm q B]; show _ + 1 * _ = _; rw [Int.one_mul]
      omega
    · calc (T * q + p * B) * W = (T * W) * q + (p * W) * B := by rw [Int.add_mul,Int.mul_right_comm T q W,Int.mul_right_comm p B W]
        _ = (S * B) * q + (t * q) * B := by rw [e,qe]
        _ = (S + t) * (B * q) := by rw [Int.add_mul,Int.mul_assoc S B q,Int.mul_assoc t q B,Int.mul_comm q B]
theorem qX.big {W S : Int} {k : Nat} {p : Int × Int} (h : qX W S k p) (hk : k <= 13) : p.1.natAbs < 2 ^ 8000 /\ p.2.natAbs < 2 ^ 8000 := by
  obtain ⟨b0,b1,t0,t1,_⟩ := h
  have pk : 2 ^ (70 * k) <= 2 ^ 910 := Nat.pow_le_pow_right (by decide) (by omega)
  have c1 : p.2.natAbs <= 2 ^ 910 := by omega
  have c2 : (k : Int) * p.2 <= 13 * p.2 := Int.mul_le_mul_of_nonneg_right (by omega) (by omega)
  have c3 : p.1.natAbs <= 13 * 2 ^ 910 := by omega
  exact ⟨Nat.lt_of_le_of_lt c3 (by decide +kernel),Nat.lt_of_le_of_lt c1 (by decide +kernel)⟩
theorem Ie {W S1 S2 : Int} {k1 k2 : Nat} {p q : Int × Int} (w0 : 0 < W) (h1 : qX W S1 k1 p) (h2 : qX W S2 k2 q) : (q.1 * p.2 <= p.1 * q.2 ↔ S2 <= S1) /\ (q.1 * p.2 < p.1 * q.2 ↔ S2 < S1) := by
  have e1 : (q.1 * p.2) * W = S2 * (q.2 * p.2) := by rw [Int.mul_right_comm,h2.e,Int.mul_assoc]
  have e2 : (p.1 * q.2) * W = S1 * (q.2 * p.2) := by rw [Int.mul_right_comm,h1.e,Int.mul_assoc,Int.mul_comm p.2]
  have b := Int.mul_pos h2.b0 h1.b0
  have key : ∀ x y a c w : Int,0 < w -> 0 < W -> x * W = a * w -> y * W = c * w -> (x < y -> a < c) := fun x y a c w hw hW ex ey h => by
    refine Classical.byContradiction fun z => ?_
    have : c * w <= a * w := Int.mul_le_mul_of_nonneg_right (by omega) (by omega)
    have : x * W < y * W := Int.mul_lt_mul_of_pos_right h hW
    omega
  have kb : ∀ x y a c w : Int,0 < w -> 0 < W -> x * W = a * w -> y * W = c * w -> (a < c -> x < y) := fun x y a c w hw hW ex ey h => by
    refine Classical.byContradiction fun z => ?_
    have : y * W <= x * W := Int.mul_le_mul_of_nonneg_right (by omega) (by omega)
    have : a * w < c * w := Int.mul_lt_mul_of_pos_right h hw
    omega
  have l1 : q.1 * p.2 < p.1 * q.2 ↔ S2 < S1 := ⟨key _ _ _ _ _ b w0 e1 e2,kb _ _ _ _ _ b w0 e1 e2⟩
  have l2 : p.1 * q.2 < q.1 * p.2 ↔ S1 < S2 := ⟨key _ _ _ _ _ b w0 e2 e1,kb _ _ _ _ _ b w0 e2 e1⟩
  refine ⟨⟨fun h => ?_,fun h => ?_⟩,l1⟩
  · refine Classical.byContradiction fun z => ?_
    have := l2.mpr (by omega)
    omega
  · refine Classical.byContradiction fun z => ?_
    have := l2.mp (by omega)
    omega
def uL (W : Int) (aF full : List Int) (k : Nat) : List (Int × Int) := (List.range k).map fun j => uP W aF full (j + 1)
theorem QE (W : Int) (aF full : List Int) (k : Nat) : uL W aF full (k + 1) = uL W aF full k ++ [uP W aF full (k + 1)] := by
  unfold uL
  rw [List.range_succ,List.map_append]; rfl
theorem R0 (W : Int) (aF full : List Int) (k : Nat) : (uL W aF full k).length = k := by unfold uL; rw [List.length_map,List.length_range]
abbrev Y6 : List Str := ["_law_table_here", "_law_asker", "_law_row", "_law_found", "_law_top", "_law_bottom", "_law_number", "_law_one"]
abbrev mh : Stmt := top 51
theorem jG : bq Y6 ["_law_table_here", "_law_asker", "_law_row"] (ak mh) := ⟨rfl,rfl,rfl,by decide +kernel,rfl,by decide +kernel,by decide +kernel⟩
def Gf (dd : List Dv) (t : Tr) : Prop := ∃ (c : List Int) (os : List (List Int)) (a : Int) (o : List Int) (W : Int) (aF : List Int),cN c os /\ aY os a = some o /\ o ∈ os /\ gV W c.length aF /\ dd = [bT c os,di a,cf W aF] /\ t = .ow ((uL W aF (aA c.length o) (aA c.length o).length).map tF)
theorem L8 {f f1 : Addr} {fd aQ : FuncData} {k : Nat} (F : bt K "_law_sums" "_law_sums" mh f fd) (T : Txt mg) (MB : Kn P w K mg base au (k + 1) "_law_full" f1 aQ ["_law_table_here", "_law_asker"] (spT K pN)) : aR P w K mg base au (k + 2) f fd ["_law_table_here", "_law_asker", "_law_row"] (spT K Gf) := by
  refine bA F.d jG (fun dd t h => by obtain ⟨_,_,_,_,_,_,_,_,_,_,rfl,_⟩ := h; rfl) fun dd t h => ?_
  obtain ⟨c,os,a,o,W,aF,ok,ug,om,qY,rfl,rfl⟩ := h
  refine ⟨_,.inl rfl,?_⟩
  have big : 1000 < sizeLine := by decide
  have c6 := ok.c6
  have ol := ok.fQ om
  have fl := vT (n := c.length) o
  have fin := wt (ok.bj o om)
  have w0 := qY.w0
  refine aw (aH 3 (bL.to (t' := .ow ((uL W aF (aA c.length o) 0).map tF)) (Ev.s (eA ax (Nat.zero_le _))) rfl) (fun _ => jG.nd)) ?_
  refine aw (aH 4 (bL.to (t' := ti (uP W aF (aA c.length o) 0).1) (Ev.s aj) rfl) (fun _ => jG.nd)) ?_
  refine aw (aH 5 (bL.to (t' := ti (uP W aF (aA c.length o) 0).2) (Ev.s aj) rfl) (fun _ => jG.nd)) ?_
  refine aw (gQ (bz.s (dr (aU MB (Nat.le_refl _) (ag (ae 0 rfl) (ag (ae 1 rfl) ax)) ⟨c,os,a,o,by omega,by omega,ug,rfl,rfl⟩) (eY _))) (bX 6 (fun _ => jG.nd)) (fun j => [some (.fz (bT c os)),some (ti a),some (.fz (cf W aF)),some (.ow ((uL W aF (aA c.length o) j).map tF)),some (ti (uP W aF (aA c.length o) j).1),some (ti (uP W aF (aA c.length o) j).2),none,none]) rfl (fun _ => rfl) (fun j d hd => ?_)) ?_
  · obtain ⟨x,hx,rfl⟩ := fO hd
    have jl := (List.getElem?_eq_some_iff.mp hx).1
    obtain ⟨x0,x1⟩ := fin x (List.mem_of_getElem? hx)
    have ub := (sR qY (aA c.length o) j (by omega)).big (by omega)
    obtain ⟨t0,t1⟩ := DH qY x
    have sm : fP (fW W (bN aF x)) := Oz (m := 1) w0 qY.w1 t0 (by omega) (by decide)
    have rat := rowAt qY x0 x1
    have ul := R0 W aF (aA c.length o) j
    rw [QE,EH hx]
    generalize uL W aF (aA c.length o) j = L at ul
    generalize uP W aF (aA c.length o) j = u at ub
    have dm : ∀ r : Int × Int,aY [di r.1,di r.2] 0 = some (di r.1) := fun _ => rfl
    have cJ : ∀ r : Int × Int,aY [di r.1,di r.2] 1 = some (di r.2) := fun _ => rfl
    unfold uS
    generalize fW W (bN aF x) = f at sm rat
    obtain ⟨p1,p2,p3⟩ := sm
    refine ⟨_,[some (.fz (bT c os)),some (ti a),some (.fz (cf W aF)),some (.ow ((L ++ [(u.1 * f.2 + f.1 * u.2,u.2 * f.2)]).map tF)),some (ti (u.1 * f.2 + f.1 * u.2)),some (ti (u.2 * f.2)),some (ti x),some (tF f)],rfl,?_,[6,7],rfl⟩
    refine aw (aH 7 (Ev.s (cy (ae 2 rfl) (ae 6 rfl) rfl rat)) (fun _ => jG.nd)) ?_
    refine aw (aH 4 (Ev.s (gP (dP (ae 4 rfl) (aO (ae 7 rfl) aj rfl (cJ f)) ⟨ub.1,bR p2 (by decide)⟩) (dP (aO (ae 7 rfl) aj rfl (dm f)) (ae 5 rfl) ⟨bR p3 (by decide),ub.2⟩))) (fun _ => jG.nd)) ?_
    refine aw (aH 5 (Ev.s (dP (ae 5 rfl) (aO (ae 7 rfl) aj rfl (cJ f)) ⟨ub.2,bR p2 (by decide)⟩)) (fun _ => jG.nd)) ?_
    refine aJ (Rn.to (oB 3 rfl (Ev.s (oS (dd := [di (u.1 * f.2 + f.1 * u.2),di (u.2 * f.2)]) (ag (ae 4 rfl) (ag (ae 5 rfl) ax)) rfl (by show 2 <= sizeLine; decide))) (by rw [List.length_map]; omega)) ?_)
    rw [List.map_append]; rfl
  · rw [List.length_map]
    exact aJ (kj 3 rfl)
theorem Hn (l : List (Int × Int)) : er (.ow (l.map tF)) = .lst (l.map dF) := by
  rw [eW]; rfl
theorem SK (W : Int) (t1 t2 full : List Int) (m : Nat) : nF ((uL W t1 full m).map dF) ((uL W t2 full m).map dF) = (List.range m).map fun j => .tup [dF (uP W t1 full (j + 1)),dF (uP W t2 full (j + 1))] := by
  unfold uL
  rw [List.map_map,List.map_map]
  have gen : ∀ (f g : Nat -> Dv) (l : List Nat),nF (l.map f) (l.map g) = l.map fun a => .tup [f a,g a] := fun f g l => by
    induction l with
    | nil => rfl
    | cons a l ih =>
      show Dv.tup [f a,g a] :: nF (l.map f) (l.map g) = _
      rw [ih]; rfl
  exact gen _ _ _
end
end bH
namespace bH
open PySem L2 dY
section
variable {P : Program} {w : World} {K : PySem.W.Frag} {mg : Str -> Option Value} {base : Heap}
def fY (x y : Int) : Int := (if y < x then 1 else 0) - (if x < y then 1 else 0)
def e7 (t1 t2 full : List Int) : List Int := (List.range full.length).map fun j => fY (bx t1 full (j + 1)) (bx t2 full (j + 1))
abbrev Y7 : List Str := ["_law_some", "_law_others", "_law_found", "_law_one", "_law_other", "_law_gap"]
abbrev lF : Stmt := top 52
theorem rg : bq Y7 ["_law_some", "_law_others"] (ak lF) := ⟨rfl,rfl,rfl,by decide +kernel,rfl,by decide +kernel,by decide +kernel⟩
def Ho (dd : List Dv) (t : Tr) : Prop := ∃ (W : Int) (n : Nat) (t1 t2 full : List Int),full.length <= 13 /\ gV W n t1 /\ gV W n t2 /\ dd = [.lst ((uL W t1 full full.length).map dF),.lst ((uL W t2 full full.length).map dF)] /\ t = bB (e7 t1 t2 full)
theorem KJ {f : Addr} {fd : FuncData} {k : Nat} (F : bt K "_law_differences" "_law_differences" lF f fd) (T : Txt mg) : aR P w K mg base au (k + 1) f fd ["_law_some", "_law_others"] (spT K Ho) := by
  refine bA F.d rg (fun dd t h => by obtain ⟨_,_,_,_,_,_,_,_,rfl,_⟩ := h; rfl) fun dd t h => ?_
  obtain ⟨W,n,t1,t2,full,hf,k1,k2,rfl,rfl⟩ := h
  refine ⟨_,.inl rfl,?_⟩
  have big : 1000 < sizeLine := by decide
  have dm : ∀ r : Int × Int,aY [di r.1,di r.2] 0 = some (di r.1) := fun _ => rfl
  have cJ : ∀ r : Int × Int,aY [di r.1,di r.2] 1 = some (di r.2) := fun _ => rfl
  refine aw (aH 2 (bL.to (t' := bB ((e7 t1 t2 full).take 0)) (Ev.s (eA ax (Nat.zero_le _))) rfl) (fun _ => rg.nd)) ?_
  have gl : (e7 t1 t2 full).length = full.length := by unfold e7; rw [List.length_map,List.length_range]
  refine aw (gQ (bz.s (bz.to (Pq T.Sz (ae 0 rfl) (ae 1 rfl) rfl rfl) (SK W t1 t2 full full.length))) (kr 3 4 (fun _ => rg.nd)) (fun j => [some (.fz (.lst ((uL W t1 full full.length).map dF))),some (.fz (.lst ((uL W t2 full full.length).map dF))),some (bB ((e7 t1 t2 full).take j)),none,none,none]) rfl (fun _ => rfl) (fun j d hd => ?_)) ?_
  · obtain ⟨i,hi,rfl⟩ := fO hd
    have hj : j < full.length := by
      have := (List.getElem?_eq_some_iff.mp hi).1
      rwa [List.length_range] at this
    rw [List.getElem?_range hj] at hi
    have e := Option.some.inj hi
    subst e
    have u1 := sR k1 full (j + 1) (by omega)
    have u2 := sR k2 full (j + 1) (by omega)
    have b1 := u1.big (by omega)
    have b2 := u2.big (by omega)
    have l1 := (Ie k1.w0 u1 u2).2
    have l2 := (Ie k1.w0 u2 u1).2
    have gj : (e7 t1 t2 full)[j]? = some (fY (bx t1 full (j + 1)) (bx t2 full (j + 1))) := by
      unfold e7
      rw [List.getElem?_map,List.getElem?_range hj]; rfl
    rw [gM gj]
    have tl : ((e7 t1 t2 full).take j).length <= 13 := by rw [List.length_take]; omega
    generalize (e7 t1 t2 full).take j = A at tl
    unfold fY
    generalize bx t1 full (j + 1) = S1 at l1 l2
    generalize bx t2 full (j + 1) = S2 at l1 l2
    generalize uP W t1 full (j + 1) = p at b1 l1 l2
    generalize uP W t2 full (j + 1) = q at b2 l1 l2
    refine ⟨_,[some (.fz (.lst ((uL W t1 full full.length).map dF))),some (.fz (.lst ((uL W t2 full full.length).map dF))),some (bB (A ++ [(if S2 < S1 then 1 else 0) - (if S1 < S2 then 1 else 0)])),some (tF p),some (tF q),some (ti (p.1 * q.2 - q.1 * p.2))],rfl,?_,[3,4,5],rfl⟩
    refine aw (aH 5 (Ev.s (wM (dP (aO (ae 3 rfl) aj rfl (dm p)) (aO (ae 4 rfl) aj rfl (cJ q)) ⟨b1.1,b2.2⟩) (dP (aO (ae 4 rfl) aj rfl (dm q)) (aO (ae 3 rfl) aj rfl (cJ p)) ⟨b2.1,b1.2⟩))) (fun _ => rg.nd)) ?_
    refine aJ (Rn.to (oB 2 rfl (Ev.s (wM (Eh T.xJ (GN (ae 5 rfl) aj)) (Eh T.xJ (pI (ae 5 rfl) aj)))) (by rw [List.length_map]; omega)) ?_)
    have e1 : (if decide (0 < p.1 * q.2 - q.1 * p.2) = true then (1 : Int) else 0) = if S2 < S1 then 1 else 0 := by
      by_cases z : S2 < S1
      · have := l1.mpr z
        rw [if_pos z,if_pos (decide_eq_true (by omega))]
      · rw [if_neg z,if_neg (by rw [decide_eq_true_iff]; intro h; exact z (l1.mp (by omega)))]
    have e2 : (if decide (p.1 * q.2 - q.1 * p.2 < 0) = true then (1 : Int) else 0) = if S1 < S2 then 1 else 0 := by
      by_cases z : S1 < S2
      · have := l2.mpr z
        rw [if_pos z,if_pos (decide_eq_true (by omega))]
      · rw [if_neg z,if_neg (by rw [decide_eq_true_iff]; intro h; exact z (l2.mp (by omega)))]
    rw [e1,e2]
    show [_,_,some (Tr.ow _),_,_,_] = [_,_,some (Tr.ow _),_,_,_]
    rw [List.map_append]; rfl
  · rw [List.length_map,List.length_range,<- gl,List.take_length]
    exact aJ (kj 2 rfl)
def iZ (t1 t2 full : List Int) : List Int := (e7 t1 t2 full).filter fun g => !decide (g = 0)
theorem QF {t1 t2 full : List Int} {g : Int} (h : g ∈ iZ t1 t2 full) : g ≠ 0 /\ ∃ j,j < full.length /\ g = fY (bx t1 full (j + 1)) (bx t2 full (j + 1)) := by
  obtain ⟨h1,h2⟩ := List.mem_filter.mp h
  obtain ⟨j,hj,rfl⟩ := List.mem_map.mp h1
  refine ⟨?_,j,List.mem_range.mp hj,rfl⟩
  rw [Bool.not_eq_true',decide_eq_false_iff_not] at h2
  exact h2
theorem R3 {x y : Int} (h : y < x) : fY x y = 1 := by unfold fY; rw [if_pos h,if_neg (by omega)]; rfl
theorem wA {x y : Int} : fY x y = 0 ↔ x = y := by
  unfold fY
  rcases Int.lt_trichotomy x y with h | h | h
  · rw [if_neg (by omega),if_pos h]; exact ⟨fun z => absurd z (by decide),fun z => by omega⟩
  · rw [if_neg (by omega),if_neg (by omega)]; exact ⟨fun _ => h,fun _ => rfl⟩
  · rw [if_pos h,if_neg (by omega)]; exact ⟨fun z => absurd z (by decide),fun z => by omega⟩
theorem OT {W : Int} {n : Nat} {t1 t2 o : List Int} (k1 : gV W n t1) (k2 : gV W n t2) (h : iZ t1 t2 (aA n o) = []) : t1 = t2 := by
  have e : ∀ k,k <= (aA n o).length -> bx t1 (aA n o) k = bx t2 (aA n o) k := fun k hk => by
    cases k with
    | zero => rfl
    | succ k =>
      refine Classical.byContradiction fun z => ?_
      have : fY (bx t1 (aA n o) (k + 1)) (bx t2 (aA n o) (k + 1)) ∈ iZ t1 t2 (aA n o) := List.mem_filter.mpr ⟨List.mem_map.mpr ⟨k,List.mem_range.mpr hk,rfl⟩,by
        rw [Bool.not_eq_true',decide_eq_false_iff_not]
        exact fun w => z (wA.mp w)⟩
      rw [h] at this
      cases this
  have e2 : ∀ x ∈ aA n o,bN t1 x = bN t2 x := fun x hx => by
    obtain ⟨k,hk,rfl⟩ := List.mem_iff_getElem.mp hx
    have hz := List.getElem?_eq_getElem hk
    have a := e k (by omega)
    have b := e (k + 1) (by omega)
    rw [oE hz,oE hz,a] at b
    omega
  refine List.ext_getElem (by rw [k1.len,k2.len]) fun i h1 h2 => ?_
  have := e2 (i : Int) (vU (by omega) (by have := k1.len; omega))
  unfold bN at this
  rw [Int.toNat_natCast,List.getD_eq_getElem?_getD,List.getD_eq_getElem?_getD,List.getElem?_eq_getElem h1,List.getElem?_eq_getElem h2] at this
  exact this
theorem NI {t1 t2 full : List Int} {k : Nat} {x : Int} (hx : full[k]? = some x) (hb : ∀ y ∈ full.take k,bN t2 y = bN t1 y) (lt : bN t2 x < bN t1 x) : ∃ r,iZ t1 t2 full = 1 :: r := by
  have kl := (List.getElem?_eq_some_iff.mp hx).1
  have pe : ∀ j,j <= k -> bx t2 full j = bx t1 full j := fun j hj => by
    unfold bx
    rw [List.map_congr_left fun y hy => hb y (List.take_subset_take_left _ hj hy)]
  have e : e7 t1 t2 full = (List.range k).map (fun j => fY (bx t1 full (j + 1)) (bx t2 full (j + 1))) ++ 1 :: ((List.range (full.length - (k + 1))).map fun j => fY (bx t1 full (k + 1 + j + 1)) (bx t2 full (k + 1 + j + 1))) := by
    unfold e7
    have r : full.length = k + (1 + (full.length - (k + 1))) := by omega
    conv => lhs; rw [r,List.range_add,List.map_append,List.map_map,List.range_add,List.map_append,List.map_map]
    congr 1
    show fY (bx t1 full (k + 0 + 1)) (bx t2 full (k + 0 + 1)) :: _ = _
    congr 1
    · refine R3 ?_
      show bx t2 full (k + 1) < bx t1 full (k + 1)
      rw [oE hx,oE hx,pe k (Nat.le_refl _)]
      omega
    · refine List.map_congr_left fun j _ => ?_
      show fY (bx t1 full (k + (1 + j) + 1)) (bx t2 full (k + (1 + j) + 1)) = _
      rw [show k + (1 + j) + 1 = k + 1 + j + 1 by omega]
  unfold iZ
  rw [e,List.filter_append,List.filter_eq_nil_iff.mpr,List.nil_append,List.filter_cons,if_pos (by decide)]
  · exact ⟨_,rfl⟩
  · intro g hg
    obtain ⟨j,hj,rfl⟩ := List.mem_map.mp hg
    have hj := List.mem_range.mp hj
    rw [pe (j + 1) (by omega),wA.mpr rfl]
    decide
theorem OU {ι : Type} {F : bb ι} {ρ : En} {a b : Expr} {pos : Pos} {tb' : Tr} {n : Int} {ns : List Int} (ha : Ev F a ρ (ti n)) (hb : Ev F b ρ tb') (eb : er tb' = dis ns) (hm : behindInMarks .NotIn b = false) : Ev F (.Compare a [.NotIn] [b] pos) ρ (tb (!ns.contains n)) :=
  mW (r := nM F.K true) (fun i => F.hK i ▸ B9) ha hb (fun G H x y Q s hx hy k => wQ eb s hx hy k) hm
end
end bH
namespace bH
open PySem L2 dY
section
variable {P : Program} {w : World} {K : PySem.W.Frag} {mg : Str -> Option Value} {base : Heap}
abbrev JV : List Str := ["_law_table_here", "_law_asker", "_law_order_here", "_law_first", "_law_way", "_law_made", "_law_row", "_law_gaps", "_law_known"]
abbrev fZ : Stmt := top 53
theorem lR : bq JV ["_law_table_here", "_law_asker", "_law_order_here", "_law_first", "_law_way"] (ak fZ) := ⟨rfl,rfl,rfl,by decide +kernel,rfl,by decide +kernel,by decide +kernel⟩
inductive Wy (c : List Int) (os : List (List Int)) (a : Int) : Bool -> Int -> List Int -> Prop
  | turns : os.length <= 5 -> Wy c os a true (wT os) (fX c os a)
  | Ig : Wy c os a false WM (mR c os a)
def Gg (dd : List Dv) (t : Tr) : Prop := ∃ (c : List Int) (os : List (List Int)) (a : Int) (o : List Int) (y : Bool) (W : Int) (r : List Int),cN c os /\ 0 <= a /\ a < os.length /\ cN c (os.set a.toNat o) /\ Wy c os a y W r /\ dd = [bT c os,di a,dis o,cf W r,db y] /\ t = tb true
theorem EI (c : List Int) (os : List (List Int)) : er (uc (wT os) os.length c.length (cj c os)) = .lst ((aq os.length).map fun b => cf (wT os) (fX c os b)) := by
  unfold uc
  rw [eW]
  congr 1
  refine List.map_congr_left fun b _ => ?_
  rw [eW,DW]
  unfold fX
  rw [List.map_map]; rfl
theorem LL {f f1 f2 f3 f4 f5 : Addr} {fd aQ fd2 gK qV qW : FuncData} {k : Nat} (F : bt K "_law_right" "_law_right" fZ f fd) (T : Txt mg) (KO : Kn P w K mg base au (k + 3) "told_otherwise" f1 aQ ["table", "asker", "order"] (spT K JU)) (uY : Kn P w K mg base au (k + 7) "turn_shares" f2 fd2 ["table"] (spT K vb)) (xo : Kn P w K mg base au (k + 6) "meal" f3 gK ["table"] (spT K xK)) (Cw : Kn P w K mg base au (k + 2) "_law_sums" f4 qV ["_law_table_here", "_law_asker", "_law_row"] (spT K Gf)) (KL : Kn P w K mg base au (k + 1) "_law_differences" f5 qW ["_law_some", "_law_others"] (spT K Ho)) : aR P w K mg base au (k + 8) f fd ["_law_table_here", "_law_asker", "_law_order_here", "_law_first", "_law_way"] (spT K Gg) := by
  refine bA F.d lR (fun dd t h => by obtain ⟨_,_,_,_,_,_,_,_,_,_,_,_,rfl,_⟩ := h; rfl) fun dd t h => ?_
  obtain ⟨c,os,a,o,y,W,r,ok,a0,a1,iY,wy,rfl,rfl⟩ := h
  refine ⟨_,.inl rfl,?_⟩
  have big : 1000 < sizeLine := by decide
  have c6 := ok.c6
  have l2 : (os.set a.toNat o).length = os.length := List.length_set
  obtain ⟨o1,nY⟩ : ∃ o1,os[a.toNat]? = some o1 := ⟨_,List.getElem?_eq_getElem (by omega)⟩
  have zP := List.mem_of_getElem? nY
  have og : os.getD a.toNat [] = o1 := by rw [List.getD_eq_getElem?_getD,nY]; rfl
  have ug : aY os a = some o1 := by
    rw [show a = ((a.toNat : Nat) : Int) by omega]
    exact gg nY
  have ol := ok.fQ zP
  have fl := vT (n := c.length) o1
  have Y8 : aY ((os.set a.toNat o).map dis) a = some (dis o) := by
    refine wo dis ?_
    rw [show a = ((a.toNat : Nat) : Int) by omega]
    exact gg (by rw [show ((a.toNat : Nat) : Int).toNat = a.toNat by omega]; exact List.getElem?_set_self (by omega))
  have Y9 : Tr.ow ((o.map di).map Tr.fz) = bB o := congrArg Tr.ow (mJ o)
  refine aw (aH 5 (Ev.s (Ev.as (d := bT c (os.set a.toNat o)) (aU KO (by show k + 3 <= k + 7; omega) (ag (ae 0 rfl) (ag (ae 1 rfl) (ag (Ev.to (rX T.ky (ae 2 rfl) (.inl rfl)) Y9) ax))) ⟨c,os,a,o,a0,a1,iY,by show [bT c os,di a,er (bB o)] = _; rw [eY],rfl⟩) (RX _ _))) (fun _ => lR.nd)) ?_
  refine aw (df (fT.to (q := false) (Et.s (Ew.et (sI (sr (aO (ae 5 rfl) aj rfl (sD _ _)) (aO (ae 0 rfl) aj rfl (sD c os)) (.inl ⟨_,_,rfl,rfl⟩) (Nat.le_trans (rZ c) (by decide))) fun _ => su (sr (cy (aO (ae 5 rfl) aj rfl (pC _ _)) (ae 1 rfl) rfl Y8) (ae 2 rfl) (.inl ⟨_,_,rfl,rfl⟩) (Nat.le_trans (rZ o) (by decide)))))) (by
    show (!cE (dis c) (dis c) || !cE (dis o) (dis o)) = false
    rw [oO (wg c),oO (wg o)]; rfl)) rfl) ?_
  have rest : ∀ r2 : List Int,gV W c.length r -> gV W c.length r2 -> (y = true -> sQ r r2 (aA c.length o1) = true) -> (y = false -> r2 = r \/ ∃ z,iZ r r2 (aA c.length o1) = 1 :: z) -> bp (cC P w K mg base JV "_law_right" (ak fZ) f (k + 7)) ((aI fZ).drop 3) [some (.fz (bT c os)),some (ti a),some (.fz (dis o)),some (.fz (cf W r)),some (tb y),some (.fz (bT c (os.set a.toNat o))),some (.fz (cf W r2)),none,none] (.rt (tb true)) := fun r2 k1 k2 ht hm => by
    show bp _ [(aI fZ).getD 3 (.Pass ⟨0,0,0,0⟩),(aI fZ).getD 4 (.Pass ⟨0,0,0,0⟩),(aI fZ).getD 5 (.Pass ⟨0,0,0,0⟩),(aI fZ).getD 6 (.Pass ⟨0,0,0,0⟩),(aI fZ).getD 7 (.Pass ⟨0,0,0,0⟩)] _ _
    refine aw (aH 7 (Ev.s (Ev.as (d := dis (e7 r r2 (aA c.length o1))) (aU KL (by show k + 1 <= k + 7; omega) (ag (Ev.as (d := .lst ((uL W r (aA c.length o1) (aA c.length o1).length).map dF)) (aU Cw (by show k + 2 <= k + 7; omega) (ag (ae 0 rfl) (ag (ae 1 rfl) (ag (ae 3 rfl) ax))) ⟨c,os,a,o1,W,r,ok,ug,zP,k1,rfl,rfl⟩) (Hn _)) (ag (Ev.as (d := .lst ((uL W r2 (aA c.length o1) (aA c.length o1).length).map dF)) (aU Cw (by show k + 2 <= k + 7; omega) (ag (ae 0 rfl) (ag (ae 1 rfl) (ag (ae 6 rfl) ax))) ⟨c,os,a,o1,W,r2,ok,ug,zP,k2,rfl,rfl⟩) (Hn _)) ax)) ⟨W,c.length,r,r2,aA c.length o1,by omega,k1,k2,rfl,rfl⟩) (eY _))) (fun _ => lR.nd)) ?_
    have gl : (e7 r r2 (aA c.length o1)).length <= 13 := by unfold e7; rw [List.length_map,List.length_range]; omega
    have kl : (iZ r r2 (aA c.length o1)).length <= 13 := Nat.le_trans (List.length_filter_le _ _) gl
    refine aw (jL 8 (kJ (dH.as (d := dis (iZ r r2 (aA c.length o1))) (yu (own := ["_law_gap"]) (fr := []) (e7 r r2 (aA c.length o1)) di (fun g => !decide (g = 0)) ti (dr (ae 7 rfl) rfl) (bX 0 (fun _ => by show List.Nodup (["_law_gap"] : List Str); decide)) (by decide) (by omega) (fun g hg => ⟨_,rfl,by exact hZ (xA (ae 0 rfl) aj),fun _ => by exact ae 0 rfl⟩) (fun dd => by cases dd <;> rfl)) (by rw [eW]; rfl))) (fun i => lcs ⟨rfl,rfl,by decide +kernel,by decide +kernel,by decide +kernel,by decide +kernel⟩) (fun _ => lR.nd)) ?_
    have gm : ∀ g ∈ iZ r r2 (aA c.length o1),_ := fun g hg => QF hg
    have gn := OT (o := o1) k1 k2
    have hg := fun h => DK.mp (ht h)
    generalize iZ r r2 (aA c.length o1) = kn at kl gm gn hm
    by_cases e : kn = []
    · have er := gn e
      subst er
      rw [e]
      refine wa (jM (Et.s (wO (ae 8 rfl) (eA ax (Nat.zero_le _)) (.inl ⟨_,_,rfl,rfl⟩) (by decide))) rfl (aJ (bW (bL.to (Ev.s (Q8 (ae 6 rfl) (ae 3 rfl) (.inl ⟨_,_,rfl,rfl⟩) (RW W r))) ?_))))
      show tb (cE (cf W r) (cf W r)) = tb true
      have : cE (cf W r) (cf W r) = true := oO (Px RJ _)
      rw [this]
    · have ne : cE (dis kn) (.lst []) = false := by
        cases kn with
        | nil => exact absurd rfl e
        | cons x l => rfl
      refine aw (df (Et.s (wO (ae 8 rfl) (eA ax (Nat.zero_le _)) (.inl ⟨_,_,rfl,rfl⟩) (Nat.le_trans (rZ kn) (by decide)))) ne) ?_
      cases y with
      | true =>
        refine wa (jM (Et.s (fB (ae 4 rfl))) rfl (aJ (bW (bL.to (Ev.s (OU (Q7 aj) (ae 8 rfl) rfl (by with_unfolding_all rfl))) ?_))))
        have : kn.contains (-1) = false := by
          rw [Bool.eq_false_iff]
          intro h
          obtain ⟨_,j,hj,ej⟩ := gm (-1) (by simpa using h)
          have := hg rfl j hj
          unfold fY at ej
          rw [if_neg (show ¬ bx r (aA c.length o1) (j + 1) < bx r2 (aA c.length o1) (j + 1) by omega)] at ej
          split at ej <;> omega
        rw [this]; rfl
      | false =>
        refine aw (df (Et.s (fB (ae 4 rfl))) rfl) ?_
        rcases hm rfl with er | ⟨z,ez⟩
        · exfalso
          have gz : ∀ g ∈ kn,False := fun g hg => by
            obtain ⟨g0,j,_,ej⟩ := gm g hg
            rw [er] at ej
            exact g0 (by rw [ej]; exact wA.mpr rfl)
          cases kn with
          | nil => exact e rfl
          | cons x l => exact gz x (.head _)
        · rw [ez]
          have a8 : aY ((1 :: z).map di) 0 = some (di 1) := gg rfl
          exact aJ (bW (bL.to (Ev.s (GO (cy (ae 8 rfl) aj rfl a8) aj)) rfl))
  cases wy with
  | turns h5 =>
    have JW : (os.set a.toNat o).length <= 5 := by rw [l2]; exact h5
    have ew : wT (os.set a.toNat o) = wT os := by unfold wT; rw [l2]
    refine aw (jM (Et.s (fB (ae 4 rfl))) rfl (aJ (aH 6 (Ev.s (cy (xs := (aq (os.set a.toNat o).length).map fun b => cf (wT (os.set a.toNat o)) (fX c (os.set a.toNat o) b)) (aU uY (Nat.le_refl _) (ag (ae 5 rfl) ax) ⟨c,os.set a.toNat o,iY,JW,rfl,rfl⟩) (ae 1 rfl) (EI _ _) (rP a0 (by rw [l2]; exact a1) _))) (fun _ => lR.nd)))) ?_
    rw [ew]
    exact rest (fX c (os.set a.toNat o) a) (F0 h5 a) (ew ▸ F0 JW a) (fun _ => by rw [<- og]; exact OS ok h5 a0 a1 o) (fun h => by cases h)
  | Ig =>
    refine aw (Fh (Et.s (fB (ae 4 rfl))) rfl (aJ (aH 6 (Ev.s (cy (xs := (aq (os.set a.toNat o).length).map fun b => cf WM (mR c (os.set a.toNat o) b)) (Ev.to (aO (d := km c.length (cn c (os.set a.toNat o)) (os.set a.toNat o).length) (aU xo (by show k + 6 <= k + 7; omega) (ag (ae 5 rfl) ax) ⟨c,os.set a.toNat o,iY,oY iY,rfl,rfl⟩) aj rfl rfl) (by rw [Cv])) (ae 1 rfl) rfl (rP a0 (by rw [l2]; exact a1) _))) (fun _ => lR.nd)))) ?_
    refine rest (mR c (os.set a.toNat o) a) (FZ ok a) (FZ iY a) (fun h => by cases h) fun _ => ?_
    rcases OQ ok a0 a1 iY with e | ⟨j,x,hx,hb,lt⟩
    · exact .inl e
    · rw [og] at hx hb
      exact .inr (NI hx hb lt)
end
end bH
namespace bH
open PySem L2 dY
section
variable {P : Program} {w : World} {K : PySem.W.Frag} {mg : Str -> Option Value} {base : Heap}
def Ih : Stmt -> List Stmt
  | .For _ _ b _ _ => b
  | _ => []
abbrev zQ : List Str := ["_law_script", "_law_table_here", "_law_few", "_law_shares", "_law_others", "_law_cell", "_law_asker", "_law_order_here", "_law_way", "_law_first"]
abbrev e8 : Stmt := top 54
theorem gR : bq zQ ["_law_script"] (ak e8) := ⟨rfl,rfl,rfl,by decide +kernel,rfl,by decide +kernel,by decide +kernel⟩
theorem R4 {f f1 f2 f3 f4 f5 : Addr} {fd aQ fd2 gK qV qW : FuncData} {k : Nat} (F : bt K "law" "law" e8 f fd) (T : Txt mg) (L9 : Kn P w K mg base au (k + 2) "_law_table" f1 aQ ["_law_script", "_law_start", "_law_things", "_law_askers"] (spT K FK)) (xo : Kn P w K mg base au (k + 6) "meal" f2 fd2 ["table"] (spT K xK)) (uY : Kn P w K mg base au (k + 7) "turn_shares" f3 gK ["table"] (spT K vb)) (rl : Kn P w K mg base au (k + 1) "_law_order" f4 qV ["_law_cell", "_law_many"] (spT K sC)) (Ma : Kn P w K mg base au (k + 8) "_law_right" f5 qW ["_law_table_here", "_law_asker", "_law_order_here", "_law_first", "_law_way"] (spT K Gg)) : aR P w K mg base au (k + 9) f fd ["_law_script"] (spT K HI) := by
  refine bA F.d gR (fun dd t h => by obtain ⟨_,_,rfl,_⟩ := h; rfl) fun dd t h => ?_
  obtain ⟨ns,iB,rfl,rfl⟩ := h
  refine ⟨_,.inl rfl,?_⟩
  have big : 1000 < sizeLine := by decide
  refine aw (aH 1 (Ev.s (aU L9 (by show k + 2 <= k + 8; omega) (ag (ae 0 rfl) (ag aj (ag aj (ag aj ax)))) ⟨6,ns,0,6,by decide,by decide,by decide,by decide,rfl,rfl⟩)) (fun _ => gR.nd)) ?_
  have ok : cN (jb 6 ns 0) (eu 6 ns 0 6) := RH (by decide) (by decide) (by decide)
  generalize jb 6 ns 0 = c at ok
  generalize eu 6 ns 0 6 = os at ok
  have o1 := ok.o1
  have o6 := ok.o6
  have c6 := ok.c6
  have fQ : (((os.map dis).length : Nat) : Int) = os.length := by rw [List.length_map]
  have qa : (((c.map di).length : Nat) : Int) = c.length := by rw [List.length_map]
  refine aw (aH 2 (bL.to (t' := tb (decide ((os.length : Int) < 5))) (Ev.s (pI (cM T.cz (aO (ae 1 rfl) aj rfl (pC c os)) (.inl rfl)) aj)) (by rw [fQ])) (fun _ => gR.nd)) ?_
  refine aw (aH 3 (Ev.s (Ev.to (t' := .fz (.lst ((aq os.length).map fun b => cf WM (mR c os b)))) (aO (d := km c.length (cn c os) os.length) (aU xo (by show k + 6 <= k + 8; omega) (ag (ae 1 rfl) ax) ⟨c,os,ok,oY ok,rfl,rfl⟩) aj rfl rfl) (by rw [Cv]))) (fun _ => gR.nd)) ?_
  refine aw (aH 4 (Ev.s (Ev.as (d := .lst []) (eA ax (Nat.zero_le _)) rfl)) (fun _ => gR.nd)) ?_
  have rest : ∀ (few : Bool) (X : Dv),few = decide ((os.length : Int) < 5) -> (few = true -> X = .lst ((aq os.length).map fun b => cf (wT os) (fX c os b))) -> bp (cC P w K mg base zQ "law" (ak e8) f (k + 8)) ((aI e8).drop 5) [some (.fz (dis ns)),some (.fz (bT c os)),some (tb few),some (.fz (.lst ((aq os.length).map fun b => cf WM (mR c os b)))),some (.fz X),none,none,none,none,none] (.rt (tb true)) := fun few X ef eX => by
    show bp _ [(aI e8).getD 5 (.Pass ⟨0,0,0,0⟩),(aI e8).getD 6 (.Pass ⟨0,0,0,0⟩)] _ _
    refine aw (gQ (its := (cutD ns (some 13) (some 23)).map di) (bz.s (bz.to (dr (Di (ae 0 rfl) rfl (rW aj) (rW aj)) (mX _)) (vI _ _ _ _))) (bX 5 (fun _ => gR.nd)) (fun _ => [some (.fz (dis ns)),some (.fz (bT c os)),some (tb few),some (.fz (.lst ((aq os.length).map fun b => cf WM (mR c os b)))),some (.fz X),none,none,none,none,none]) rfl (fun _ => rfl) (fun j d hd => ?_)) (aJ (bW (Ev.s Sg)))
    obtain ⟨y,_,rfl⟩ := fO hd
    obtain ⟨a,ea⟩ : ∃ a,a = y % (os.length : Int) := ⟨_,rfl⟩
    have a0 : 0 <= a := by rw [ea]; exact Int.emod_nonneg _ (by omega)
    have a1 : a < os.length := by rw [ea]; exact Int.emod_lt_of_pos _ (by omega)
    obtain ⟨nd,bj⟩ := vR (y / 12) c.length
    have ro : sC [di (y / 12),di (c.length : Nat)] (bB (jO (y / 12) c.length)) := ⟨y / 12,c.length,c6,rfl,rfl⟩
    generalize jO (y / 12) c.length = o at nd bj ro
    have iY := RY ok (a := a.toNat) nd bj
    have fin : ∀ (way : Bool) (W : Int) (r : List Int),Wy c os a way W r -> bp (cC P w K mg base zQ "law" (ak e8) f (k + 8)) ((Ih ((aI e8).getD 5 (.Pass ⟨0,0,0,0⟩))).drop 5) [some (.fz (dis ns)),some (.fz (bT c os)),some (tb few),some (.fz (.lst ((aq os.length).map fun b => cf WM (mR c os b)))),some (.fz X),some (ti y),some (ti a),some (.fz (dis o)),some (tb way),some (.fz (cf W r))] (.nx [some (.fz (dis ns)),some (.fz (bT c os)),some (tb few),some (.fz (.lst ((aq os.length).map fun b => cf WM (mR c os b)))),some (.fz X),some (ti y),some (ti a),some (.fz (dis o)),some (tb way),some (.fz (cf W r))]) := fun way W r wy => by
      show bp _ [(Ih ((aI e8).getD 5 (.Pass ⟨0,0,0,0⟩))).getD 5 (.Pass ⟨0,0,0,0⟩)] _ _
      exact aJ (df (fT.to (q := false) (Et.s (wR (fB (aU Ma (Nat.le_refl _) (ag (ae 1 rfl) (ag (ae 6 rfl) (ag (ae 7 rfl) (ag (ae 9 rfl) (ag (ae 8 rfl) ax))))) ⟨c,os,a,o,way,W,r,ok,a0,a1,iY,wy,rfl,rfl⟩)))) rfl) rfl)
    obtain ⟨way,ew⟩ : ∃ way,way = (few && decide (y / 6 % 2 = 1)) := ⟨_,rfl⟩
    obtain ⟨W,r,wy,sel⟩ : ∃ (W : Int) (r : List Int),Wy c os a way W r /\ ((way = true /\ few = true /\ W = wT os /\ r = fX c os a) \/ (way = false /\ W = WM /\ r = mR c os a)) := by
      cases way with
      | true =>
        have ht : few = true := by cases few with | true => rfl | false => cases ew
        rw [ht] at ef
        have := of_decide_eq_true ef.symm
        exact ⟨_,_,.turns (by omega),.inl ⟨rfl,ht,rfl,rfl⟩⟩
      | false => exact ⟨_,_,.Ig,.inr ⟨rfl,rfl,rfl⟩⟩
    refine ⟨_,[some (.fz (dis ns)),some (.fz (bT c os)),some (tb few),some (.fz (.lst ((aq os.length).map fun b => cf WM (mR c os b)))),some (.fz X),some (ti y),some (ti a),some (.fz (dis o)),some (tb way),some (.fz (cf W r))],rfl,?_,[5,6,7,8,9],rfl⟩
    refine aw (aH 6 (bL.to (t' := ti a) (Ev.s (fA (ae 5 rfl) (cM T.cz (aO (ae 1 rfl) aj rfl (pC c os)) (.inl rfl)) (by rw [fQ]; omega))) (by rw [fQ,ea])) (fun _ => gR.nd)) ?_
    refine aw (aH 7 (Ev.s (Ev.as (d := dis o) (aU rl (by show k + 1 <= k + 8; omega) (ag (hU (ae 5 rfl) aj ⟨by decide,iO (by decide) (by decide)⟩) (ag (Ev.to (t' := ti (c.length : Nat)) (cM T.cz (aO (ae 1 rfl) aj rfl (sD c os)) (.inl rfl)) (by rw [List.length_map])) ax)) ro) (eY _))) (fun _ => gR.nd)) ?_
    refine aw (aH 8 (bL.to (t' := tb way) (Ev.s (E8 (p := few) (q := decide (y / 6 % 2 = 1)) (ae 2 rfl) fun _ => sv (GO (fA (hU (ae 5 rfl) aj ⟨by decide,iO (by decide) (by decide)⟩) aj (by decide)) aj))) (by rw [ew])) (fun _ => gR.nd)) ?_
    refine aw (aH 9 (Ev.s (cy (ae 3 rfl) (ae 6 rfl) rfl (rP a0 a1 _))) (fun _ => gR.nd)) ?_
    rcases sel with ⟨rfl,ht,rfl,rfl⟩ | ⟨rfl,rfl,rfl⟩
    · have Za := eX ht
      subst Za
      refine aw (jM (Et.s (fB (ae 8 rfl))) rfl (aJ (aH 9 (Ev.s (cy (ae 4 rfl) (ae 6 rfl) rfl (rP a0 a1 _))) (fun _ => gR.nd)))) ?_
      exact fin true _ _ wy
    · refine aw (df (Et.s (fB (ae 8 rfl))) rfl) ?_
      exact fin false _ _ wy
  by_cases h : (os.length : Int) < 5
  · refine aw (jM (Et.s (fB (ae 2 rfl))) (decide_eq_true h) (aJ (aH 4 (Ev.s (Ev.as (d := .lst ((aq os.length).map fun b => cf (wT os) (fX c os b))) (aU uY (by show k + 7 <= k + 8; omega) (ag (ae 1 rfl) ax) ⟨c,os,ok,by omega,rfl,rfl⟩) (EI c os))) (fun _ => gR.nd)))) ?_
    exact rest _ _ rfl fun _ => rfl
  · refine aw (df (Et.s (fB (ae 2 rfl))) (decide_eq_false h)) ?_
    exact rest _ _ rfl fun z => by rw [decide_eq_false h] at z; cases z
end
end bH
namespace bH
open PySem L2
theorem jE {α : Type} {us : List α} (h : us.length = 1) : ∃ a0,us = [a0] := by
  rcases us with _ | ⟨a0,us⟩; · cases h
  rcases us with _ | ⟨b,us⟩
  · exact ⟨a0,rfl⟩
  · simp at h
theorem d9 {α : Type} {us : List α} (h : us.length = 2) : ∃ a0 a1,us = [a0,a1] := by
  rcases us with _ | ⟨a0,us⟩; · cases h
  rcases us with _ | ⟨a1,us⟩; · cases h
  rcases us with _ | ⟨b,us⟩
  · exact ⟨a0,a1,rfl⟩
  · simp at h
theorem oa {α : Type} {us : List α} (h : us.length = 3) : ∃ a0 a1 a2,us = [a0,a1,a2] := by
  rcases us with _ | ⟨a0,us⟩; · cases h
  rcases us with _ | ⟨a1,us⟩; · cases h
  rcases us with _ | ⟨a2,us⟩; · cases h
  rcases us with _ | ⟨b,us⟩
  · exact ⟨a0,a1,a2,rfl⟩
  · simp at h
theorem Zb {α : Type} {us : List α} (h : us.length = 4) : ∃ a0 a1 a2 a3,us = [a0,a1,a2,a3] := by
  rcases us with _ | ⟨a0,us⟩; · cases h
  rcases us with _ | ⟨a1,us⟩; · cases h
  rcases us with _ | ⟨a2,us⟩; · cases h
  rcases us with _ | ⟨a3,us⟩; · cases h
  rcases us with _ | ⟨b,us⟩
  · exact ⟨a0,a1,a2,a3,rfl⟩
  · simp at h
theorem Zc {α : Type} {us : List α} (h : us.length = 5) : ∃ a0 a1 a2 a3 a4,us = [a0,a1,a2,a3,a4] := by
  rcases us with _ | ⟨a0,us⟩; · cases h
  rcases us with _ | ⟨a1,us⟩; · cases h
  rcases us with _ | ⟨a2,us⟩; · cases h
  rcases us with _ | ⟨a3,us⟩; · cases h
  rcases us with _ | ⟨a4,us⟩; · cases h
  rcases us with _ | ⟨b,us⟩
  · exact ⟨a0,a1,a2,a3,a4,rfl⟩
  · simp at h
theorem all_mk {l : PySem.W.OpenLaw} {w : World} {K : PySem.W.Frag} {h : Heap} {mg : Str -> Option Value} {fa : Addr} (X : K.In h) (G : h.Ns mainGlobals mg) (Zd : mg "law" = some (.ref fa))
    {f1 : Addr} {Ze Zf : Option Addr} {Zg : Array (Option Value)} {Zh Zi Zj Zk JX JR : Value}
    {f2 : Addr} {Zm Zn : Option Addr} {y8 : Array (Option Value)} {Zo Zq Zr Zt JY Zu : Value}
    {f3 : Addr} {Zv zR : Option Addr} {Zw : Array (Option Value)} {Zx zS zT zU uh zV : Value}
    {ui : Addr} {Zy : Value} {Zz : Option Addr} {ZA : Nat} {ZC : Array (Option Value)} {JZ : Tok}
    {f4 : Addr} {ZD ZE : Option Addr} {ZF : Array (Option Value)} {ZG ZH ZI ZJ J0 ZK : Value}
    {f5 : Addr} {ZL ZM : Option Addr} {ZN : Array (Option Value)} {ZO ZP ZQ ZR J1 ZS : Value}
    {f6 : Addr} {ZT ZU : Option Addr} {ZV : Array (Option Value)} {ZW ZX ZY ZZ J4 Z0 : Value}
    {f7 : Addr} {Z1 Z2 : Option Addr} {Z3 : Array (Option Value)} {Z4 Z5 Z6 Z7 ud Z8 : Value}
    {f8 : Addr} {Z9 an8 : Option Addr} {sl8 : Array (Option Value)} {oc8 kV8 dc8 pm8 J5 ct8 : Value}
    {f9 : Addr} {od9 an9 : Option Addr} {sl9 : Array (Option Value)} {oc9 kV9 dc9 pm9 J6 ct9 : Value}
    {zW : Addr} {Tw Tx : Option Addr} {Tz : Array (Option Value)} {TB TC TF TH Ii TJ : Value}
    {zX : Addr} {TK TL : Option Addr} {TQ : Array (Option Value)} {TR TU TV TX Ij TY : Value}
    {zY : Addr} {TZ T1 : Option Addr} {T2 : Array (Option Value)} {T3 T4 T5 T6 Ik T7 : Value}
    {zZ : Addr} {T8 T9 : Option Addr} {Ua : Array (Option Value)} {Ub Uc Ud Ue Il Ug : Value}
    {z4 : Addr} {Uh Ui : Option Addr} {Uj : Array (Option Value)} {Uk Ul Um Uo Im Up : Value}
    {z5 : Addr} {Uq Ur : Option Addr} {Us : Array (Option Value)} {Ut Uu Uv Uw Io Ux : Value}
    {z6 : Addr} {Uy Uz : Option Addr} {UA : Array (Option Value)} {UB UC UD UE Ip UG : Value}
    {z7 : Addr} {UH UI : Option Addr} {UJ : Array (Option Value)} {UK UL UM UN Iq UO : Value}
    {z8 : Addr} {UP UQ : Option Addr} {UR : Array (Option Value)} {UT UU UW UX Ir UY : Value}
    {z9 : Addr} {UZ U0 : Option Addr} {U1 : Array (Option Value)} {U2 U3 U4 U5 Iu U6 : Value}
    {Aa : Addr} {U7 U8 : Option Addr} {U9 : Array (Option Value)} {Va Vb Vc Vd Iv Ve : Value}
    {Ab : Addr} {Vf Vg : Option Addr} {Vh : Array (Option Value)} {Vi Vj Vk Vl Iw Vm : Value}
    {Ac : Addr} {Vn Vo : Option Addr} {Vp : Array (Option Value)} {Vq Vr Vs Vt Iy Vu : Value}
    {Ad : Addr} {Vv Vw : Option Addr} {Vx : Array (Option Value)} {Vy Vz VA VB Iz VC : Value}
    {Ae : Addr} {VD VE : Option Addr} {VF : Array (Option Value)} {VG VH VI VJ IA VL : Value}
    {Af : Addr} {VM VN : Option Addr} {VO : Array (Option Value)} {VP VQ VR VS IB VU : Value}
    {Ag : Addr} {VV VW : Option Addr} {VX : Array (Option Value)} {VY VZ V0 V1 IC V2 : Value}
    {Ah : Addr} {V3 V4 : Option Addr} {V5 : Array (Option Value)} {V6 V7 V8 V9 IE Wa : Value}
    {Ai : Addr} {Wb Wc : Option Addr} {Wd : Array (Option Value)} {We Wf Wg Wh IG Wi : Value}
    {Aj : Addr} {Wj Wk : Option Addr} {Wl : Array (Option Value)} {Wm Wn Wo Wq IH Wr : Value}
    {Ak : Addr} {Ws Wt : Option Addr} {Wu : Array (Option Value)} {Wv Ww Wx Wz II WB : Value}
    {Al : Addr} {WC WD : Option Addr} {WG : Array (Option Value)} {WH WK WL WN IJ WO : Value}
    {Am : Addr} {WQ WR : Option Addr} {WT : Array (Option Value)} {WU WV WW WX IK WY : Value}
    {An : Addr} {WZ W0 : Option Addr} {W2 : Array (Option Value)} {W3 W4 W5 W6 IL W7 : Value}
    {Ao : Addr} {W8 W9 : Option Addr} {Xa : Array (Option Value)} {Xb Xc Xd Xe IM Xf : Value}
    {Ap : Addr} {Xg Xh : Option Addr} {Xi : Array (Option Value)} {Xj Xk Xl Xm IP Xn : Value}
    {Aq : Addr} {Xo Xp : Option Addr} {Xq : Array (Option Value)} {Xr Xs Xu Xv IQ Xw : Value}
    {Ar : Addr} {Xx IT : Option Addr} {Xy : Array (Option Value)} {Xz IU IV IW yE IX : Value}
    {gt1 : Tok} {gt2 : Tok} {gt3 : Tok}
    (a1 : PySem.W.nsIn K mainGlobals "is_whole" = some (some (.ref f1)))
    (l1 : K.lookup f1 = some ⟨Zh,Ze,.func (PySem.W.fnOf "is_whole" "is_whole" (aX mn) (aI mn) (ak mn) .none Zi Zj Zk Zf JX JR),Zg⟩)
    (c1 : PySem.W.codeIn K JX "is_whole" = true)
    (k1 : PySem.W.keepIn K (.ref f1) = true)
    (a2 : PySem.W.nsIn K mainGlobals "common_part" = some (some (.ref f2)))
    (l2 : K.lookup f2 = some ⟨Zo,Zm,.func (PySem.W.fnOf "common_part" "common_part" (aX lM) (aI lM) (ak lM) .none Zq Zr Zt Zn JY Zu),y8⟩)
    (c2 : PySem.W.codeIn K JY "common_part" = true)
    (k2 : PySem.W.keepIn K (.ref f2) = true)
    (a3 : PySem.W.nsIn K mainGlobals "fraction" = some (some (.ref f3)))
    (l3 : K.lookup f3 = some ⟨Zx,Zv,.func (PySem.W.fnOf "fraction" "fraction" (aX gL) (aI gL) (ak gL) (.ref ui) zS zT zU zR uh zV),Zw⟩)
    (d3 : K.lookup ui = some ⟨Zy,Zz,.seq #[.int 1 JZ] ZA,ZC⟩)
    (c3 : PySem.W.codeIn K uh "fraction" = true)
    (k3 : PySem.W.keepIn K (.ref f3) = true)
    (a4 : PySem.W.nsIn K mainGlobals "plus" = some (some (.ref f4)))
    (l4 : K.lookup f4 = some ⟨ZG,ZD,.func (PySem.W.fnOf "plus" "plus" (aX m5) (aI m5) (ak m5) .none ZH ZI ZJ ZE J0 ZK),ZF⟩)
    (c4 : PySem.W.codeIn K J0 "plus" = true)
    (k4 : PySem.W.keepIn K (.ref f4) = true)
    (a5 : PySem.W.nsIn K mainGlobals "minus" = some (some (.ref f5)))
    (l5 : K.lookup f5 = some ⟨ZO,ZL,.func (PySem.W.fnOf "minus" "minus" (aX mN) (aI mN) (ak mN) .none ZP ZQ ZR ZM J1 ZS),ZN⟩)
    (c5 : PySem.W.codeIn K J1 "minus" = true)
    (k5 : PySem.W.keepIn K (.ref f5) = true)
    (a6 : PySem.W.nsIn K mainGlobals "times" = some (some (.ref f6)))
    (l6 : K.lookup f6 = some ⟨ZW,ZT,.func (PySem.W.fnOf "times" "times" (aX mO) (aI mO) (ak mO) .none ZX ZY ZZ ZU J4 Z0),ZV⟩)
    (c6 : PySem.W.codeIn K J4 "times" = true)
    (k6 : PySem.W.keepIn K (.ref f6) = true)
    (a7 : PySem.W.nsIn K mainGlobals "over" = some (some (.ref f7)))
    (l7 : K.lookup f7 = some ⟨Z4,Z1,.func (PySem.W.fnOf "over" "over" (aX m7) (aI m7) (ak m7) .none Z5 Z6 Z7 Z2 ud Z8),Z3⟩)
    (c7 : PySem.W.codeIn K ud "over" = true)
    (k7 : PySem.W.keepIn K (.ref f7) = true)
    (a8 : PySem.W.nsIn K mainGlobals "under" = some (some (.ref f8)))
    (l8 : K.lookup f8 = some ⟨oc8,Z9,.func (PySem.W.fnOf "under" "under" (aX mP) (aI mP) (ak mP) .none kV8 dc8 pm8 an8 J5 ct8),sl8⟩)
    (c8 : PySem.W.codeIn K J5 "under" = true)
    (k8 : PySem.W.keepIn K (.ref f8) = true)
    (a9 : PySem.W.nsIn K mainGlobals "sum_of" = some (some (.ref f9)))
    (l9 : K.lookup f9 = some ⟨oc9,od9,.func (PySem.W.fnOf "sum_of" "sum_of" (aX mH) (aI mH) (ak mH) .none kV9 dc9 pm9 an9 J6 ct9),sl9⟩)
    (c9 : PySem.W.codeIn K J6 "sum_of" = true)
    (k9 : PySem.W.keepIn K (.ref f9) = true)
    (kZ : PySem.W.nsIn K mainGlobals "least_of" = some (some (.ref zW)))
    (l10 : K.lookup zW = some ⟨TB,Tw,.func (PySem.W.fnOf "least_of" "least_of" (aX mw) (aI mw) (ak mw) .none TC TF TH Tx Ii TJ),Tz⟩)
    (As : PySem.W.codeIn K Ii "least_of" = true)
    (uj : PySem.W.keepIn K (.ref zW) = true)
    (Au : PySem.W.nsIn K mainGlobals "check_orders" = some (some (.ref zX)))
    (Av : K.lookup zX = some ⟨TR,TK,.func (PySem.W.fnOf "check_orders" "check_orders" (aX lJ) (aI lJ) (ak lJ) .none TU TV TX TL Ij TY),TQ⟩)
    (Aw : PySem.W.codeIn K Ij "check_orders" = true)
    (uk : PySem.W.keepIn K (.ref zX) = true)
    (Ax : PySem.W.nsIn K mainGlobals "table_of" = some (some (.ref zY)))
    (Ay : K.lookup zY = some ⟨T3,TZ,.func (PySem.W.fnOf "table_of" "table_of" (aX mq) (aI mq) (ak mq) .none T4 T5 T6 T1 Ik T7),T2⟩)
    (Az : PySem.W.codeIn K Ik "table_of" = true)
    (um : PySem.W.keepIn K (.ref zY) = true)
    (AA : PySem.W.nsIn K mainGlobals "full_order" = some (some (.ref zZ)))
    (AB : K.lookup zZ = some ⟨Ub,T8,.func (PySem.W.fnOf "full_order" "full_order" (aX lS) (aI lS) (ak lS) .none Uc Ud Ue T9 Il Ug),Ua⟩)
    (AD : PySem.W.codeIn K Il "full_order" = true)
    (uo : PySem.W.keepIn K (.ref zZ) = true)
    (AF : PySem.W.nsIn K mainGlobals "first_left" = some (some (.ref z4)))
    (AG : K.lookup z4 = some ⟨Uk,Uh,.func (PySem.W.fnOf "first_left" "first_left" (aX lU) (aI lU) (ak lU) .none Ul Um Uo Ui Im Up),Uj⟩)
    (AH : PySem.W.codeIn K Im "first_left" = true)
    (uq : PySem.W.keepIn K (.ref z4) = true)
    (AI : PySem.W.nsIn K mainGlobals "next_length" = some (some (.ref z5)))
    (AJ : K.lookup z5 = some ⟨Ut,Uq,.func (PySem.W.fnOf "next_length" "next_length" (aX lO) (aI lO) (ak lO) .none Uu Uv Uw Ur Io Ux),Us⟩)
    (AK : PySem.W.codeIn K Io "next_length" = true)
    (ur : PySem.W.keepIn K (.ref z5) = true)
    (AO : PySem.W.nsIn K mainGlobals "left_behind" = some (some (.ref z6)))
    (AQ : K.lookup z6 = some ⟨UB,Uy,.func (PySem.W.fnOf "left_behind" "left_behind" (aX lP) (aI lP) (ak lP) .none UC UD UE Uz Ip UG),UA⟩)
    (c16 : PySem.W.codeIn K Ip "left_behind" = true)
    (uv : PySem.W.keepIn K (.ref z6) = true)
    (AR : PySem.W.nsIn K mainGlobals "ended_things" = some (some (.ref z7)))
    (AU : K.lookup z7 = some ⟨UK,UH,.func (PySem.W.fnOf "ended_things" "ended_things" (aX lL) (aI lL) (ak lL) .none UL UM UN UI Iq UO),UJ⟩)
    (AV : PySem.W.codeIn K Iq "ended_things" = true)
    (uw : PySem.W.keepIn K (.ref z7) = true)
    (AW : PySem.W.nsIn K mainGlobals "meal_steps" = some (some (.ref z8)))
    (AX : K.lookup z8 = some ⟨UT,UP,.func (PySem.W.fnOf "meal_steps" "meal_steps" (aX lX) (aI lX) (ak lX) .none UU UW UX UQ Ir UY),UR⟩)
    (AY : PySem.W.codeIn K Ir "meal_steps" = true)
    (ux : PySem.W.keepIn K (.ref z8) = true)
    (AZ : PySem.W.nsIn K mainGlobals "eaten_by" = some (some (.ref z9)))
    (A0 : K.lookup z9 = some ⟨U2,UZ,.func (PySem.W.fnOf "eaten_by" "eaten_by" (aX mz) (aI mz) (ak mz) .none U3 U4 U5 U0 Iu U6),U1⟩)
    (A3 : PySem.W.codeIn K Iu "eaten_by" = true)
    (uy : PySem.W.keepIn K (.ref z9) = true)
    (A4 : PySem.W.nsIn K mainGlobals "meal" = some (some (.ref Aa)))
    (A5 : K.lookup Aa = some ⟨Va,U7,.func (PySem.W.fnOf "meal" "meal" (aX m8) (aI m8) (ak m8) .none Vb Vc Vd U8 Iv Ve),U9⟩)
    (A6 : PySem.W.codeIn K Iv "meal" = true)
    (uz : PySem.W.keepIn K (.ref Aa) = true)
    (A7 : PySem.W.nsIn K mainGlobals "weight_of" = some (some (.ref Ab)))
    (A8 : K.lookup Ab = some ⟨Vi,Vf,.func (PySem.W.fnOf "weight_of" "weight_of" (aX lZ) (aI lZ) (ak lZ) .none Vj Vk Vl Vg Iw Vm),Vh⟩)
    (A9 : PySem.W.codeIn K Iw "weight_of" = true)
    (uA : PySem.W.keepIn K (.ref Ab) = true)
    (Ba : PySem.W.nsIn K mainGlobals "shares_of" = some (some (.ref Ac)))
    (Bb : K.lookup Ac = some ⟨Vq,Vn,.func (PySem.W.fnOf "shares_of" "shares_of" (aX md) (aI md) (ak md) .none Vr Vs Vt Vo Iy Vu),Vp⟩)
    (Bc : PySem.W.codeIn K Iy "shares_of" = true)
    (uB : PySem.W.keepIn K (.ref Ac) = true)
    (Bd : PySem.W.nsIn K mainGlobals "deal_by" = some (some (.ref Ad)))
    (Be : K.lookup Ad = some ⟨Vy,Vv,.func (PySem.W.fnOf "deal_by" "deal_by" (aX mB) (aI mB) (ak mB) .none Vz VA VB Vw Iz VC),Vx⟩)
    (Bf : PySem.W.codeIn K Iz "deal_by" = true)
    (uC : PySem.W.keepIn K (.ref Ad) = true)
    (Bg : PySem.W.nsIn K mainGlobals "longer" = some (some (.ref Ae)))
    (Bh : K.lookup Ae = some ⟨VG,VD,.func (PySem.W.fnOf "longer" "longer" (aX mG) (aI mG) (ak mG) .none VH VI VJ VE IA VL),VF⟩)
    (Bi : PySem.W.codeIn K IA "longer" = true)
    (uD : PySem.W.keepIn K (.ref Ae) = true)
    (Bj : PySem.W.nsIn K mainGlobals "all_turns" = some (some (.ref Af)))
    (Bk : K.lookup Af = some ⟨VP,VM,.func (PySem.W.fnOf "all_turns" "all_turns" (aX lY) (aI lY) (ak lY) .none VQ VR VS VN IB VU),VO⟩)
    (Bl : PySem.W.codeIn K IB "all_turns" = true)
    (uF : PySem.W.keepIn K (.ref Af) = true)
    (Bm : PySem.W.nsIn K mainGlobals "turn_mix" = some (some (.ref Ag)))
    (Bn : K.lookup Ag = some ⟨VY,VV,.func (PySem.W.fnOf "turn_mix" "turn_mix" (aX bZ) (aI bZ) (ak bZ) .none VZ V0 V1 VW IC V2),VX⟩)
    (Bo : PySem.W.codeIn K IC "turn_mix" = true)
    (uG : PySem.W.keepIn K (.ref Ag) = true)
    (Bp : PySem.W.nsIn K mainGlobals "turn_shares" = some (some (.ref Ah)))
    (Bq : K.lookup Ah = some ⟨V6,V3,.func (PySem.W.fnOf "turn_shares" "turn_shares" (aX lN) (aI lN) (ak lN) .none V7 V8 V9 V4 IE Wa),V5⟩)
    (Br : PySem.W.codeIn K IE "turn_shares" = true)
    (uH : PySem.W.keepIn K (.ref Ah) = true)
    (Bs : PySem.W.nsIn K mainGlobals "check_asker" = some (some (.ref Ai)))
    (Bt : K.lookup Ai = some ⟨We,Wb,.func (PySem.W.fnOf "check_asker" "check_asker" (aX lQ) (aI lQ) (ak lQ) .none Wf Wg Wh Wc IG Wi),Wd⟩)
    (Bu : PySem.W.codeIn K IG "check_asker" = true)
    (uI : PySem.W.keepIn K (.ref Ai) = true)
    (Bv : PySem.W.nsIn K mainGlobals "told_otherwise" = some (some (.ref Aj)))
    (Bw : K.lookup Aj = some ⟨Wm,Wj,.func (PySem.W.fnOf "told_otherwise" "told_otherwise" (aX lH) (aI lH) (ak lH) .none Wn Wo Wq Wk IH Wr),Wl⟩)
    (Bx : PySem.W.codeIn K IH "told_otherwise" = true)
    (uJ : PySem.W.keepIn K (.ref Aj) = true)
    (By : PySem.W.nsIn K mainGlobals "_law_cell_at" = some (some (.ref Ak)))
    (Bz : K.lookup Ak = some ⟨Wv,Ws,.func (PySem.W.fnOf "_law_cell_at" "_law_cell_at" (aX lK) (aI lK) (ak lK) .none Ww Wx Wz Wt II WB),Wu⟩)
    (BA : PySem.W.codeIn K II "_law_cell_at" = true)
    (uK : PySem.W.keepIn K (.ref Ak) = true)
    (BC : PySem.W.nsIn K mainGlobals "_law_order" = some (some (.ref Al)))
    (BD : K.lookup Al = some ⟨WH,WC,.func (PySem.W.fnOf "_law_order" "_law_order" (aX lV) (aI lV) (ak lV) .none WK WL WN WD IJ WO),WG⟩)
    (BE : PySem.W.codeIn K IJ "_law_order" = true)
    (uM : PySem.W.keepIn K (.ref Al) = true)
    (BF : PySem.W.nsIn K mainGlobals "_law_table" = some (some (.ref Am)))
    (BG : K.lookup Am = some ⟨WU,WQ,.func (PySem.W.fnOf "_law_table" "_law_table" (aX lW) (aI lW) (ak lW) .none WV WW WX WR IK WY),WT⟩)
    (BH : PySem.W.codeIn K IK "_law_table" = true)
    (uN : PySem.W.keepIn K (.ref Am) = true)
    (BI : PySem.W.nsIn K mainGlobals "_law_full" = some (some (.ref An)))
    (BJ : K.lookup An = some ⟨W3,WZ,.func (PySem.W.fnOf "_law_full" "_law_full" (aX me) (aI me) (ak me) .none W4 W5 W6 W0 IL W7),W2⟩)
    (BK : PySem.W.codeIn K IL "_law_full" = true)
    (uO : PySem.W.keepIn K (.ref An) = true)
    (BL : PySem.W.nsIn K mainGlobals "_law_sums" = some (some (.ref Ao)))
    (BM : K.lookup Ao = some ⟨Xb,W8,.func (PySem.W.fnOf "_law_sums" "_law_sums" (aX mh) (aI mh) (ak mh) .none Xc Xd Xe W9 IM Xf),Xa⟩)
    (BO : PySem.W.codeIn K IM "_law_sums" = true)
    (uQ : PySem.W.keepIn K (.ref Ao) = true)
    (BP : PySem.W.nsIn K mainGlobals "_law_differences" = some (some (.ref Ap)))
    (BQ : K.lookup Ap = some ⟨Xj,Xg,.func (PySem.W.fnOf "_law_differences" "_law_differences" (aX lF) (aI lF) (ak lF) .none Xk Xl Xm Xh IP Xn),Xi⟩)
    (BR : PySem.W.codeIn K IP "_law_differences" = true)
    (uR : PySem.W.keepIn K (.ref Ap) = true)
    (BU : PySem.W.nsIn K mainGlobals "_law_right" = some (some (.ref Aq)))
    (BV : K.lookup Aq = some ⟨Xr,Xo,.func (PySem.W.fnOf "_law_right" "_law_right" (aX fZ) (aI fZ) (ak fZ) .none Xs Xu Xv Xp IQ Xw),Xq⟩)
    (BW : PySem.W.codeIn K IQ "_law_right" = true)
    (uU : PySem.W.keepIn K (.ref Aq) = true)
    (BX : PySem.W.nsIn K mainGlobals "law" = some (some (.ref Ar)))
    (BZ : K.lookup Ar = some ⟨Xz,Xx,.func (PySem.W.fnOf "law" "law" (aX e8) (aI e8) (ak e8) .none IU IV IW IT yE IX),Xy⟩)
    (B3 : PySem.W.codeIn K yE "law" = true)
    (B4 : PySem.W.keepIn K (.ref Ar) = true)
    (va : PySem.W.nsIn K mainGlobals "isinstance" = some none)
    (xM : PySem.W.nsIn K mainGlobals "int" = some none)
    (xq : PySem.W.nsIn K mainGlobals "bool" = some none)
    (xr : PySem.W.nsIn K mainGlobals "list" = some none)
    (wB : PySem.W.nsIn K mainGlobals "tuple" = some none)
    (xN : PySem.W.nsIn K mainGlobals "len" = some none)
    (wC : PySem.W.nsIn K mainGlobals "range" = some none)
    (xO : PySem.W.nsIn K mainGlobals "zip" = some none)
    (vd : PySem.W.nsIn K mainGlobals "enumerate" = some none)
    (vV : PySem.W.nsIn K mainGlobals "sorted" = some none)
    (xP : PySem.W.nsIn K mainGlobals "abs" = some none)
    (xQ : PySem.W.nsIn K mainGlobals "sum" = some none)
    (xR : PySem.W.nsIn K mainGlobals "max" = some none)
    (xS : PySem.W.nsIn K mainGlobals "min" = some none)
    (xT : PySem.W.nsIn K mainGlobals "all" = some none)
    (xU : PySem.W.nsIn K mainGlobals "any" = some none)
    (xV : PySem.W.nsIn K mainGlobals "set" = some none)
    (oi : PySem.W.nsIn K mainGlobals "MOST_TURNS" = some (some (.int 5 gt1)))
    (pB : PySem.W.nsIn K mainGlobals "MOST" = some (some (.int 6 gt2)))
    (oj : PySem.W.nsIn K mainGlobals "MOST_COUNT" = some (some (.int 9 gt3)))
    : ∃ fd : FuncData,(∀ (s : Shared) (v : Value),BindsTo s fd ⟨[v],[]⟩ [("_law_script",v)]) /\ ∀ base : Heap,K.In base -> base.Ns mainGlobals mg -> aR l.prog w K mg base au 9 fa fd ["_law_script"] (sM K) := by
  have e := Zd.symm.trans (PySem.W.mg_of X G BX)
  cases e
  have T : Txt mg := ⟨PySem.W.mg_none_of X G va,PySem.W.mg_none_of X G xM,PySem.W.mg_none_of X G xq,PySem.W.mg_none_of X G xr,PySem.W.mg_none_of X G wB,PySem.W.mg_none_of X G xN,PySem.W.mg_none_of X G wC,PySem.W.mg_none_of X G xO,PySem.W.mg_none_of X G vd,PySem.W.mg_none_of X G vV,PySem.W.mg_none_of X G xP,PySem.W.mg_none_of X G xQ,PySem.W.mg_none_of X G xR,PySem.W.mg_none_of X G xS,PySem.W.mg_none_of X G xT,PySem.W.mg_none_of X G xU,PySem.W.mg_none_of X G xV,⟨_,PySem.W.mg_of X G oi⟩,⟨_,PySem.W.mg_of X G pB⟩,⟨_,PySem.W.mg_of X G oj⟩⟩
  have F1 := bE (st := mn) l1 c1 k1
  have b1 := F1.binds (ps := ["number"]) fun _ _ _ _ _ _ us hl => by
    obtain ⟨_,rfl⟩ := jE hl
    rfl
  have F2 := bE (st := lM) l2 c2 k2
  have b2 := F2.binds (ps := ["one", "other"]) fun _ _ _ _ _ _ us hl => by
    obtain ⟨_,_,rfl⟩ := d9 hl
    rfl
  have F3 := Pg (st := gL) l3 c3 k3
  have b3 : Binds K _ ["top", "bottom"] [] := fun s us hK hl => match us,hl with | [u,v],_ => PySem.W.binds_K (fd := PySem.W.fnOf "fraction" "fraction" (aX gL) (aI gL) (ak gL) (.ref ui) zS zT zU zR uh zV) hK rfl d3 rfl rfl rfl
  have qZ : Binds K _ ["top", "bottom"] [.int 1 JZ] := fun s us hK hl => by
    cases us with
    | nil => exact absurd hl (by simp)
    | cons u0 r0 =>
      cases r0 with
      | nil => exact PySem.W.binds_K (fd := PySem.W.fnOf "fraction" "fraction" (aX gL) (aI gL) (ak gL) (.ref ui) zS zT zU zR uh zV) hK rfl d3 rfl rfl rfl
      | cons _ _ => exact absurd hl (by simp only [List.length_append,List.length_cons,List.length_nil]; omega)
  have F4 := bE (st := m5) l4 c4 k4
  have b4 := F4.binds (ps := ["one", "other"]) fun _ _ _ _ _ _ us hl => by
    obtain ⟨_,_,rfl⟩ := d9 hl
    rfl
  have F5 := bE (st := mN) l5 c5 k5
  have b5 := F5.binds (ps := ["one", "other"]) fun _ _ _ _ _ _ us hl => by
    obtain ⟨_,_,rfl⟩ := d9 hl
    rfl
  have F6 := bE (st := mO) l6 c6 k6
  have b6 := F6.binds (ps := ["one", "other"]) fun _ _ _ _ _ _ us hl => by
    obtain ⟨_,_,rfl⟩ := d9 hl
    rfl
  have F7 := bE (st := m7) l7 c7 k7
  have b7 := F7.binds (ps := ["one", "other"]) fun _ _ _ _ _ _ us hl => by
    obtain ⟨_,_,rfl⟩ := d9 hl
    rfl
  have F8 := bE (st := mP) l8 c8 k8
  have b8 := F8.binds (ps := ["one", "other"]) fun _ _ _ _ _ _ us hl => by
    obtain ⟨_,_,rfl⟩ := d9 hl
    rfl
  have F9 := bE (st := mH) l9 c9 k9
  have b9 := F9.binds (ps := ["some"]) fun _ _ _ _ _ _ us hl => by
    obtain ⟨_,rfl⟩ := jE hl
    rfl
  have J7 := bE (st := mw) l10 As uj
  have b10 := J7.binds (ps := ["some"]) fun _ _ _ _ _ _ us hl => by
    obtain ⟨_,rfl⟩ := jE hl
    rfl
  have J8 := bE (st := lJ) Av Aw uk
  have b11 := J8.binds (ps := ["orders", "many"]) fun _ _ _ _ _ _ us hl => by
    obtain ⟨_,_,rfl⟩ := d9 hl
    rfl
  have J9 := bE (st := mq) Ay Az um
  have b12 := J9.binds (ps := ["counts", "orders"]) fun _ _ _ _ _ _ us hl => by
    obtain ⟨_,_,rfl⟩ := d9 hl
    rfl
  have Ka := bE (st := lS) AB AD uo
  have b13 := Ka.binds (ps := ["table", "asker"]) fun _ _ _ _ _ _ us hl => by
    obtain ⟨_,_,rfl⟩ := d9 hl
    rfl
  have Kb := bE (st := lU) AG AH uq
  have b14 := Kb.binds (ps := ["order", "gone"]) fun _ _ _ _ _ _ us hl => by
    obtain ⟨_,_,rfl⟩ := d9 hl
    rfl
  have Kc := bE (st := lO) AJ AK ur
  have b15 := Kc.binds (ps := ["left", "eaten", "time_left"]) fun _ _ _ _ _ _ us hl => by
    obtain ⟨_,_,_,rfl⟩ := oa hl
    rfl
  have Ke := bE (st := lP) AQ c16 uv
  have b16 := Ke.binds (ps := ["left", "eaten", "length"]) fun _ _ _ _ _ _ us hl => by
    obtain ⟨_,_,_,rfl⟩ := oa hl
    rfl
  have Kf := bE (st := lL) AU AV uw
  have b17 := Kf.binds (ps := ["left"]) fun _ _ _ _ _ _ us hl => by
    obtain ⟨_,rfl⟩ := jE hl
    rfl
  have Kg := bE (st := lX) AX AY ux
  have b18 := Kg.binds (ps := ["table"]) fun _ _ _ _ _ _ us hl => by
    obtain ⟨_,rfl⟩ := jE hl
    rfl
  have Kh := bE (st := mz) A0 A3 uy
  have b19 := Kh.binds (ps := ["steps", "asker", "one"]) fun _ _ _ _ _ _ us hl => by
    obtain ⟨_,_,_,rfl⟩ := oa hl
    rfl
  have Ki := bE (st := m8) A5 A6 uz
  have b20 := Ki.binds (ps := ["table"]) fun _ _ _ _ _ _ us hl => by
    obtain ⟨_,rfl⟩ := jE hl
    rfl
  have Kj := bE (st := lZ) A8 A9 uA
  have b21 := Kj.binds (ps := ["mix", "asker", "one"]) fun _ _ _ _ _ _ us hl => by
    obtain ⟨_,_,_,rfl⟩ := oa hl
    rfl
  have Kk := bE (st := md) Bb Bc uB
  have b22 := Kk.binds (ps := ["counts", "mix"]) fun _ _ _ _ _ _ us hl => by
    obtain ⟨_,_,rfl⟩ := d9 hl
    rfl
  have Kl := bE (st := mB) Be Bf uC
  have b23 := Kl.binds (ps := ["table", "turns"]) fun _ _ _ _ _ _ us hl => by
    obtain ⟨_,_,rfl⟩ := d9 hl
    rfl
  have Km := bE (st := mG) Bh Bi uD
  have b24 := Km.binds (ps := ["lists", "many"]) fun _ _ _ _ _ _ us hl => by
    obtain ⟨_,_,rfl⟩ := d9 hl
    rfl
  have Ko := bE (st := lY) Bk Bl uF
  have b25 := Ko.binds (ps := ["many"]) fun _ _ _ _ _ _ us hl => by
    obtain ⟨_,rfl⟩ := jE hl
    rfl
  have Kp := bE (st := bZ) Bn Bo uG
  have b26 := Kp.binds (ps := ["table"]) fun _ _ _ _ _ _ us hl => by
    obtain ⟨_,rfl⟩ := jE hl
    rfl
  have Kq := bE (st := lN) Bq Br uH
  have b27 := Kq.binds (ps := ["table"]) fun _ _ _ _ _ _ us hl => by
    obtain ⟨_,rfl⟩ := jE hl
    rfl
  have Kr := bE (st := lQ) Bt Bu uI
  have b28 := Kr.binds (ps := ["table", "asker"]) fun _ _ _ _ _ _ us hl => by
    obtain ⟨_,_,rfl⟩ := d9 hl
    rfl
  have Ks := bE (st := lH) Bw Bx uJ
  have b29 := Ks.binds (ps := ["table", "asker", "order"]) fun _ _ _ _ _ _ us hl => by
    obtain ⟨_,_,_,rfl⟩ := oa hl
    rfl
  have Kt := bE (st := lK) Bz BA uK
  have b30 := Kt.binds (ps := ["_law_script", "_law_k"]) fun _ _ _ _ _ _ us hl => by
    obtain ⟨_,_,rfl⟩ := d9 hl
    rfl
  have Ku := bE (st := lV) BD BE uM
  have b31 := Ku.binds (ps := ["_law_cell", "_law_many"]) fun _ _ _ _ _ _ us hl => by
    obtain ⟨_,_,rfl⟩ := d9 hl
    rfl
  have Kw := bE (st := lW) BG BH uN
  have b32 := Kw.binds (ps := ["_law_script", "_law_start", "_law_things", "_law_askers"]) fun _ _ _ _ _ _ us hl => by
    obtain ⟨_,_,_,_,rfl⟩ := Zb hl
    rfl
  have Kx := bE (st := me) BJ BK uO
  have b33 := Kx.binds (ps := ["_law_table_here", "_law_asker"]) fun _ _ _ _ _ _ us hl => by
    obtain ⟨_,_,rfl⟩ := d9 hl
    rfl
  have Ky := bE (st := mh) BM BO uQ
  have b34 := Ky.binds (ps := ["_law_table_here", "_law_asker", "_law_row"]) fun _ _ _ _ _ _ us hl => by
    obtain ⟨_,_,_,rfl⟩ := oa hl
    rfl
  have Kz := bE (st := lF) BQ BR uR
  have b35 := Kz.binds (ps := ["_law_some", "_law_others"]) fun _ _ _ _ _ _ us hl => by
    obtain ⟨_,_,rfl⟩ := d9 hl
    rfl
  have KA := bE (st := fZ) BV BW uU
  have b36 := KA.binds (ps := ["_law_table_here", "_law_asker", "_law_order_here", "_law_first", "_law_way"]) fun _ _ _ _ _ _ us hl => by
    obtain ⟨_,_,_,_,_,rfl⟩ := Zc hl
    rfl
  have F37 := bE (st := e8) BZ B3 B4
  refine ⟨PySem.W.fnOf "law" "law" (aX e8) (aI e8) (ak e8) .none IU IV IW IT yE IX,fun s v => .of_eq rfl,fun base _ _ => ?_⟩
  have K1 := Kn.mk (base := base) (P := l.prog) (w := w) (Ml (k := 0) F1 T ) (PySem.W.mg_of X G a1) k1 b1
  have K2 := Kn.mk (base := base) (P := l.prog) (w := w) (KZ (k := 0) F2 T ) (PySem.W.mg_of X G a2) k2 b2
  have K3 := Kn.mk (base := base) (P := l.prog) (w := w) (Mm (k := 0) F3 T K1 K2) (PySem.W.mg_of X G a3) k3 b3
  have K4 := Kn.mk (base := base) (P := l.prog) (w := w) (Qr (k := 0) F4 T K3) (PySem.W.mg_of X G a4) k4 b4
  have K5 := Kn.mk (base := base) (P := l.prog) (w := w) (OC (k := 0) F5 T K3) (PySem.W.mg_of X G a5) k5 b5
  have K6 := Kn.mk (base := base) (P := l.prog) (w := w) (OG (k := 0) F6 T K3) (PySem.W.mg_of X G a6) k6 b6
  have K7 := Kn.mk (base := base) (P := l.prog) (w := w) (Qy (k := 0) F7 T K3) (PySem.W.mg_of X G a7) k7 b7
  have K8 := Kn.mk (base := base) (P := l.prog) (w := w) (OI (k := 0) F8 T ) (PySem.W.mg_of X G a8) k8 b8
  have K9 := Kn.mk (base := base) (P := l.prog) (w := w) (NA (k := 0) F9 T K3 qZ K4) (PySem.W.mg_of X G a9) k9 b9
  have K10 := Kn.mk (base := base) (P := l.prog) (w := w) (Mw (k := 0) J7 T K8) (PySem.W.mg_of X G kZ) uj b10
  have K11 := Kn.mk (base := base) (P := l.prog) (w := w) (KQ (k := 0) J8 T ) (PySem.W.mg_of X G Au) uk b11
  have K12 := Kn.mk (base := base) (P := l.prog) (w := w) (Mp (k := 0) J9 T K11) (PySem.W.mg_of X G Ax) um b12
  have KC := Kn.mk (base := base) (P := l.prog) (w := w) (Lw (k := 0) Ka T ) (PySem.W.mg_of X G AA) uo b13
  have KD := Kn.mk (base := base) (P := l.prog) (w := w) (Ly (k := 0) Kb T ) (PySem.W.mg_of X G AF) uq b14
  have K15 := Kn.mk (base := base) (P := l.prog) (w := w) (Ld (k := 0) Kc T K3 qZ K7 K10) (PySem.W.mg_of X G AI) ur b15
  have K16 := Kn.mk (base := base) (P := l.prog) (w := w) (Lf (k := 0) Ke T K3 qZ K5 K6) (PySem.W.mg_of X G AO) uv b16
  have K17 := Kn.mk (base := base) (P := l.prog) (w := w) (KW (k := 0) Kf T K3 qZ) (PySem.W.mg_of X G AR) uw b17
  have K18 := Kn.mk (base := base) (P := l.prog) (w := w) (LD (k := 0) Kg T K3 qZ K5 KC KD K15 K16 K17) (PySem.W.mg_of X G AW) ux b18
  have K19 := Kn.mk (base := base) (P := l.prog) (w := w) (My (k := 0) Kh T K9) (PySem.W.mg_of X G AZ) uy b19
  have KG := Kn.mk (base := base) (P := l.prog) (w := w) (QC (k := 0) Ki T K18 K19) (PySem.W.mg_of X G A4) uz b20
  have K21 := Kn.mk (base := base) (P := l.prog) (w := w) (L3 (k := 0) Kj T K9) (PySem.W.mg_of X G A7) uA b21
  have K22 := Kn.mk (base := base) (P := l.prog) (w := w) (L4 (k := 0) Kk T K21) (PySem.W.mg_of X G Ba) uB b22
  have K23 := Kn.mk (base := base) (P := l.prog) (w := w) (ML (k := 0) Kl T KC KD) (PySem.W.mg_of X G Bd) uC b23
  have K24 := Kn.mk (base := base) (P := l.prog) (w := w) (Nv (k := 0) Km T ) (PySem.W.mg_of X G Bg) uD b24
  have K25 := Kn.mk (base := base) (P := l.prog) (w := w) (LY (k := 0) Ko T K24) (PySem.W.mg_of X G Bj) uF b25
  have K26 := Kn.mk (base := base) (P := l.prog) (w := w) (Ms (k := 0) Kp T K25 K23 K3) (PySem.W.mg_of X G Bm) uG b26
  have KH := Kn.mk (base := base) (P := l.prog) (w := w) (Lb (k := 0) Kq T K22 K26) (PySem.W.mg_of X G Bp) uH b27
  have K28 := Kn.mk (base := base) (P := l.prog) (w := w) (Lh (k := 0) Kr T ) (PySem.W.mg_of X G Bs) uI b28
  have K29 := Kn.mk (base := base) (P := l.prog) (w := w) (KN (k := 0) Ks T K28 K12) (PySem.W.mg_of X G Bv) uJ b29
  have K30 := Kn.mk (base := base) (P := l.prog) (w := w) (KS (k := 0) Kt T ) (PySem.W.mg_of X G By) uK b30
  have KI := Kn.mk (base := base) (P := l.prog) (w := w) (LA (k := 0) Ku T ) (PySem.W.mg_of X G BC) uM b31
  have K32 := Kn.mk (base := base) (P := l.prog) (w := w) (LC (k := 0) Kw T K30 KI) (PySem.W.mg_of X G BF) uN b32
  have K33 := Kn.mk (base := base) (P := l.prog) (w := w) (L7 (k := 0) Kx T ) (PySem.W.mg_of X G BI) uO b33
  have K34 := Kn.mk (base := base) (P := l.prog) (w := w) (L8 (k := 0) Ky T K33) (PySem.W.mg_of X G BL) uQ b34
  have K35 := Kn.mk (base := base) (P := l.prog) (w := w) (KJ (k := 0) Kz T ) (PySem.W.mg_of X G BP) uR b35
  have K36 := Kn.mk (base := base) (P := l.prog) (w := w) (LL (k := 0) KA T K29 KH KG K34 K35) (PySem.W.mg_of X G BU) uU b36
  exact Rf (R4 (k := 0) F37 T K32 KG KH KI K36)
theorem walk {l : PySem.W.OpenLaw} {q : Program} {loose : List Str} {XP : (Str -> Option Value) -> Heap -> Prop} {YP : World -> Heap -> Prop} {d : DefRec} {K : Params -> PySem.W.Frag} (hn : l.most = some 63) (qo : d.params.defaults = [])
    (hY : ∀ (w : World) (h : Heap),YP w h -> (K w.params).In h)
    (F : ∀ (w : World) (mg : Str -> Option Value) (fa : Addr) (h : Heap),(K w.params).In h -> h.Ns mainGlobals mg -> mg d.name = some (.ref fa) ->
      ∃ fd : FuncData,(∀ (s : Shared) (u : Value),BindsTo s fd ⟨[u],[]⟩ [("_law_script",u)]) /\ ∀ base : Heap,(K w.params).In base -> base.Ns mainGlobals mg -> aR l.prog w (K w.params) mg base au 9 fa fd ["_law_script"] (sM (K w.params))) :
    PySem.W.WalkO q loose XP YP l.row.toRowW d [] (fun f vs => PySem.call f vs) :=
  L2.O8 (n := 63) (k := 9) (x := "_law_script") (CX := fun _ => au) (sp := fun w => sM (K w.params)) hn (by decide) qo ⟨rfl,by decide,by decide⟩ hY F (fun _ _ a ns hl _ hS => ⟨a,ns,rfl,hS,hl,fun _ => rfl⟩) fun _ _ _ _ _ z => z
end bH
open PySem PySem.W PyProof.Rows
set_option maxRecDepth 100000 in
set_option maxHeartbeats 0 in
theorem PySem.Challenge.cw_lotmeal_k94_whole_no_lie_is_better_holds : PySem.Challenge.rw_lotmeal_k94_whole_no_lie_is_better.Holds := by
  w_on; o_law
  refine holds_open (q := fR.hV) (loose := ["fraction"]) (Xt := fR.hX) (XP := XL fR.hV []) (Yf := (kHook fR.hK fR.hA fR.sF).obs) (Ya := (kHook fR.hK fR.hA fR.sF).val) (YP := (kHook fR.hK fR.hA fR.sF).says) fR.hL (Hook.of _) (Hook.keeps _) (fun s e => xl_of s (Bool.and_eq_true_iff.mp e).1) XL.keeps (by rfl) (by rfl) (by rfl) (fun s e => recFacts_of (Bool.and_eq_true_iff.mp e).2) (by rfl) (by first | assumption | decide +kernel) (by decide +kernel) ⟨rfl,rfl,rfl,rfl,rfl,by decide +kernel⟩ ?hw ?hc
  case hw => w_witness2
  k_fill
  refine bH.walk (l := PySem.Challenge.rw_lotmeal_k94_whole_no_lie_is_better) rfl rfl (fun w h Y => PySem.W.kIn_of Y) ?F
  case F =>
    intro w mg fa h KX G qu
    refine' bH.all_mk KX G qu ?a1 ?l1 ?c1 ?k1 ?a2 ?l2 ?c2 ?k2 ?a3 ?l3 ?d3 ?c3 ?k3 ?a4 ?l4 ?c4 ?k4 ?a5 ?l5 ?c5 ?k5 ?a6 ?l6 ?c6 ?k6 ?a7 ?l7 ?c7 ?k7 ?a8 ?l8 ?c8 ?k8 ?a9 ?l9 ?c9 ?k9 ?kZ ?l10 ?As ?uj ?Au ?Av ?Aw ?uk ?Ax ?Ay ?Az ?um ?AA ?AB ?AD ?uo ?AF ?AG ?AH ?uq ?AI ?AJ ?AK ?ur ?AO ?AQ ?c16 ?uv ?AR ?AU ?AV ?uw ?AW ?AX ?AY ?ux ?AZ ?A0 ?A3 ?uy ?A4 ?A5 ?A6 ?uz ?A7 ?A8 ?A9 ?uA ?Ba ?Bb ?Bc ?uB ?Bd ?Be ?Bf ?uC ?Bg ?Bh ?Bi ?uD ?Bj ?Bk ?Bl ?uF ?Bm ?Bn ?Bo ?uG ?Bp ?Bq ?Br ?uH ?Bs ?Bt ?Bu ?uI ?Bv ?Bw ?Bx ?uJ ?By ?Bz ?BA ?uK ?BC ?BD ?BE ?uM ?BF ?BG ?BH ?uN ?BI ?BJ ?BK ?uO ?BL ?BM ?BO ?uQ ?BP ?BQ ?BR ?uR ?BU ?BV ?BW ?uU ?BX ?BZ ?B3 ?B4 ?va ?xM ?xq ?xr ?wB ?xN ?wC ?xO ?vd ?vV ?xP ?xQ ?xR ?xS ?xT ?xU ?xV ?oi ?pB ?oj
    (case a1 => k_is)
    (case l1 => k_is)
    (case c1 => k_is)
    (case k1 => k_is)
    (case a2 => k_is)
    (case l2 => k_is)
    (case c2 => k_is)
    (case k2 => k_is)
    (case a3 => k_is)
    (case l3 => k_is)
    (case d3 => k_is)
    (case c3 => k_is)
    (case k3 => k_is)
    (case a4 => k_is)
    (case l4 => k_is)
    (case c4 => k_is)
    (case k4 => k_is)
    (case a5 => k_is)
    (case l5 => k_is)
    (case c5 => k_is)
    (case k5 => k_is)
    (case a6 => k_is)
    (case l6 => k_is)
    (case c6 => k_is)
    (case k6 => k_is)
    (case a7 => k_is)
    (case l7 => k_is)
    (case c7 => k_is)
    (case k7 => k_is)
    (case a8 => k_is)
    (case l8 => k_is)
    (case c8 => k_is)
    (case k8 => k_is)
    (case a9 => k_is)
    (case l9 => k_is)
    (case c9 => k_is)
    (case k9 => k_is)
    (case kZ => k_is)
    (case l10 => k_is)
    (case As => k_is)
    (case uj => k_is)
    (case Au => k_is)
    (case Av => k_is)
    (case Aw => k_is)
    (case uk => k_is)
    (case Ax => k_is)
    (case Ay => k_is)
    (case Az => k_is)
    (case um => k_is)
    (case AA => k_is)
    (case AB => k_is)
    (case AD => k_is)
    (case uo => k_is)
    (case AF => k_is)
    (case AG => k_is)
    (case AH => k_is)
    (case uq => k_is)
    (case AI => k_is)
    (case AJ => k_is)
    (case AK => k_is)
    (case ur => k_is)
    (case AO => k_is)
    (case AQ => k_is)
    (case c16 => k_is)
    (case uv => k_is)
    (case AR => k_is)
    (case AU => k_is)
    (case AV => k_is)
    (case uw => k_is)
    (case AW => k_is)
    (case AX => k_is)
    (case AY => k_is)
    (case ux => k_is)
    (case AZ => k_is)
    (case A0 => k_is)
    (case A3 => k_is)
    (case uy => k_is)
    (case A4 => k_is)
    (case A5 => k_is)
    (case A6 => k_is)
    (case uz => k_is)
    (case A7 => k_is)
    (case A8 => k_is)
    (case A9 => k_is)
    (case uA => k_is)
    (case Ba => k_is)
    (case Bb => k_is)
    (case Bc => k_is)
    (case uB => k_is)
    (case Bd => k_is)
    (case Be => k_is)
    (case Bf => k_is)
    (case uC => k_is)
    (case Bg => k_is)
    (case Bh => k_is)
    (case Bi => k_is)
    (case uD => k_is)
    (case Bj => k_is)
    (case Bk => k_is)
    (case Bl => k_is)
    (case uF => k_is)
    (case Bm => k_is)
    (case Bn => k_is)
    (case Bo => k_is)
    (case uG => k_is)
    (case Bp => k_is)
    (case Bq => k_is)
    (case Br => k_is)
    (case uH => k_is)
    (case Bs => k_is)
    (case Bt => k_is)
    (case Bu => k_is)
    (case uI => k_is)
    (case Bv => k_is)
    (case Bw => k_is)
    (case Bx => k_is)
    (case uJ => k_is)
    (case By => k_is)
    (case Bz => k_is)
    (case BA => k_is)
    (case uK => k_is)
    (case BC => k_is)
    (case BD => k_is)
    (case BE => k_is)
    (case uM => k_is)
    (case BF => k_is)
    (case BG => k_is)
    (case BH => k_is)
    (case uN => k_is)
    (case BI => k_is)
    (case BJ => k_is)
    (case BK => k_is)
    (case uO => k_is)
    (case BL => k_is)
    (case BM => k_is)
    (case BO => k_is)
    (case uQ => k_is)
    (case BP => k_is)
    (case BQ => k_is)
    (case BR => k_is)
    (case uR => k_is)
    (case BU => k_is)
    (case BV => k_is)
    (case BW => k_is)
    (case uU => k_is)
    (case BX => k_is)
    (case BZ => k_is)
    (case B3 => k_is)
    (case B4 => k_is)
    (case va => k_is)
    (case xM => k_is)
    (case xq => k_is)
    (case xr => k_is)
    (case wB => k_is)
    (case xN => k_is)
    (case wC => k_is)
    (case xO => k_is)
    (case vd => k_is)
    (case vV => k_is)
    (case xP => k_is)
    (case xQ => k_is)
    (case xR => k_is)
    (case xS => k_is)
    (case xT => k_is)
    (case xU => k_is)
    (case xV => k_is)
    (case oi => k_is)
    (case pB => k_is)
    (case oj => k_is)
#print axioms PySem.Challenge.cw_lotmeal_k94_whole_no_lie_is_better_holds
