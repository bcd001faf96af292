import PyProof.Rows.All
import Wide.All
import OpenK.AllK
import Wide.FinOn
import Lean
import PyProof.EqAt
import PyProof.EqKinds
import PyProof.TupleCall
import PyProof.NeKinds
import PyProof.ZipIter
import PyProof.WalksEnum
import PyProof.CompUse
import PyProof.ListRange
import PyProof.Rows.SetFrom
import PyProof.Rows.SortWalk
import PyProof.Rows.SeqMore2
import PyProof.SetRoads
import KE.KRevIter
import PyProof.WalksMore
import PyProof.AutoRange
import PyProof.ListNew
import PyProof.Wp
import PyProof.Logic
import PyProof.StationsW
import PyProof.ExcClass2
import OpenK.KGet
import PyProof.Rows.SortRunsK
import PyProof.Rows.SortShellK
import KE.KDictSum
import PyProof.DictTruth
import PyProof.RangeIter
import PyProof.RaisesMany
import PyProof.AutoListH
import PySem.Challenge.RW_lotmeal_k49_lies_by_turns
set_option Elab.async false
set_option linter.all false
set_option maxRecDepth 100000
set_option maxHeartbeats 4000000
namespace L2
open PySem PySem.W
section
variable {tb : String -> Option Builtin} {p : Program} {w : World} {n₀ : Nat} {ann : Option Value}
def qv (tb : String -> Option Builtin) (p : Program) (w : World) (n₀ : Nat) (ann : Option Value) : Nat -> SharedT -> Thread -> Option SharedT
  | 0,_,_ => none
  | n + 1,s,t => match through t with
    | true => some s
    | false => match stepOk n₀ ann t with
      | false => none
      | true => match stepT (denote tb) p w s t with
        | some (s',t') => qv tb p w n₀ ann n s' t'
        | none => none
theorem Er : ∀ {n : Nat} {s s' : SharedT} {t : Thread},qv tb p w n₀ ann n s t = some s' -> topRun tb p w n₀ ann n s.abs t = some s'.abs
  | 0,_,_,_,h => by cases h
  | n + 1,s,s',t,h => by
    unfold qv at h
    unfold topRun
    cases ht : through t with
    | true => rw [ht] at h; cases h; rfl
    | false =>
      rw [ht] at h
      cases hk : stepOk n₀ ann t with
      | false => rw [hk] at h; cases h
      | true =>
        rw [hk] at h
        cases hs : stepT (denote tb) p w s t with
        | none => rw [hs] at h; cases h
        | some r => obtain ⟨kS,aah⟩ := r; rw [hs] at h; rw [stepT_spec hs]; exact Er h
end
def treeOf (l : List Obj) : Nat -> Nat -> Nat -> BT
  | 0,_,_ => .nil
  | f + 1,a,b => match l[b]? with
    | some o => .node o (treeOf l f (2 * a) (a + b)) (treeOf l f (2 * a) (2 * a + b))
    | none => .nil
theorem MZ {p q : Program} {loose : List Str} {Xt : Shared -> Bool} {α : Type} {Yf : Shared -> α} {Ya : World -> α} {N : Nat} {g0 : Bool} {T₀ : Params -> BT} {n₀ : Nat} {life : Life} {sY : Array GenState} {yD : Drawn} {yE : Nat} {ann : Option Value} {M : Nat}
    (RV : ∀ w : World,(fencedOpening treeTable p w N).map (fun s => (s.heap,s.gens,s.drawn,s.toks)) = some (absHeap (T₀ w.params) n₀ life,sY,yD,yE))
    (size : ∀ w : World,((absHeap (T₀ w.params) n₀ life).isNs mainGlobals && sY.size == 0,(absHeap (T₀ w.params) n₀ life).nsMap mainGlobals "__annotations__") = (true,ann))
    (run : ∀ (w : World),(fun os => (qv treeTable p w n₀ ann M ⟨T₀ w.params,n₀,life,sY,yD,yE,os⟩ (topStub p)).map fun st => ((staticsOk (importedModules p.main.body) (absHeap (T₀ w.params) n₀ life) st.abs.heap && namesBound p st.abs.heap && gensDone st.abs && laidKept (absHeap (T₀ w.params) n₀ life) st.abs.heap),openSeen q loose (importedModules p.main.body) Xt g0 st.abs,Yf st.abs)) = fun _ => some (true,openGood q loose,Ya w)) (le : Nat.ble M N = true) : LeftO p q loose Xt Yf Ya N g0 := fun w => by
  obtain ⟨⟨h,gs,d,k,os⟩,e,e'⟩ := Option.map_eq_some_iff.mp (RV w)
  obtain ⟨rfl,rfl,rfl,rfl⟩ : h = absHeap (T₀ w.params) n₀ life /\ gs = sY /\ d = yD /\ k = yE := by simpa using e'
  obtain ⟨z1,z3⟩ := Prod.mk.inj (size w)
  obtain ⟨st,hr,hl⟩ := Option.map_eq_some_iff.mp (congrFun (run w) os)
  obtain ⟨l1,hl⟩ := Prod.mk.inj hl
  obtain ⟨l2,l3⟩ := Prod.mk.inj hl
  have r := topRun_mono (N - M) _ _ _ _ (Er hr)
  rw [show M + (N - M) = N by have := Nat.le_of_ble_eq_true le; omega] at r
  have t : topFrom treeTable p w N ⟨absHeap (T₀ w.params) n₀ life,gs,d,k,os⟩ = some st.abs := by
    unfold topFrom
    dsimp only
    rw [z1,absHeap_size,z3]
    have r' : topRun treeTable p w n₀ ann N ⟨absHeap (T₀ w.params) n₀ life,gs,d,k,os⟩ (topStub p) = some st.abs := r
    rw [r']
    show (match staticsOk (importedModules p.main.body) (absHeap (T₀ w.params) n₀ life) st.abs.heap && namesBound p st.abs.heap && gensDone st.abs && laidKept (absHeap (T₀ w.params) n₀ life) st.abs.heap with | true => _ | false => _) = _
    rw [l1]
  unfold openEnds
  rw [e]
  show (topFrom treeTable p w N _).map _ = _
  rw [t]
  exact congrArg some (Prod.ext l2 l3)
noncomputable def kJ (P : Params) : BT := treeOf (boot_heap P).objs.toList 12 1 0
theorem boot_abs (P : Params) : absHeap (kJ P) 11 {} = boot_heap P := by kernel_rfl
theorem M0 (w : World) : ((absHeap (kJ w.params) 11 {}).isNs mainGlobals && (Array.mk [] : Array GenState).size == 0,(absHeap (kJ w.params) 11 {}).nsMap mainGlobals "__annotations__") = (true,some (.ref 6)) := by kernel_rfl
noncomputable def jD (p : Program) (w : World) (N : Nat) (os : OsState) : Option SharedT := qv treeTable p w 11 (some (.ref 6)) N ⟨kJ w.params,11,{},Array.mk [],boot_drawn,boot_toks,os⟩ (topStub p)
noncomputable def pQ (p : Program) (w : World) (st : SharedT) : Bool := staticsOk (importedModules p.main.body) (absHeap (kJ w.params) 11 {}) st.abs.heap && namesBound p st.abs.heap && gensDone st.abs && laidKept (absHeap (kJ w.params) 11 {}) st.abs.heap
theorem M1 {p q : Program} {loose : List Str} {Xt : Shared -> Bool} {α : Type} {Yf : Shared -> α} {Ya : World -> α} {N : Nat} {g0 : Bool} (e : opening p = plainProg p.main.scope.names) (hN : Nat.ble 600 N = true) (f : ∀ s,fenceModules? p s = some s)
    (r1 : ∀ w : World,(fun os => (jD p w N os).map fun st => pQ p w st) = fun _ => some true) (r2 : ∀ w : World,(fun os => (jD p w N os).map fun st => openSeen q loose (importedModules p.main.body) Xt g0 st.abs) = fun _ => some (openGood q loose)) (r3 : ∀ w : World,(fun os => (jD p w N os).map fun st => Yf st.abs) = fun _ => some (Ya w)) : LeftO p q loose Xt Yf Ya N g0 :=
  MZ (T₀ := kJ) (n₀ := 11) (life := {}) (ann := some (.ref 6)) (fun w => (boot_open e hN f w).trans (by rw [boot_abs])) M0 (fun w => funext fun os => by
    have a := congrFun (r1 w) os
    have b := congrFun (r2 w) os
    have c := congrFun (r3 w) os
    show (jD p w N os).map (fun st => (pQ p w st,openSeen q loose (importedModules p.main.body) Xt g0 st.abs,Yf st.abs)) = _
    cases h : jD p w N os with
    | none => rw [h] at a; cases a
    | some st =>
      rw [h] at a b c
      show some (pQ p w st,openSeen q loose (importedModules p.main.body) Xt g0 st.abs,Yf st.abs) = _
      have a' : pQ p w st = true := Option.some.inj a
      have b' : openSeen q loose (importedModules p.main.body) Xt g0 st.abs = openGood q loose := Option.some.inj b
      have c' : Yf st.abs = Ya w := Option.some.inj c
      rw [a',b',c']) (by rw [Nat.ble_eq]; exact Nat.le_refl _)
def dA (s : Stmt) : Arguments := match s with
  | .FunctionDef _ a _ _ _ _ _ _ _ _ => a
  | _ => { posonlyargs := [],args := [],vararg := none,kwonlyargs := [],kw_defaults := [],kwarg := none,defaults := [] }
def dB (s : Stmt) : List Stmt := match s with
  | .FunctionDef _ _ b _ _ _ _ _ _ _ => b
  | _ => []
def dS (s : Stmt) : Scope := match s with
  | .FunctionDef _ _ _ _ _ _ sc _ _ _ => sc
  | _ => { kind := .function,names := [],isGenerator := false,isCoroutine := false }
def dM (s : Stmt) (j : Nat) : Stmt := match s with
  | .ClassDef _ _ _ b _ _ _ _ _ _ _ => b.getD j (.Pass ⟨0,0,0,0⟩)
  | _ => .Pass ⟨0,0,0,0⟩
def dE (P : Params) (x : Str) (n : Nat) (v : Value) : DictEntry := .mk (PyData.keyHash P x) (.str x n) v
def o0 : Obj := Obj.mk (.type "tuple") none (.seq #[] 0) #[]
def oT (x : Array Value) : Obj := Obj.mk (.type "tuple") none (.seq x 0) #[]
def oC (x : Array Value) : Obj := Obj.mk (.type "code") none (.fields x) #[]
def oD (n : Str) (a l k r x : Nat) (y z : Value) (v u : Nat) : Obj := oC #[.str n a,.str n (a+1),.str "/claim/cut.py" (a+2),.int l 0,.int k 0,.int 0 0,.int 0 0,.int 3 0,.ref r,.bool true,.int 181 0,.ref x,.none,y,z,.ref v,.int u 0,.int l 0,.str "/claim/cut.py" (u+1)]
def oF (n : Str) (s : Stmt) (d m c : Value) : Obj := Obj.mk (.type "function") none (.func (FuncData.mk n n (dA s) (.stmts (dB s)) (dS s) 3 [] d .none .none m none c .none 0)) #[]
end L2
namespace fJ
open PySem PySem.W
abbrev pr : Program := PySem.Challenge.rw_lotmeal_k49_lies_by_turns.row.prog
def tp (i : Nat) : Stmt := pr.main.body.getD i (.Pass ⟨0,0,0,0⟩)
noncomputable def hK : Params -> Frag := fun P =>
 (nat_lit 2,boot_o_2 P) ::
 (nat_lit 3,(Obj.mk (.type "dict") none (.dict #[(L2.dE P "__name__" 165 (.str "law_lotmeal_k49_lies_by_turns" 614)),(L2.dE P "__doc__" 166 .none),(L2.dE P "__package__" 167 .none),(L2.dE P "__loader__" 168 (.builtin "__main__.__loader__#opaque")),(L2.dE P "__spec__" 169 .none),(L2.dE P "__annotations__" 170 (.ref 6)),(L2.dE P "__builtins__" 171 (.ref 4)),(L2.dE P "__file__" 173 (.str "/claim/cut.py" 172)),(L2.dE P "__cached__" 174 .none),(L2.dE P "LotError" 206 (.ref 24)),(L2.dE P "NoNumber" 222 (.ref 37)),(L2.dE P "TooGreat" 238 (.ref 49)),(L2.dE P "NoAsker" 254 (.ref 61)),(L2.dE P "NoThing" 279 (.ref 80)),(L2.dE P "Twice" 304 (.ref 99)),(L2.dE P "NoTurns" 320 (.ref 111)),(L2.dE P "is_whole" 329 (.ref 120)),(L2.dE P "common_part" 338 (.ref 127)),(L2.dE P "fraction" 348 (.ref 135)),(L2.dE P "plus" 356 (.ref 142)),(L2.dE P "minus" 364 (.ref 149)),(L2.dE P "times" 372 (.ref 156)),(L2.dE P "over" 380 (.ref 163)),(L2.dE P "under" 388 (.ref 170)),(L2.dE P "sum_of" 397 (.ref 177)),(L2.dE P "least_of" 406 (.ref 184)),(L2.dE P "MOST" 410 (.int 6 409)),(L2.dE P "MOST_COUNT" 412 (.int 9 411)),(L2.dE P "check_orders" 418 (.ref 189)),(L2.dE P "table_of" 424 (.ref 194)),(L2.dE P "full_order" 430 (.ref 199)),(L2.dE P "first_left" 436 (.ref 204)),(L2.dE P "next_length" 444 (.ref 209)),(L2.dE P "left_behind" 450 (.ref 214)),(L2.dE P "ended_things" 456 (.ref 219)),(L2.dE P "meal_steps" 462 (.ref 224)),(L2.dE P "eaten_by" 468 (.ref 229)),(L2.dE P "meal" 474 (.ref 234)),(L2.dE P "sums" 488 (.ref 241)),(L2.dE P "as_good" 494 (.ref 246)),(L2.dE P "weight_of" 502 (.ref 251)),(L2.dE P "shares_of" 508 (.ref 256)),(L2.dE P "MOST_TURNS" 512 (.int 5 511)),(L2.dE P "deal_by" 518 (.ref 261)),(L2.dE P "longer" 524 (.ref 266)),(L2.dE P "all_turns" 533 (.ref 273)),(L2.dE P "turn_mix" 539 (.ref 278)),(L2.dE P "turn_shares" 546 (.ref 285)),(L2.dE P "MOST_THINGS" 550 (.int 4 549)),(L2.dE P "check_asker" 558 (.ref 292)),(L2.dE P "told_otherwise" 568 (.ref 299)),(L2.dE P "all_orders" 578 (.ref 306)),(L2.dE P "row_at" 588 (.ref 313)),(L2.dE P "word_for" 598 (.ref 320)),(L2.dE P "lies" 613 (.ref 328)),(L2.dE P "_law_cell_at" 623 (.ref 335)),(L2.dE P "_law_order" 636 (.ref 342)),(L2.dE P "_law_table" 642 (.ref 347)),(L2.dE P "_law_full" 648 (.ref 352)),(L2.dE P "_law_deal" 654 (.ref 357)),(L2.dE P "_law_all" 660 (.ref 362)),(L2.dE P "_law_lists" 666 (.ref 367)),(L2.dE P "_law_totals" 672 (.ref 372)),(L2.dE P "_law_word" 685 (.ref 379)),(L2.dE P "_law_due" 691 (.ref 384)),(L2.dE P "law" 697 (.ref 389))] 66) #[])) ::
 (nat_lit 15,(L2.oT #[(.type "ValueError")])) ::
 (nat_lit 22,L2.o0) ::
 (nat_lit 23,(Obj.mk (.type "dict") none (.dict #[(L2.dE P "__module__" 196 (.str "lotmeal.errors" 187)),(L2.dE P "__firstlineno__" 200 (.int 2 199)),(L2.dE P "__static_attributes__" 201 (.ref 22)),(L2.dE P "__weakref__" 203 (.ref 25)),(L2.dE P "__doc__" 204 .none)] 3) #[])) ::
 (nat_lit 24,(Obj.mk (.type "type") none (.cls (ClassData.mk "LotError" [(.type "ValueError")] [(.ref 24),(.type "ValueError"),(.type "Exception"),(.type "BaseException"),(.type "object")] 23 "LotError" true [] [(.ref 37),(.ref 49),(.ref 61),(.ref 80),(.ref 99),(.ref 111)] false none false)) #[(some (.ref 15)),none,(some (.str "LotError" 189)),(some (.str "LotError" 197)),(some (.builtin "ValueError.__new__")),(some (.bool true))])) ::
 (nat_lit 25,(Obj.mk (.type "getset_descriptor") none (.fields #[(.str "__weakref__" 202),(.ref 24),(.builtin "ExceptionGroup.__weakref__"),.none]) #[])) ::
 (nat_lit 28,(L2.oT #[(.ref 24)])) ::
 (nat_lit 35,L2.o0) ::
 (nat_lit 36,(Obj.mk (.type "dict") none (.dict #[(L2.dE P "__module__" 214 (.str "lotmeal.errors" 187)),(L2.dE P "__firstlineno__" 218 (.int 4 217)),(L2.dE P "__static_attributes__" 219 (.ref 35)),(L2.dE P "__doc__" 220 .none)] 2) #[])) ::
 (nat_lit 37,(Obj.mk (.type "type") none (.cls (ClassData.mk "NoNumber" [(.ref 24)] [(.ref 37),(.ref 24),(.type "ValueError"),(.type "Exception"),(.type "BaseException"),(.type "object")] 36 "NoNumber" true [] [] false none false)) #[(some (.ref 28)),none,(some (.str "NoNumber" 207)),(some (.str "NoNumber" 215)),(some (.builtin "ValueError.__new__")),(some (.bool true))])) ::
 (nat_lit 40,(L2.oT #[(.ref 24)])) ::
 (nat_lit 47,L2.o0) ::
 (nat_lit 48,(Obj.mk (.type "dict") none (.dict #[(L2.dE P "__module__" 230 (.str "lotmeal.errors" 187)),(L2.dE P "__firstlineno__" 234 (.int 6 233)),(L2.dE P "__static_attributes__" 235 (.ref 47)),(L2.dE P "__doc__" 236 .none)] 2) #[])) ::
 (nat_lit 49,(Obj.mk (.type "type") none (.cls (ClassData.mk "TooGreat" [(.ref 24)] [(.ref 49),(.ref 24),(.type "ValueError"),(.type "Exception"),(.type "BaseException"),(.type "object")] 48 "TooGreat" true [] [] false none false)) #[(some (.ref 40)),none,(some (.str "TooGreat" 223)),(some (.str "TooGreat" 231)),(some (.builtin "ValueError.__new__")),(some (.bool true))])) ::
 (nat_lit 52,(L2.oT #[(.ref 24)])) ::
 (nat_lit 59,L2.o0) ::
 (nat_lit 60,(Obj.mk (.type "dict") none (.dict #[(L2.dE P "__module__" 246 (.str "lotmeal.errors" 187)),(L2.dE P "__firstlineno__" 250 (.int 8 249)),(L2.dE P "__static_attributes__" 251 (.ref 59)),(L2.dE P "__doc__" 252 .none)] 2) #[])) ::
 (nat_lit 61,(Obj.mk (.type "type") none (.cls (ClassData.mk "NoAsker" [(.ref 24)] [(.ref 61),(.ref 24),(.type "ValueError"),(.type "Exception"),(.type "BaseException"),(.type "object")] 60 "NoAsker" true [] [] false none false)) #[(some (.ref 52)),none,(some (.str "NoAsker" 239)),(some (.str "NoAsker" 247)),(some (.builtin "ValueError.__new__")),(some (.bool true))])) ::
 (nat_lit 64,(L2.oT #[(.ref 24)])) ::
 (nat_lit 71,L2.o0) ::
 (nat_lit 73,(L2.oT #[(.str "self" 270),(.str "asker" 271)])) ::
 (nat_lit 74,L2.o0) ::
 (nat_lit 76,(L2.oC #[(.str "__init__" 267),(.str "NoThing.__init__" 268),(.str "/claim/cut.py" 269),(.int 12 0),(.int 2 0),(.int 0 0),(.int 0 0),(.int 3 0),(.ref 71),(.bool true),(.int 181 0),(.ref 72),.none,(.ref 73),(.ref 74),(.ref 75),(.int 272 0),(.int 12 0),(.str "/claim/cut.py" 273)])) ::
 (nat_lit 77,(Obj.mk (.type "function") none (.func (FuncData.mk "__init__" "NoThing.__init__" (L2.dA (L2.dM (tp 5) 0)) (.stmts (L2.dB (L2.dM (tp 5) 0))) (L2.dS (L2.dM (tp 5) 0)) 3 [] .none .none .none (.str "lotmeal.errors" 187) none (.ref 76) .none 0)) #[])) ::
 (nat_lit 78,(L2.oT #[(.str "asker" 275)])) ::
 (nat_lit 79,(Obj.mk (.type "dict") none (.dict #[(L2.dE P "__module__" 262 (.str "lotmeal.errors" 187)),(L2.dE P "__firstlineno__" 266 (.int 10 265)),(L2.dE P "__init__" 274 (.ref 77)),(L2.dE P "__static_attributes__" 276 (.ref 78)),(L2.dE P "__doc__" 277 .none)] 2) #[])) ::
 (nat_lit 80,(Obj.mk (.type "type") none (.cls (ClassData.mk "NoThing" [(.ref 24)] [(.ref 80),(.ref 24),(.type "ValueError"),(.type "Exception"),(.type "BaseException"),(.type "object")] 79 "NoThing" true [] [] false none false)) #[(some (.ref 64)),none,(some (.str "NoThing" 255)),(some (.str "NoThing" 263)),(some (.builtin "ValueError.__new__")),(some (.bool true))])) ::
 (nat_lit 83,(L2.oT #[(.ref 24)])) ::
 (nat_lit 90,L2.o0) ::
 (nat_lit 92,(L2.oT #[(.str "self" 295),(.str "asker" 296)])) ::
 (nat_lit 93,L2.o0) ::
 (nat_lit 95,(L2.oC #[(.str "__init__" 292),(.str "Twice.__init__" 293),(.str "/claim/cut.py" 294),(.int 17 0),(.int 2 0),(.int 0 0),(.int 0 0),(.int 3 0),(.ref 90),(.bool true),(.int 181 0),(.ref 91),.none,(.ref 92),(.ref 93),(.ref 94),(.int 297 0),(.int 17 0),(.str "/claim/cut.py" 298)])) ::
 (nat_lit 96,(Obj.mk (.type "function") none (.func (FuncData.mk "__init__" "Twice.__init__" (L2.dA (L2.dM (tp 6) 0)) (.stmts (L2.dB (L2.dM (tp 6) 0))) (L2.dS (L2.dM (tp 6) 0)) 3 [] .none .none .none (.str "lotmeal.errors" 187) none (.ref 95) .none 0)) #[])) ::
 (nat_lit 97,(L2.oT #[(.str "asker" 300)])) ::
 (nat_lit 98,(Obj.mk (.type "dict") none (.dict #[(L2.dE P "__module__" 287 (.str "lotmeal.errors" 187)),(L2.dE P "__firstlineno__" 291 (.int 15 290)),(L2.dE P "__init__" 299 (.ref 96)),(L2.dE P "__static_attributes__" 301 (.ref 97)),(L2.dE P "__doc__" 302 .none)] 2) #[])) ::
 (nat_lit 99,(Obj.mk (.type "type") none (.cls (ClassData.mk "Twice" [(.ref 24)] [(.ref 99),(.ref 24),(.type "ValueError"),(.type "Exception"),(.type "BaseException"),(.type "object")] 98 "Twice" true [] [] false none false)) #[(some (.ref 83)),none,(some (.str "Twice" 280)),(some (.str "Twice" 288)),(some (.builtin "ValueError.__new__")),(some (.bool true))])) ::
 (nat_lit 102,(L2.oT #[(.ref 24)])) ::
 (nat_lit 109,L2.o0) ::
 (nat_lit 110,(Obj.mk (.type "dict") none (.dict #[(L2.dE P "__module__" 312 (.str "lotmeal.errors" 187)),(L2.dE P "__firstlineno__" 316 (.int 20 315)),(L2.dE P "__static_attributes__" 317 (.ref 109)),(L2.dE P "__doc__" 318 .none)] 2) #[])) ::
 (nat_lit 111,(Obj.mk (.type "type") none (.cls (ClassData.mk "NoTurns" [(.ref 24)] [(.ref 111),(.ref 24),(.type "ValueError"),(.type "Exception"),(.type "BaseException"),(.type "object")] 110 "NoTurns" true [] [] false none false)) #[(some (.ref 102)),none,(some (.str "NoTurns" 305)),(some (.str "NoTurns" 313)),(some (.builtin "ValueError.__new__")),(some (.bool true))])) ::
 (nat_lit 114,L2.o0) ::
 (nat_lit 116,(L2.oT #[(.str "number" 326)])) ::
 (nat_lit 117,L2.o0) ::
 (nat_lit 119,(L2.oD "is_whole" 323 23 1 114 115 (.ref 116) (.ref 117) 118 327)) ::
 (nat_lit 120,(L2.oF "is_whole" (tp 9) .none (.str "lotmeal.fractions" 321) (.ref 119))) ::
 (nat_lit 121,L2.o0) ::
 (nat_lit 123,(L2.oT #[(.str "one" 333),(.str "other" 334),(.str "rest" 335)])) ::
 (nat_lit 124,L2.o0) ::
 (nat_lit 126,(L2.oD "common_part" 330 25 2 121 122 (.ref 123) (.ref 124) 125 336)) ::
 (nat_lit 127,(L2.oF "common_part" (tp 10) .none (.str "lotmeal.fractions" 321) (.ref 126))) ::
 (nat_lit 128,(L2.oT #[(.int 1 339)])) ::
 (nat_lit 129,L2.o0) ::
 (nat_lit 131,(L2.oT #[(.str "top" 343),(.str "bottom" 344),(.str "part" 345)])) ::
 (nat_lit 132,L2.o0) ::
 (nat_lit 134,(L2.oD "fraction" 340 31 2 129 130 (.ref 131) (.ref 132) 133 346)) ::
 (nat_lit 135,(L2.oF "fraction" (tp 11) (.ref 128) (.str "lotmeal.fractions" 321) (.ref 134))) ::
 (nat_lit 136,L2.o0) ::
 (nat_lit 138,(L2.oT #[(.str "one" 352),(.str "other" 353)])) ::
 (nat_lit 139,L2.o0) ::
 (nat_lit 141,(L2.oD "plus" 349 40 2 136 137 (.ref 138) (.ref 139) 140 354)) ::
 (nat_lit 142,(L2.oF "plus" (tp 12) .none (.str "lotmeal.fractions" 321) (.ref 141))) ::
 (nat_lit 143,L2.o0) ::
 (nat_lit 145,(L2.oT #[(.str "one" 360),(.str "other" 361)])) ::
 (nat_lit 146,L2.o0) ::
 (nat_lit 148,(L2.oD "minus" 357 42 2 143 144 (.ref 145) (.ref 146) 147 362)) ::
 (nat_lit 149,(L2.oF "minus" (tp 13) .none (.str "lotmeal.fractions" 321) (.ref 148))) ::
 (nat_lit 150,L2.o0) ::
 (nat_lit 152,(L2.oT #[(.str "one" 368),(.str "other" 369)])) ::
 (nat_lit 153,L2.o0) ::
 (nat_lit 155,(L2.oD "times" 365 44 2 150 151 (.ref 152) (.ref 153) 154 370)) ::
 (nat_lit 156,(L2.oF "times" (tp 14) .none (.str "lotmeal.fractions" 321) (.ref 155))) ::
 (nat_lit 157,L2.o0) ::
 (nat_lit 159,(L2.oT #[(.str "one" 376),(.str "other" 377)])) ::
 (nat_lit 160,L2.o0) ::
 (nat_lit 162,(L2.oD "over" 373 46 2 157 158 (.ref 159) (.ref 160) 161 378)) ::
 (nat_lit 163,(L2.oF "over" (tp 15) .none (.str "lotmeal.fractions" 321) (.ref 162))) ::
 (nat_lit 164,L2.o0) ::
 (nat_lit 166,(L2.oT #[(.str "one" 384),(.str "other" 385)])) ::
 (nat_lit 167,L2.o0) ::
 (nat_lit 169,(L2.oD "under" 381 50 2 164 165 (.ref 166) (.ref 167) 168 386)) ::
 (nat_lit 170,(L2.oF "under" (tp 16) .none (.str "lotmeal.fractions" 321) (.ref 169))) ::
 (nat_lit 171,L2.o0) ::
 (nat_lit 173,(L2.oT #[(.str "some" 392),(.str "total" 393),(.str "one" 394)])) ::
 (nat_lit 174,L2.o0) ::
 (nat_lit 176,(L2.oD "sum_of" 389 52 1 171 172 (.ref 173) (.ref 174) 175 395)) ::
 (nat_lit 177,(L2.oF "sum_of" (tp 17) .none (.str "lotmeal.fractions" 321) (.ref 176))) ::
 (nat_lit 178,L2.o0) ::
 (nat_lit 180,(L2.oT #[(.str "some" 401),(.str "least" 402),(.str "one" 403)])) ::
 (nat_lit 181,L2.o0) ::
 (nat_lit 183,(L2.oD "least_of" 398 57 1 178 179 (.ref 180) (.ref 181) 182 404)) ::
 (nat_lit 184,(L2.oF "least_of" (tp 18) .none (.str "lotmeal.fractions" 321) (.ref 183))) ::
 (nat_lit 185,L2.o0) ::
 (nat_lit 188,(L2.oD "check_orders" 413 66 2 185 186 .none .none 187 416)) ::
 (nat_lit 189,(L2.oF "check_orders" (tp 22) .none (.str "lotmeal.tables" 407) (.ref 188))) ::
 (nat_lit 190,L2.o0) ::
 (nat_lit 193,(L2.oD "table_of" 419 73 2 190 191 .none .none 192 422)) ::
 (nat_lit 194,(L2.oF "table_of" (tp 23) .none (.str "lotmeal.tables" 407) (.ref 193))) ::
 (nat_lit 195,L2.o0) ::
 (nat_lit 198,(L2.oD "full_order" 425 82 2 195 196 .none .none 197 428)) ::
 (nat_lit 199,(L2.oF "full_order" (tp 24) .none (.str "lotmeal.tables" 407) (.ref 198))) ::
 (nat_lit 200,L2.o0) ::
 (nat_lit 203,(L2.oD "first_left" 431 86 2 200 201 .none .none 202 434)) ::
 (nat_lit 204,(L2.oF "first_left" (tp 25) .none (.str "lotmeal.tables" 407) (.ref 203))) ::
 (nat_lit 205,L2.o0) ::
 (nat_lit 208,(L2.oD "next_length" 439 89 3 205 206 .none .none 207 442)) ::
 (nat_lit 209,(L2.oF "next_length" (tp 27) .none (.str "lotmeal.meal" 437) (.ref 208))) ::
 (nat_lit 210,L2.o0) ::
 (nat_lit 213,(L2.oD "left_behind" 445 92 3 210 211 .none .none 212 448)) ::
 (nat_lit 214,(L2.oF "left_behind" (tp 28) .none (.str "lotmeal.meal" 437) (.ref 213))) ::
 (nat_lit 215,L2.o0) ::
 (nat_lit 218,(L2.oD "ended_things" 451 94 1 215 216 .none .none 217 454)) ::
 (nat_lit 219,(L2.oF "ended_things" (tp 29) .none (.str "lotmeal.meal" 437) (.ref 218))) ::
 (nat_lit 220,L2.o0) ::
 (nat_lit 223,(L2.oD "meal_steps" 457 96 1 220 221 .none .none 222 460)) ::
 (nat_lit 224,(L2.oF "meal_steps" (tp 30) .none (.str "lotmeal.meal" 437) (.ref 223))) ::
 (nat_lit 225,L2.o0) ::
 (nat_lit 228,(L2.oD "eaten_by" 463 109 3 225 226 .none .none 227 466)) ::
 (nat_lit 229,(L2.oF "eaten_by" (tp 31) .none (.str "lotmeal.meal" 437) (.ref 228))) ::
 (nat_lit 230,L2.o0) ::
 (nat_lit 233,(L2.oD "meal" 469 111 1 230 231 .none .none 232 472)) ::
 (nat_lit 234,(L2.oF "meal" (tp 32) .none (.str "lotmeal.meal" 437) (.ref 233))) ::
 (nat_lit 235,L2.o0) ::
 (nat_lit 237,(L2.oT #[(.str "table" 480),(.str "asker" 481),(.str "row" 482),(.str "told" 483),(.str "total" 484),(.str "one" 485)])) ::
 (nat_lit 238,L2.o0) ::
 (nat_lit 240,(L2.oD "sums" 477 117 3 235 236 (.ref 237) (.ref 238) 239 486)) ::
 (nat_lit 241,(L2.oF "sums" (tp 34) .none (.str "lotmeal.sums" 475) (.ref 240))) ::
 (nat_lit 242,L2.o0) ::
 (nat_lit 245,(L2.oD "as_good" 489 124 4 242 243 .none .none 244 492)) ::
 (nat_lit 246,(L2.oF "as_good" (tp 35) .none (.str "lotmeal.sums" 475) (.ref 245))) ::
 (nat_lit 247,L2.o0) ::
 (nat_lit 250,(L2.oD "weight_of" 497 129 3 247 248 .none .none 249 500)) ::
 (nat_lit 251,(L2.oF "weight_of" (tp 37) .none (.str "lotmeal.mixes" 495) (.ref 250))) ::
 (nat_lit 252,L2.o0) ::
 (nat_lit 255,(L2.oD "shares_of" 503 131 2 252 253 .none .none 254 506)) ::
 (nat_lit 256,(L2.oF "shares_of" (tp 38) .none (.str "lotmeal.mixes" 495) (.ref 255))) ::
 (nat_lit 257,L2.o0) ::
 (nat_lit 260,(L2.oD "deal_by" 513 136 2 257 258 .none .none 259 516)) ::
 (nat_lit 261,(L2.oF "deal_by" (tp 41) .none (.str "lotmeal.turns" 509) (.ref 260))) ::
 (nat_lit 262,L2.o0) ::
 (nat_lit 265,(L2.oD "longer" 519 145 2 262 263 .none .none 264 522)) ::
 (nat_lit 266,(L2.oF "longer" (tp 42) .none (.str "lotmeal.turns" 509) (.ref 265))) ::
 (nat_lit 267,L2.o0) ::
 (nat_lit 269,(L2.oT #[(.str "many" 528),(.str "told" 529),(.str "length" 530)])) ::
 (nat_lit 270,L2.o0) ::
 (nat_lit 272,(L2.oD "all_turns" 525 150 1 267 268 (.ref 269) (.ref 270) 271 531)) ::
 (nat_lit 273,(L2.oF "all_turns" (tp 43) .none (.str "lotmeal.turns" 509) (.ref 272))) ::
 (nat_lit 274,L2.o0) ::
 (nat_lit 277,(L2.oD "turn_mix" 534 157 1 274 275 .none .none 276 537)) ::
 (nat_lit 278,(L2.oF "turn_mix" (tp 44) .none (.str "lotmeal.turns" 509) (.ref 277))) ::
 (nat_lit 279,L2.o0) ::
 (nat_lit 281,(L2.oT #[(.str "table" 543)])) ::
 (nat_lit 282,L2.o0) ::
 (nat_lit 284,(L2.oD "turn_shares" 540 164 1 279 280 (.ref 281) (.ref 282) 283 544)) ::
 (nat_lit 285,(L2.oF "turn_shares" (tp 45) .none (.str "lotmeal.turns" 509) (.ref 284))) ::
 (nat_lit 286,L2.o0) ::
 (nat_lit 288,(L2.oT #[(.str "table" 554),(.str "asker" 555)])) ::
 (nat_lit 289,L2.o0) ::
 (nat_lit 291,(L2.oD "check_asker" 551 168 2 286 287 (.ref 288) (.ref 289) 290 556)) ::
 (nat_lit 292,(L2.oF "check_asker" (tp 48) .none (.str "lotmeal.lies" 547) (.ref 291))) ::
 (nat_lit 293,L2.o0) ::
 (nat_lit 295,(L2.oT #[(.str "table" 562),(.str "asker" 563),(.str "order" 564),(.str "orders" 565)])) ::
 (nat_lit 296,L2.o0) ::
 (nat_lit 298,(L2.oD "told_otherwise" 559 171 3 293 294 (.ref 295) (.ref 296) 297 566)) ::
 (nat_lit 299,(L2.oF "told_otherwise" (tp 49) .none (.str "lotmeal.lies" 547) (.ref 298))) ::
 (nat_lit 300,L2.o0) ::
 (nat_lit 302,(L2.oT #[(.str "many" 572),(.str "told" 573),(.str "longest" 574),(.str "length" 575)])) ::
 (nat_lit 303,L2.o0) ::
 (nat_lit 305,(L2.oD "all_orders" 569 176 1 300 301 (.ref 302) (.ref 303) 304 576)) ::
 (nat_lit 306,(L2.oF "all_orders" (tp 50) .none (.str "lotmeal.lies" 547) (.ref 305))) ::
 (nat_lit 307,L2.o0) ::
 (nat_lit 309,(L2.oT #[(.str "table" 582),(.str "asker" 583),(.str "way" 584),(.str "shares" 585)])) ::
 (nat_lit 310,L2.o0) ::
 (nat_lit 312,(L2.oD "row_at" 579 185 3 307 308 (.ref 309) (.ref 310) 311 586)) ::
 (nat_lit 313,(L2.oF "row_at" (tp 51) .none (.str "lotmeal.lies" 547) (.ref 312))) ::
 (nat_lit 314,L2.o0) ::
 (nat_lit 316,(L2.oT #[(.str "table" 592),(.str "asker" 593),(.str "first" 594),(.str "new" 595)])) ::
 (nat_lit 317,L2.o0) ::
 (nat_lit 319,(L2.oD "word_for" 589 188 4 314 315 (.ref 316) (.ref 317) 318 596)) ::
 (nat_lit 320,(L2.oF "word_for" (tp 52) .none (.str "lotmeal.lies" 547) (.ref 319))) ::
 (nat_lit 321,(L2.oT #[(.str "meal" 599)])) ::
 (nat_lit 322,L2.o0) ::
 (nat_lit 324,(L2.oT #[(.str "table" 603),(.str "asker" 604),(.str "way" 605),(.str "orders" 606),(.str "first" 607),(.str "told" 608),(.str "order" 609),(.str "new" 610)])) ::
 (nat_lit 325,L2.o0) ::
 (nat_lit 327,(L2.oD "lies" 600 196 3 322 323 (.ref 324) (.ref 325) 326 611)) ::
 (nat_lit 328,(L2.oF "lies" (tp 53) (.ref 321) (.str "lotmeal.lies" 547) (.ref 327))) ::
 (nat_lit 329,L2.o0) ::
 (nat_lit 331,(L2.oT #[(.str "_law_script" 619),(.str "_law_k" 620)])) ::
 (nat_lit 332,L2.o0) ::
 (nat_lit 334,(L2.oD "_law_cell_at" 616 206 2 329 330 (.ref 331) (.ref 332) 333 621)) ::
 (nat_lit 335,(L2.oF "_law_cell_at" (tp 55) .none (.str "law_lotmeal_k49_lies_by_turns" 614) (.ref 334))) ::
 (nat_lit 336,L2.o0) ::
 (nat_lit 338,(L2.oT #[(.str "_law_cell" 627),(.str "_law_many" 628),(.str "_law_size" 629),(.str "_law_left" 630),(.str "_law_order_here" 631),(.str "_law_k" 632),(.str "_law_at" 633)])) ::
 (nat_lit 339,L2.o0) ::
 (nat_lit 341,(L2.oD "_law_order" 624 210 2 336 337 (.ref 338) (.ref 339) 340 634)) ::
 (nat_lit 342,(L2.oF "_law_order" (tp 56) .none (.str "law_lotmeal_k49_lies_by_turns" 614) (.ref 341))) ::
 (nat_lit 343,L2.o0) ::
 (nat_lit 346,(L2.oD "_law_table" 637 220 4 343 344 .none .none 345 640)) ::
 (nat_lit 347,(L2.oF "_law_table" (tp 57) .none (.str "law_lotmeal_k49_lies_by_turns" 614) (.ref 346))) ::
 (nat_lit 348,L2.o0) ::
 (nat_lit 351,(L2.oD "_law_full" 643 231 2 348 349 .none .none 350 646)) ::
 (nat_lit 352,(L2.oF "_law_full" (tp 58) .none (.str "law_lotmeal_k49_lies_by_turns" 614) (.ref 351))) ::
 (nat_lit 353,L2.o0) ::
 (nat_lit 356,(L2.oD "_law_deal" 649 235 2 353 354 .none .none 355 652)) ::
 (nat_lit 357,(L2.oF "_law_deal" (tp 59) .none (.str "law_lotmeal_k49_lies_by_turns" 614) (.ref 356))) ::
 (nat_lit 358,L2.o0) ::
 (nat_lit 361,(L2.oD "_law_all" 655 243 1 358 359 .none .none 360 658)) ::
 (nat_lit 362,(L2.oF "_law_all" (tp 60) .none (.str "law_lotmeal_k49_lies_by_turns" 614) (.ref 361))) ::
 (nat_lit 363,L2.o0) ::
 (nat_lit 366,(L2.oD "_law_lists" 661 251 1 363 364 .none .none 365 664)) ::
 (nat_lit 367,(L2.oF "_law_lists" (tp 61) .none (.str "law_lotmeal_k49_lies_by_turns" 614) (.ref 366))) ::
 (nat_lit 368,L2.o0) ::
 (nat_lit 371,(L2.oD "_law_totals" 667 261 3 368 369 .none .none 370 670)) ::
 (nat_lit 372,(L2.oF "_law_totals" (tp 62) .none (.str "law_lotmeal_k49_lies_by_turns" 614) (.ref 371))) ::
 (nat_lit 373,L2.o0) ::
 (nat_lit 375,(L2.oT #[(.str "_law_table_here" 676),(.str "_law_asker" 677),(.str "_law_first" 678),(.str "_law_other" 679),(.str "_law_here" 680),(.str "_law_there" 681),(.str "_law_number" 682)])) ::
 (nat_lit 376,L2.o0) ::
 (nat_lit 378,(L2.oD "_law_word" 673 267 4 373 374 (.ref 375) (.ref 376) 377 683)) ::
 (nat_lit 379,(L2.oF "_law_word" (tp 63) .none (.str "law_lotmeal_k49_lies_by_turns" 614) (.ref 378))) ::
 (nat_lit 380,L2.o0) ::
 (nat_lit 383,(L2.oD "_law_due" 686 278 2 380 381 .none .none 382 689)) ::
 (nat_lit 384,(L2.oF "_law_due" (tp 64) .none (.str "law_lotmeal_k49_lies_by_turns" 614) (.ref 383))) ::
 (nat_lit 385,L2.o0) ::
 (nat_lit 388,(L2.oD "law" 692 287 1 385 386 .none .none 387 695)) ::
 (nat_lit 389,(L2.oF "law" (tp 65) .none (.str "law_lotmeal_k49_lies_by_turns" 614) (.ref 388))) :: []
def hA : List Addr := [2,3,15,22,23,24,25,28,35,36,37,40,47,48,49,52,59,60,61,64,71,73,74,76,77,78,79,80,83,90,92,93,95,96,97,98,99,102,109,110,111,114,116,117,119,120,121,123,124,126,127,128,129,131,132,134,135,136,138,139,141,142,143,145,146,148,149,150,152,153,155,156,157,159,160,162,163,164,166,167,169,170,171,173,174,176,177,178,180,181,183,184,185,188,189,190,193,194,195,198,199,200,203,204,205,208,209,210,213,214,215,218,219,220,223,224,225,228,229,230,233,234,235,237,238,240,241,242,245,246,247,250,251,252,255,256,257,260,261,262,265,266,267,269,270,272,273,274,277,278,279,281,282,284,285,286,288,289,291,292,293,295,296,298,299,300,302,303,305,306,307,309,310,312,313,314,316,317,319,320,321,322,324,325,327,328,329,331,332,334,335,336,338,339,341,342,343,346,347,348,351,352,353,356,357,358,361,362,363,366,367,368,371,372,373,375,376,378,379,380,383,384,385,388,389]
theorem sZ (P : Params) : hA = (hK P).map (·.1) := by kernel_rfl
def hV : Program := { pr with main := { pr.main with body := [1,2,3,4,5,6,7,9,10,12,13,14,15,16,17,18,20,21,22,23,24,25,27,28,29,30,31,32,34,35,37,38,40,41,42,43,44,45,47,48,49,50,51,52,55,56,57,58,59,60,61,62,63,64,65].map tp } }
def hX (s : Shared) : Bool := xlAt hV [] s && recOk (RowW.records PySem.Challenge.rw_lotmeal_k49_lies_by_turns.row.toRowW) s
noncomputable abbrev hH : Hook := kHook hK hA sZ
theorem h1 : opening pr = plainProg pr.main.scope.names := by kernel_rfl
theorem h2 (s : Shared) : fenceModules? pr s = some s := by kernel_rfl
theorem h3 (w : World) : (fun os => (L2.jD pr w 6054 os).map fun st => L2.pQ pr w st) = fun _ => some true := by kernel_rfl
theorem h4 (w : World) : (fun os => (L2.jD pr w 6054 os).map fun st => openSeen hV ["fraction", "lies"] (importedModules pr.main.body) hX true st.abs) = fun _ => some (openGood hV ["fraction", "lies"]) := by kernel_rfl
theorem h5 (w : World) : (fun os => (L2.jD pr w 6054 os).map fun st => hH.obs st.abs) = fun _ => some (hH.val w) := by kernel_rfl
theorem hL : LeftO pr hV ["fraction", "lies"] hX hH.obs hH.val 6054 := L2.M1 h1 (by decide) h2 h3 h4 h5
end fJ
namespace L2
open PySem PySem.Spec PyProof.Rows
abbrev Key := Sum Int Str
def nP : Key -> Value -> Bool
  | .inl k,v => Value.isInt k v
  | .inr x,v => Value.isStrOf x v
def SD (w : World) : Key -> Int
  | .inl k => hashInt k
  | .inr x => hashStr w x
theorem iQ : ∀ {k : Key} {v : Value},nP k v = true -> (∃ i t,k = Sum.inl i /\ v = Value.int i t) \/ (∃ x t,k = Sum.inr x /\ v = Value.str x t)
  | .inl i,v,h => by
    obtain ⟨t,e⟩ := Value.isInt_shape (k := i) (v := v) h
    exact .inl ⟨i,t,rfl,e⟩
  | .inr x,v,h => by
    obtain ⟨t,e⟩ := Value.isStrOf_shape (x := x) (v := v) h
    exact .inr ⟨x,t,rfl,e⟩
theorem M3 (i : Int) (t : Tok) : nP (.inl i) (.int i t) = true := by simp [nP,Value.isInt]
theorem M4 (x : Str) (t : Tok) : nP (.inr x) (.str x t) = true := by simp [nP,Value.isStrOf]
theorem QG (a b : Int) : decide ((Sum.inl a : Key) = Sum.inl b) = (a == b) := by
  by_cases e : a = b
  · subst e; simp
  · have h : ¬ (Sum.inl a : Key) = Sum.inl b := fun q => e (Sum.inl.inj q)
    rw [decide_eq_false h]
    exact (beq_eq_false_iff_ne.mpr e).symm
theorem QH (a b : Str) : decide ((Sum.inr a : Key) = Sum.inr b) = decide (a = b) := by
  by_cases e : a = b
  · subst e; simp
  · have h : ¬ (Sum.inr a : Key) = Sum.inr b := fun q => e (Sum.inr.inj q)
    rw [decide_eq_false h,decide_eq_false e]
theorem QI (a : Int) (b : Str) : decide ((Sum.inl a : Key) = Sum.inr b) = false := decide_eq_false (fun q => nomatch q)
theorem QJ (a : Str) (b : Int) : decide ((Sum.inr a : Key) = Sum.inl b) = false := decide_eq_false (fun q => nomatch q)
def e8 (prog : Program) (w : World) : PySem.KeyKind prog w Key where
  is := nP
  hash := SD w
  inj := fun v a b ha hb => by
    rcases iQ ha with ⟨i,t,rfl,rfl⟩ | ⟨x,t,rfl,rfl⟩
    · rcases iQ hb with ⟨j,u,rfl,e⟩ | ⟨y,u,rfl,e⟩
      · injection e with e1 _; rw [e1]
      · exact nomatch e
    · rcases iQ hb with ⟨j,u,rfl,e⟩ | ⟨y,u,rfl,e⟩
      · exact nomatch e
      · injection e with e1 _; rw [e1]
  byValue := fun k v h => by
    rcases iQ h with ⟨i,t,rfl,rfl⟩ | ⟨x,t,rfl,rfl⟩ <;> rfl
  pyHash := fun hv h => by
    rcases iQ hv with ⟨i,t,rfl,rfl⟩ | ⟨x,t,rfl,rfl⟩
    · exact wpAny_pyHash_int h
    · exact wpAny_pyHash_str h
  eqBool := fun hu hv h => by
    rcases iQ hu with ⟨i,t,rfl,rfl⟩ | ⟨x,t,rfl,rfl⟩
    · rcases iQ hv with ⟨j,u,rfl,rfl⟩ | ⟨y,u,rfl,rfl⟩
      · rw [QG] at h; exact wpAny_eqBool_int h
      · rw [QI] at h; exact SeqAt.EqAt.int_str i t y u _ _ _ _ h
    · rcases iQ hv with ⟨j,u,rfl,rfl⟩ | ⟨y,u,rfl,rfl⟩
      · rw [QJ] at h; exact SeqAt.EqAt.str_int x t j u _ _ _ _ h
      · rw [QH] at h; exact wpAny_eqBool_str h
  «strs» := fun k x t v h => by
    rcases iQ h with ⟨i,u,rfl,e⟩ | ⟨y,u,rfl,e⟩
    · exact nomatch e
    · injection e with e1 _
      subst e1
      cases v <;> rfl
theorem Mh (prog : Program) (w : World) (i : Int) (t : Tok) : (e8 prog w).is (.inl i) (.int i t) = true := M3 i t
theorem Mi (prog : Program) (w : World) (x : Str) (t : Tok) : (e8 prog w).is (.inr x) (.str x t) = true := M4 x t
end L2
namespace L2
open PySem PySem.Spec PyProof.Rows
inductive V where
  | aF | bl (b : Bool) | int (i : Int) | str (x : Str) | gE (b : Array UInt8) | lu (b : UInt64) | ref (a : Addr) | ty (n : String)
  deriving DecidableEq
def RelV : V -> Value -> Prop
  | .aF,u => u = Value.none
  | .bl b,u => u = Value.bool b
  | .int i,u => ∃ t,u = Value.int i t
  | .str x,u => ∃ t,u = Value.str x t
  | .gE b,u => ∃ t,u = Value.bytes b t
  | .lu b,u => ∃ t,u = Value.float b t
  | .ref a,u => u = Value.ref a
  | .ty n,u => u = Value.type n
abbrev Vals : List V -> List Value -> Prop := Paired RelV
theorem Vals.length {xs : List V} {us : List Value} (r : Vals xs us) : xs.length = us.length := Paired.length r
theorem Vals.get : ∀ {xs : List V} {us : List Value} {i : Nat} {x : V},Vals xs us -> xs[i]? = some x -> ∃ u,us[i]? = some u /\ RelV x u
  | _,_,_,_,.nil,e => by simp at e
  | _,_,0,_,.cons r _,e => by simp at e; subst e; exact ⟨_,rfl,r⟩
  | _,_,i + 1,x,.cons _ t,e => by
    obtain ⟨u,h1,h2⟩ := Vals.get (i := i) (x := x) t (by simpa using e)
    exact ⟨u,by simpa using h1,h2⟩
theorem Vals.set {x : V} {u : Value} (r : RelV x u) : ∀ {xs : List V} {us : List Value} (i : Nat),Vals xs us -> Vals (xs.set i x) (us.set i u)
  | _,_,_,.nil => .nil
  | _,_,0,.cons _ t => .cons r t
  | _,_,i + 1,.cons q t => .cons q (Vals.set r i t)
theorem Vals.append : ∀ {xs ys : List V} {us ws : List Value},Vals xs us -> Vals ys ws -> Vals (xs ++ ys) (us ++ ws)
  | _,_,_,_,.nil,s => s
  | _,_,_,_,.cons r t,s => .cons r (Vals.append t s)
theorem Vals.take : ∀ {xs : List V} {us : List Value} (n : Nat),Vals xs us -> Vals (xs.take n) (us.take n)
  | _,_,0,_ => .nil
  | _,_,_ + 1,.nil => .nil
  | _,_,n + 1,.cons r t => .cons r (Vals.take n t)
theorem Vals.drop : ∀ {xs : List V} {us : List Value} (n : Nat),Vals xs us -> Vals (xs.drop n) (us.drop n)
  | _,_,0,r => r
  | _,_,_ + 1,.nil => .nil
  | _,_,n + 1,.cons _ t => Vals.drop n t
def fS : Option V -> Option Value -> Prop
  | some v,some u => RelV v u
  | none,none => True
  | _,_ => False
def KV {κ : Type} : List (κ × V) -> List (κ × Value) -> Prop := Paired fun (p : κ × V) (q : κ × Value) => p.1 = q.1 /\ RelV p.2 q.2
def kV : Key -> V
  | .inl i => .int i
  | .inr x => .str x
inductive HO where
  | lst (xs : List V)
  | tup (xs : List V)
  | dK (aj : List (Key × V)) | dT (aj : List (List Key × V))
  | set (S : Int -> Bool) (n : Nat)
  | ins (C dx : Addr) (fs : List (Str × V))
  | own (x : Addr)
  | xd (fs : List (Str × V))
  | met (f x : Addr)
  | bQ (lo hi : Int)
  | dg (o : Obj) (u : HO)
  | lz (ps : Array Value)
  | ext (φ : Heap -> Prop)
abbrev Hp := Addr -> Option HO
def upd (H : Hp) (a : Addr) (o : HO) : Hp := fun b => if b = a then some o else H b
theorem ck {H : Hp} {a : Addr} {o : HO} : upd H a o a = some o := by unfold upd; rw [if_pos rfl]
theorem aP {H : Hp} {a b : Addr} {o : HO} (h : b ≠ a) : upd H a o b = H b := by unfold upd; rw [if_neg h]
theorem RW {H : Hp} {a b : Addr} {o u : HO} (h : H a = some o) (h' : H b = some u) (d : o ≠ u) : a ≠ b := by
  intro e; subst e; rw [h] at h'; exact d (Option.some.inj h')
theorem gG {H : Hp} {a b : Addr} {o : HO} (h : H a = some o) (h' : H b = none) : a ≠ b := by
  intro e; subst e; rw [h] at h'; cases h'
section
variable (P : Program) (w : World)
def bU (H : Hp) (h : Heap) (a : Addr) : HO -> Prop
  | .lst xs => xs.length <= sizeLine /\ ∃ (its : List Value) (n : Nat),Vals xs its /\ h.get? a = some { cls := .type "list",data := .seq its.toArray n }
  | .tup xs => xs.length <= sizeLine /\ ∃ its : List Value,Vals xs its /\ IsTup h a its.toArray
  | .dK aj => aj.length <= sizeLine /\ (a == sysModules) = false /\ ∃ vs,KV aj vs /\ h.DictOf (e8 P w) a vs
  | .dT aj => aj.length <= sizeLine /\ (a == sysModules) = false /\ ∃ xs : List (List Key × Addr × Value),
      Paired (fun (p : List Key × V) (q : List Key × Addr × Value) => p.1 = q.1 /\ H q.2.1 = some (.tup (p.1.map kV)) /\ RelV p.2 q.2.2) aj xs /\
      ∃ o es ep,h.get? a = some o /\ o.ExactDict /\ o.data = .dict es ep /\ es.toList = xs.map (entryOfKey (tupleKind (e8 P w))) /\ (xs.map (·.1)).Nodup
  | .set S n => h.SetOf (intKind P w) a S n
  | .ins C dx fs => H dx = some (.own a) /\ fs.length <= 1000 /\ dx ≠ a /\ h.get? a = some (PySem.W.instObj C dx) /\
      ∃ mA,h.Ns1 dx mA /\ (∀ f,fS (fs.lookup f) (mA f)) /\ PySem.Within mA (fs.map (·.1))
  | .own _ => ∃ o,h.get? a = some o
  | .xd fs => ∃ mA,h.Ns1 a mA /\ ∀ f,fS (fs.lookup f) (mA f)
  | .bQ lo hi => ∃ t u v,h.get? a = some { cls := .type "range",data := .fields #[.int lo t,.int hi u,.int 1 v] }
  | .dg o u => h.get? a = some o /\ bU H h a u
  | .lz ps => h.get? a = some { cls := .none,data := .fields ps }
  | .met f x => h.get? a = some (PySem.W.methodObj (.ref f) (.ref x))
  | .ext φ => φ h /\ (∃ o,h.get? a = some o) /\ ∀ h1 h2 : Heap,φ h1 -> (∀ o,h1.get? a = some o -> h2.get? a = some o) -> φ h2
def bV (H : Hp) (h : Heap) : Prop := ∀ a o,H a = some o -> bU P w H h a o
end
section
variable {P : Program} {w : World} {H H' : Hp} {h h' : Heap} {a : Addr} {o : HO}
theorem bU.lt (x : bU P w H h a o) : a < h.objs.size := by
  cases o with
  | lst xs => obtain ⟨_,_,_,_,e⟩ := x; exact Heap.lt_size e
  | tup xs => obtain ⟨_,_,_,p⟩ := x; exact p.lt
  | dK aj => obtain ⟨_,_,_,_,o,_,_,e,_⟩ := x; exact Heap.lt_size e
  | dT aj => obtain ⟨_,_,_,_,o,_,_,e,_⟩ := x; exact Heap.lt_size e
  | set S n => obtain ⟨o,_,_,_,e,_⟩ := x; exact Heap.lt_size e
  | ins C dx fs => obtain ⟨_,_,_,e,_⟩ := x; exact Heap.lt_size e
  | own y => obtain ⟨_,e⟩ := x; exact Heap.lt_size e
  | xd fs => obtain ⟨_,⟨_,_,_,e,_⟩,_⟩ := x; exact Heap.lt_size e
  | bQ lo hi => obtain ⟨_,_,_,e⟩ := x; exact Heap.lt_size e
  | dg ob u => obtain ⟨e,_⟩ := x; exact Heap.lt_size e
  | lz ps => exact Heap.lt_size (show h.get? a = some _ from x)
  | met f y => exact Heap.lt_size (show h.get? a = some _ from x)
  | ext φ => obtain ⟨_,⟨_,e⟩,_⟩ := x; exact Heap.lt_size e
theorem Paired.yF {α β : Type} {F G : α -> β -> Prop} : ∀ {HG : List α} {HH : List β},Paired F HG HH -> (∀ a b,F a b -> G a b) -> Paired G HG HH
  | _,_,.nil,_ => .nil
  | _,_,.cons r t,f => .cons (f _ _ r) (Paired.yF t f)
theorem bU.i6 (x : bU P w H h a o) (k : ∀ b u,(b = a \/ H b = some (.own a)) -> h.get? b = some u -> h'.get? b = some u)
    (ho : ∀ b,H b = some (.own a) -> H' b = some (.own a)) (ht : ∀ b xs,H b = some (.tup xs) -> H' b = some (.tup xs)) : bU P w H' h' a o := by
  induction o with
  | lst xs => obtain ⟨z,its,n,r,e⟩ := x; exact ⟨z,its,n,r,k _ _ (.inl rfl) e⟩
  | tup xs => obtain ⟨z,its,r,ob,e,c⟩ := x; exact ⟨z,its,r,ob,k _ _ (.inl rfl) e,c⟩
  | dK aj => obtain ⟨z,y,vs,r,ob,es,ep,e,c⟩ := x; exact ⟨z,y,vs,r,ob,es,ep,k _ _ (.inl rfl) e,c⟩
  | dT aj =>
    obtain ⟨z,y,xs,r,ob,es,ep,e,c⟩ := x
    exact ⟨z,y,xs,Paired.yF r fun p q z => ⟨z.1,ht _ _ z.2.1,z.2.2⟩,ob,es,ep,k _ _ (.inl rfl) e,c⟩
  | set S n => obtain ⟨ob,es,ep,t,e,c⟩ := x; exact ⟨ob,es,ep,t,k _ _ (.inl rfl) e,c⟩
  | ins C dx fs =>
    obtain ⟨d,z,ne,e,mA,⟨od,es,ep,e2,c⟩,r⟩ := x
    exact ⟨ho _ d,z,ne,k _ _ (.inl rfl) e,mA,⟨od,es,ep,k _ _ (.inr d) e2,c⟩,r⟩
  | own y => obtain ⟨ob,e⟩ := x; exact ⟨ob,k _ _ (.inl rfl) e⟩
  | xd fs => obtain ⟨mA,⟨od,es,ep,e,c⟩,r⟩ := x; exact ⟨mA,⟨od,es,ep,k _ _ (.inl rfl) e,c⟩,r⟩
  | bQ lo hi => obtain ⟨t,u,v,e⟩ := x; exact ⟨t,u,v,k _ _ (.inl rfl) e⟩
  | dg ob u ih => obtain ⟨e,q⟩ := x; exact ⟨k _ _ (.inl rfl) e,ih q⟩
  | lz ps =>
    have e : h.get? a = some { cls := .none,data := .fields ps } := x
    show h'.get? a = some { cls := .none,data := .fields ps }
    exact k a _ (.inl rfl) e
  | met f y =>
    have e : h.get? a = some (PySem.W.methodObj (.ref f) (.ref y)) := x
    show h'.get? a = some (PySem.W.methodObj (.ref f) (.ref y))
    exact k a _ (.inl rfl) e
  | ext φ => obtain ⟨p,⟨o,e⟩,st⟩ := x; exact ⟨st _ _ p fun o q => k _ _ (.inl rfl) q,⟨o,k _ _ (.inl rfl) e⟩,st⟩
theorem bV.lt (x : bV P w H h) (e : H a = some o) : a < h.objs.size := (x a o e).lt
theorem bV.fresh (x : bV P w H h) (e : h.objs.size <= a) : H a = none := by
  cases q : H a with
  | none => rfl
  | some u => exact absurd (Nat.lt_of_lt_of_le (x.lt q) e) (Nat.lt_irrefl _)
theorem bV.kept (x : bV P w H h) (k : ∀ b u,h.get? b = some u -> h'.get? b = some u) : bV P w H h' := fun a o e =>
  (x a o e).i6 (fun b u _ q => k b u q) (fun _ q => q) fun _ _ q => q
theorem bV.laid (x : bV P w H h) (k : ∀ b u,h.get? b = some u -> h'.get? b = some u) (hp : h.objs.size <= a) (new : bU P w (upd H a o) h' a o) : bV P w (upd H a o) h' := fun b u e => by
  have hn := x.fresh hp
  by_cases hb : b = a
  · subst hb; rw [ck] at e; cases e; exact new
  · rw [aP hb] at e
    exact (x b u e).i6 (fun c v _ q => k c v q) (fun c q => by rw [aP (gG q hn)]; exact q) fun c xs q => by rw [aP (gG q hn)]; exact q
end
def Rd (H : Hp) (a : Addr) (u : HO) : Prop := H a = some u \/ ∃ o,H a = some (.dg o u)
theorem Rd.ok {P : Program} {w : World} {H : Hp} {h : Heap} {a : Addr} {u : HO} (r : Rd H a u) (x : bV P w H h) : bU P w H h a u := by
  rcases r with r | ⟨o,r⟩
  · exact x a u r
  · obtain ⟨_,q⟩ := x a _ r
    exact q
def qM : Option HO -> Prop
  | some (.lst _) => True
  | some (.dK _) => True
  | some (.dT _) => True
  | some (.set _ _) => True
  | some (.ins _ _ _) => True
  | some (.ext _) => True
  | _ => False
section
variable {P : Program} {w : World} {H : Hp} {h h' : Heap} {x e : Addr} {o' : HO}
theorem bV.write (ok : bV P w H h) (mu : qM (H x)) (he : e = x \/ H e = some (.own x)) (k : ∀ b u,b ≠ e -> h.get? b = some u -> h'.get? b = some u) (oo : ∃ u,h'.get? e = some u)
    (new : bU P w (upd H x o') h' x o') : bV P w (upd H x o') h' := fun b u q => by
  have HI : ∀ c y,H c = some (.own y) -> c ≠ x := fun c y r z => by subst z; rw [r] at mu; exact mu
  have SE : ∀ c xs,H c = some (.tup xs) -> c ≠ x := fun c xs r z => by subst z; rw [r] at mu; exact mu
  by_cases hb : b = x
  · subst hb; rw [ck] at q; cases q; exact new
  · rw [aP hb] at q
    by_cases lA : b = e
    · have q' : H b = some (.own x) := by
        rcases he with z | z
        · exact absurd (lA.trans z) hb
        · rw [lA]; exact z
      rw [q] at q'; cases q'
      obtain ⟨v,hv⟩ := oo
      exact ⟨v,by rw [lA]; exact hv⟩
    · refine (ok b u q).i6 (fun c v hc r => k c v ?_ r) (fun c r => by rw [aP (HI c b r)]; exact r) fun c xs r => by rw [aP (SE c xs r)]; exact r
      rcases hc with rfl | hc
      · exact lA
      · rintro rfl
        rcases he with z | z
        · exact HI c b hc z
        · rw [hc] at z; cases z; exact hb rfl
end
structure Un (fs ex : List Addr) (H H' : Hp) (h h' : Heap) : Prop where
  keep : ∀ b o,h.get? b = some o -> H b = none -> b ∉ fs -> b ∉ ex -> h'.get? b = some o
  slot : ∀ b o,h.get? b = some o -> H b = none -> b ∈ fs -> b ∉ ex -> ∃ sl,h'.get? b = some { o with slots := sl }
  free : ∀ b o,h.get? b = some o -> H b = none -> b ∉ ex -> H' b = none
  there : ∀ b o,h.get? b = some o -> b ∉ ex -> ∃ o',h'.get? b = some o'
  iE : ∀ b xs,H b = some (.tup xs) -> H' b = some (.tup xs)
  gN : ∀ b o u,H b = some (.dg o u) -> H' b = some (.dg o u)
  iF : ∀ b ps,H b = some (.lz ps) -> ∃ more,H' b = some (.lz (ps ++ more))
section
variable {fs Xf ex ex' : List Addr} {H H1 H2 : Hp} {h h1 h2 h' : Heap} {a x e : Addr} {o : HO}
theorem Un.any (u : Un fs ex H H1 h h1) {b : Addr} {ob : Obj} (q : h.get? b = some ob) (n : H b = none) (hx : b ∉ ex) : ∃ sl,h1.get? b = some { ob with slots := sl } := by
  by_cases hb : b ∈ fs
  · exact u.slot b ob q n hb hx
  · exact ⟨ob.slots,u.keep b ob q n hb hx⟩
theorem Un.kept (k : ∀ b u,h.get? b = some u -> h'.get? b = some u) : Un fs ex H H h h' :=
  ⟨fun b ob q _ _ _ => k b ob q,fun b ob q _ _ _ => ⟨ob.slots,k b ob q⟩,fun _ _ _ n _ => n,fun b ob q _ => ⟨ob,k b ob q⟩,fun _ _ q => q,fun _ _ _ q => q,fun _ ps q => ⟨#[],by rw [q]; simp⟩⟩
theorem Un.refl : Un fs ex H H h h := Un.kept fun _ _ q => q
theorem Un.laid (k : ∀ b u,h.get? b = some u -> h'.get? b = some u) (hp : h.objs.size <= a) (hn : H a = none) : Un fs ex H (upd H a o) h h' where
  keep := fun b u q _ _ _ => k b u q
  slot := fun b u q _ _ _ => ⟨u.slots,k b u q⟩
  free := fun b u q n _ => by rw [aP (Nat.ne_of_lt (Nat.lt_of_lt_of_le (Heap.lt_size q) hp))]; exact n
  there := fun b u q _ => ⟨u,k b u q⟩
  iE := fun b xs q => by rw [aP (gG q hn)]; exact q
  gN := fun b u xs q => by rw [aP (gG q hn)]; exact q
  iF := fun b ps q => ⟨#[],by rw [aP (gG q hn),q]; simp⟩
theorem Un.write (mu : qM (H x)) (he : e = x \/ H e = some (.own x)) (k : ∀ b u,b ≠ e -> h.get? b = some u -> h'.get? b = some u) (oo : ∃ u,h'.get? e = some u) : Un fs ex H (upd H x o) h h' := by
  have hx : ∀ b,H b = none -> b ≠ x := fun b n z => by subst z; rw [n] at mu; exact mu
  have hb : ∀ b,H b = none -> b ≠ e := fun b n z => by
    subst z
    rcases he with r | r
    · exact hx b n r
    · rw [n] at r; cases r
  have hm : ∀ b u,H b = some u -> ¬ qM (some u) -> b ≠ x := fun b u q nm z => by subst z; rw [q] at mu; exact nm mu
  refine ⟨fun b u q n _ _ => k b u (hb b n) q,fun b u q n _ _ => ⟨u.slots,k b u (hb b n) q⟩,fun b u q n _ => by rw [aP (hx b n)]; exact n,fun b u q _ => ?_,
    fun b xs q => by rw [aP (hm b _ q fun z => z)]; exact q,fun b u xs q => by rw [aP (hm b _ q fun z => z)]; exact q,fun b ps q => ⟨#[],by rw [aP (hm b _ q fun z => z),q]; simp⟩⟩
  by_cases lA : b = e
  · subst lA; exact oo
  · exact ⟨u,k b u lA q⟩
end
def tW (h : Heap) (H : Hp) : List Addr := (List.range h.objs.size).filter fun a => (H a).isSome
def i7 (h : Heap) (H : Hp) : Heap := PySem.W.hideAll h (tW h H)
theorem M5 (h : Heap) (H : Hp) : (i7 h H).objs.size = h.objs.size := PySem.W.hideAll_size _ _
theorem NW {h : Heap} {H : Hp} {b : Addr} {o : Obj} (e : h.get? b = some o) (n : H b = none) : (i7 h H).get? b = some o :=
  PySem.W.hideAll_get _ e fun hm => by
    have q : (H b).isSome = true := (List.mem_filter.mp hm).2
    rw [n] at q; simp at q
theorem OW {h : Heap} {H : Hp} {b : Addr} {o : Obj} (e : (i7 h H).get? b = some o) : h.get? b = some o /\ H b = none := by
  have e' : h.get? b = some o := PySem.W.of_hideAll (tW h H) e
  refine ⟨e',?_⟩
  cases q : H b with
  | none => rfl
  | some x =>
    have hm : b ∈ tW h H := List.mem_filter.mpr ⟨List.mem_range.mpr (Heap.lt_size e'),by simp [q]⟩
    have z : (i7 h H).get? b = none := PySem.W.hideAll_none (tW h H) hm
    rw [z] at e; cases e
end L2
namespace L2
open PySem PySem.Spec PyProof.Rows
structure Mod (K : PySem.W.Frag) (mg : Str -> Option Value) (base : Heap) : Prop where
  tX : K.In base
  glob : base.Ns mainGlobals mg
  blt : ∃ mb,base.Ns builtinsNs mb /\ ∀ x : Str,x ≠ "__name__" -> mb x = bootBuiltins x
  nolimit : base.NoLimit
structure Cx where
  prog : Program
  w : World
  K : PySem.W.Frag
  mg : Str -> Option Value
  base : Heap
  A : Around
  N : List Str
  cM : Shared
  qw : Hp
  env : Env
  outer : List Env
  stack : List Env
  ex : List Addr
  fn : Str -> Bool
  calm : Bool
  pn : List (Addr × Obj)
  xe : Value -> Shared -> Prop
def cW (l : List Env) : List Addr := l.filterMap (·.frame)
abbrev Cx.fs (X : Cx) : List Addr := cW X.outer
def gS (sc : Scope) (x : Str) : Prop := sc.names.lookup x = some .local \/ sc.names.lookup x = some .cell \/ sc.names.lookup x = some .free
def Loc (sc : Scope) (x : Str) : Prop := sc.names.lookup x = some .local \/ sc.names.lookup x = some .cell
def Look (env : Env) (h : Heap) (m : Str -> Option Value) (x : Str) (u : Value) : Prop :=
  (env.kindOf x = some .local /\ m x = some u) \/ ((env.kindOf x = some .cell \/ env.kindOf x = some .free) /\ ∃ c,env.cells.lookup x = some c /\ h.IsCell c (some u))
structure Cx.Ok (X : Cx) : Prop where
  mod : Mod X.K X.mg X.base
  kind : X.env.scope.kind = .function
  glob : X.env.globals = mainGlobals
  blt : X.env.builtins = builtinsNs
  above : X.cM.heap.objs.size <= X.env.locals
  inj : ∀ x y c,X.env.cells.lookup x = some c -> X.env.cells.lookup y = some c -> x = y
  has : ∀ x,(X.env.kindOf x = some .cell \/ X.env.kindOf x = some .free) -> ∃ c,X.env.cells.lookup x = some c
  qN : ∀ x c,X.fn x = true -> X.env.cells.lookup x = some c -> X.cM.heap.objs.size <= c
  hd : X.calm = true -> X.A.handled = none
  frames : X.A.frames = some X.stack
  lC : X.stack = X.outer \/ (X.stack = X.env :: X.outer /\ X.env.frame = some X.env.locals)
  Jh : ∀ b ∈ X.ex,b ≠ X.env.locals /\ ∀ x c,X.env.cells.lookup x = some c -> c ≠ b
  bs : ∀ b o,X.base.get? b = some o -> X.cM.heap.get? b = some o /\ X.qw b = none
  lD : X.base.objs.size <= X.cM.heap.objs.size
  qA : ∀ b o,X.base.get? b = some o -> b ∉ X.ex
  tH : ∀ b ∈ X.ex,b ∉ X.fs
  gO : X.cM.heap.FunFrames X.base X.outer
  oq : ∀ b ∈ X.fs,X.qw b = none
structure Inv (X : Cx) (pins : List (Addr × Obj)) (σ : List (Option V)) (H : Hp) (s : Shared) : Prop where
  ok : X.Ok
  os : s.os = X.cM.os
  bare : AllBare s.gens
  base : Un X.fs X.ex X.qw H X.cM.heap s.heap
  loc : ∃ m,s.heap.Ns X.env.locals m /\ ∀ (i : Nat) (x : Str) (v : V),X.N[i]? = some x -> σ[i]? = some (some v) -> gS X.env.scope x -> ∃ u,RelV v u /\ Look X.env s.heap m x u
  cell : ∀ x c,X.env.cells.lookup x = some c -> ∃ v,s.heap.IsCell c v
  free : H X.env.locals = none
  iB : ∀ x c,X.env.cells.lookup x = some c -> H c = none
  pin : ∀ p ∈ X.pn ++ pins,s.heap.get? p.1 = some p.2 /\ H p.1 = none /\ p.1 ≠ X.env.locals /\ p.1 ∉ X.fs /\ ∀ v,p.2.data ≠ .cell v
  ay : bV X.prog X.w H s.heap
  len : σ.length = X.N.length
section
variable {X : Cx} {pins : List (Addr × Obj)} {σ : List (Option V)} {H H' : Hp} {s : Shared} {h' : Heap}
theorem Cx.Ok.SF (ok : X.Ok) {b : Addr} {o : Obj} (e : X.base.get? b = some o) : b ∉ X.fs := fun hb => by
  have := (ok.gO.mem hb).1
  rw [e] at this; cases this
theorem Inv.bs (I : Inv X pins σ H s) : ∀ b o,X.base.get? b = some o -> s.heap.get? b = some o /\ H b = none := fun b o e =>
  ⟨I.base.keep b o (I.ok.bs b o e).1 (I.ok.bs b o e).2 (I.ok.SF e) (I.ok.qA b o e),I.base.free b o (I.ok.bs b o e).1 (I.ok.bs b o e).2 (I.ok.qA b o e)⟩
theorem Inv.bk (I : Inv X pins σ H s) : ∀ b o,X.base.get? b = some o -> s.heap.get? b = some o := fun b o e => (I.bs b o e).1
theorem Inv.mod (I : Inv X pins σ H s) : Mod X.K X.mg X.base := I.ok.mod
theorem Inv.dh (I : Inv X pins σ H s) : X.K.In s.heap := I.ok.mod.tX.keeps I.bk
theorem Inv.lt (I : Inv X pins σ H s) : X.env.locals < s.heap.objs.size := let ⟨_,hn,_⟩ := I.loc; hn.lt
theorem Inv.sz (I : Inv X pins σ H s) : X.cM.heap.objs.size <= s.heap.objs.size := Nat.le_trans I.ok.above (Nat.le_of_lt I.lt)
theorem Inv.SG (I : Inv X pins σ H s) {a : Addr} (h : s.heap.objs.size <= a) : a ∉ X.fs := fun hb => by
  obtain ⟨_,o,ho,_⟩ := I.ok.gO.mem hb
  exact absurd (Nat.lt_of_lt_of_le (Heap.lt_size ho) (Nat.le_trans I.sz h)) (Nat.lt_irrefl _)
theorem Inv.lE (I : Inv X pins σ H s) : ∀ x c,X.env.cells.lookup x = some c -> c ≠ X.env.locals := fun x c e z => by
  obtain ⟨v,o,ho,hd⟩ := I.cell x c e
  obtain ⟨m,⟨o',es,ep,gT,qO,_⟩,_⟩ := I.loc
  rw [z,gT] at ho; cases ho; rw [qO] at hd; cases hd
theorem Inv.gO (I : Inv X pins σ H s) : s.heap.FunFrames X.base X.outer := by
  have all : ∀ (l : List Env),(∀ b ∈ cW l,b ∈ X.fs) -> X.cM.heap.FunFrames X.base l -> s.heap.FunFrames X.base l := by
    intro l
    induction l with
    | nil => intro _ _; trivial
    | cons env r ih =>
      intro hs hl
      obtain ⟨hk,⟨L,o,hf,hn,ho,hd⟩,hr⟩ := hl
      have hL : L ∈ X.fs := hs L (by unfold cW; rw [List.filterMap_cons,hf]; exact List.mem_cons_self)
      obtain ⟨sl,e⟩ := I.base.slot L o ho (I.ok.oq L hL) hL fun z => I.ok.tH L z hL
      exact ⟨hk,⟨L,_,hf,hn,e,hd⟩,ih (fun b hb => hs b (by unfold cW; rw [List.filterMap_cons,hf]; exact List.mem_cons_of_mem _ hb)) hr⟩
  exact all X.outer (fun _ hb => hb) I.ok.gO
theorem Inv.stack (I : Inv X pins σ H s) : s.heap.FunFrames X.base X.stack := by
  rcases I.ok.lC with e | ⟨e,hf⟩
  · rw [e]; exact I.gO
  · rw [e]
    obtain ⟨m,hn,_⟩ := I.loc
    refine .cons (by rw [I.ok.kind]; decide) hf hn ?_ I.gO
    exact Heap.get?_none_of_le (Nat.le_trans I.ok.lD I.ok.above)
theorem Inv.pR (I : Inv X pins σ H s) : ∀ b ∈ cW X.stack,b ∈ X.env.locals :: X.fs := fun b hb => by
  rcases I.ok.lC with e | ⟨e,hf⟩
  · rw [e] at hb; exact List.mem_cons_of_mem _ hb
  · rw [e] at hb
    unfold cW at hb
    rw [List.filterMap_cons,hf] at hb
    exact hb
theorem Inv.Es (I : Inv X pins σ H s) : ∀ b ∈ cW X.stack,H b = none := fun b hb => by
  rcases List.mem_cons.mp (I.pR b hb) with e | hb
  · rw [e]; exact I.free
  · obtain ⟨_,o,ho,_⟩ := I.ok.gO.mem hb
    exact I.base.free b o ho (I.ok.oq b hb) fun z => I.ok.tH b z hb
theorem Inv.step {g' : Array GenState} {t' : Nat} {d' : Drawn} {ch : List Addr} (I : Inv X pins σ H s)
    (iI : ∀ b ∈ ch,(b ∈ X.ex \/ X.cM.heap.objs.size <= b) /\ b ≠ X.env.locals /\ (∀ x c,X.env.cells.lookup x = some c -> c ≠ b) /\ ∀ p ∈ X.pn ++ pins,p.1 ≠ b)
    (keep : ∀ b o,b ≠ X.env.locals -> b ∉ X.fs -> b ∉ ch -> s.heap.get? b = some o -> H b = none -> h'.get? b = some o)
    (slot : ∀ b o,b ≠ X.env.locals -> b ∈ X.fs -> b ∉ ch -> s.heap.get? b = some o -> H b = none -> ∃ sl,h'.get? b = some { o with slots := sl }) (free : ∀ b o,b ∉ ch -> s.heap.get? b = some o -> H b = none -> H' b = none)
    (there : ∀ b o,b ∉ ch -> s.heap.get? b = some o -> ∃ o',h'.get? b = some o')
    (iE : ∀ b xs,H b = some (.tup xs) -> H' b = some (.tup xs)) (gN : ∀ b o u,H b = some (.dg o u) -> H' b = some (.dg o u)) (iF : ∀ b ps,H b = some (.lz ps) -> ∃ more,H' b = some (.lz (ps ++ more)))
    (ns : ∀ m,s.heap.Ns X.env.locals m -> h'.Ns X.env.locals m) (ay : bV X.prog X.w H' h') (hg : AllBare g') :
    Inv X pins σ H' { s with heap := h',gens := g',drawn := d',toks := t' } := by
  have Ji : ∀ b o,X.cM.heap.get? b = some o -> b ≠ X.env.locals := fun b o e => Nat.ne_of_lt (Nat.lt_of_lt_of_le (Heap.lt_size e) I.ok.above)
  have tY : ∀ b o,X.cM.heap.get? b = some o -> b ∉ X.ex -> b ∉ ch := fun b o e hx hb => by
    rcases (iI b hb).1 with z | z
    · exact hx z
    · exact absurd (Nat.lt_of_lt_of_le (Heap.lt_size e) z) (Nat.lt_irrefl _)
  have cellK : ∀ x c,X.env.cells.lookup x = some c -> ∀ v,s.heap.IsCell c v -> h'.IsCell c v := fun x c e v ⟨o,ho,hd⟩ => by
    have qP : c ∉ ch := fun z => (iI c z).2.2.1 x c e rfl
    by_cases hc : c ∈ X.fs
    · obtain ⟨sl,q⟩ := slot c o (I.lE x c e) hc qP ho (I.iB x c e)
      exact ⟨_,q,hd⟩
    · exact ⟨o,keep c o (I.lE x c e) hc qP ho (I.iB x c e),hd⟩
  refine ⟨I.ok,I.os,hg,⟨fun b o e n hb hx => ?_,fun b o e n hb hx => ?_,fun b o e n hx => ?_,fun b o e hx => ?_,fun b xs e => iE b xs (I.base.iE b xs e),fun b o xs e => gN b o xs (I.base.gN b o xs e),fun b ps e => ?_⟩,?_,fun x c e => ?_,?_,fun x c e => ?_,fun p hp => ?_,ay,I.len⟩
  · exact keep b o (Ji b o e) hb (tY b o e hx) (I.base.keep b o e n hb hx) (I.base.free b o e n hx)
  · obtain ⟨sl,e1⟩ := I.base.slot b o e n hb hx
    obtain ⟨Xg,e2⟩ := slot b _ (Ji b o e) hb (tY b o e hx) e1 (I.base.free b o e n hx)
    exact ⟨Xg,e2⟩
  · obtain ⟨o',e1⟩ := I.base.there b o e hx
    exact free b o' (tY b o e hx) e1 (I.base.free b o e n hx)
  · obtain ⟨o',e1⟩ := I.base.there b o e hx
    exact there b o' (tY b o e hx) e1
  · obtain ⟨m1,e1⟩ := I.base.iF b ps e
    obtain ⟨m2,e2⟩ := iF b _ e1
    exact ⟨m1 ++ m2,by rw [e2,Array.append_assoc]⟩
  · obtain ⟨m,hn,hl⟩ := I.loc
    refine ⟨m,ns m hn,fun i x v e1 e2 e3 => ?_⟩
    obtain ⟨u,r,l⟩ := hl i x v e1 e2 e3
    refine ⟨u,r,?_⟩
    rcases l with l | ⟨k,c,e,z⟩
    · exact .inl l
    · exact .inr ⟨k,c,e,cellK x c e _ z⟩
  · obtain ⟨v,z⟩ := I.cell x c e
    exact ⟨v,cellK x c e v z⟩
  · obtain ⟨m,⟨o,_,_,ho,_⟩,_⟩ := I.loc
    exact free _ o (fun z => (iI _ z).2.1 rfl) ho I.free
  · obtain ⟨v,o,ho,hd⟩ := I.cell x c e
    exact free c o (fun z => (iI c z).2.2.1 x c e rfl) ho (I.iB x c e)
  · obtain ⟨e,n,ne,nf,d⟩ := I.pin p hp
    have qP : p.1 ∉ ch := fun z => (iI p.1 z).2.2.2 p hp rfl
    exact ⟨keep p.1 p.2 ne nf qP e n,free p.1 p.2 qP e n,ne,nf,d⟩
theorem Inv.un {t' : Nat} (I : Inv X pins σ H s) (u : Un X.fs [] H H' s.heap h') (ay : bV X.prog X.w H' h') : Inv X pins σ H' { s with heap := h',toks := t' } := by
  obtain ⟨m,⟨o,es,ep,ho,r⟩,_⟩ := id I.loc
  obtain ⟨sl,hL⟩ := u.any ho I.free (by simp)
  exact I.step (g' := s.gens) (d' := s.drawn) (ch := []) (fun _ z => nomatch z) (fun b o _ hb _ e n => u.keep b o e n hb (by simp)) (fun b o _ hb _ e n => u.slot b o e n hb (by simp)) (fun b o _ e n => u.free b o e n (by simp)) (fun b o _ e => u.there b o e (by simp)) u.iE u.gN u.iF (fun m' hm => by
    obtain ⟨o',zo,zp,gT,r'⟩ := hm
    rw [ho] at gT; cases gT
    exact ⟨_,zo,zp,hL,r'⟩) ay I.bare
theorem Inv.call {g' : Array GenState} {t' : Nat} {d' : Drawn} {ch : List Addr} (I : Inv X pins σ H s) (u : Un (cW X.stack) ch H H' s.heap h') (ay : bV X.prog X.w H' h') (hg : AllBare g')
    (iI : ∀ b ∈ ch,(b ∈ X.ex \/ X.cM.heap.objs.size <= b) /\ b ≠ X.env.locals /\ (∀ x c,X.env.cells.lookup x = some c -> c ≠ b) /\ ∀ p ∈ X.pn ++ pins,p.1 ≠ b) :
    Inv X pins σ H' { s with heap := h',gens := g',drawn := d',toks := t' } := by
  obtain ⟨m,⟨o,es,ep,ho,r⟩,_⟩ := id I.loc
  obtain ⟨sl,hL⟩ := u.any ho I.free fun z => (iI _ z).2.1 rfl
  exact I.step (ch := ch) iI (fun b o hL hb hc e n => u.keep b o e n (fun z => (List.mem_cons.mp (I.pR b z)).elim hL hb) hc) (fun b o _ _ hc e n => u.any e n hc) (fun b o hc e n => u.free b o e n hc) (fun b o hc e => u.there b o e hc) u.iE u.gN u.iF (fun m' hm => by
    obtain ⟨o',zo,zp,gT,r'⟩ := hm
    rw [ho] at gT; cases gT
    exact ⟨_,zo,zp,hL,r'⟩) ay hg
theorem Inv.turned {t' : Nat} {it : Addr} (I : Inv X pins σ H s) (k : ∀ b o,b ≠ it -> s.heap.get? b = some o -> h'.get? b = some o) (hn : H it = none) (hL : it ≠ X.env.locals)
    (h1 : it ∈ X.ex \/ X.cM.heap.objs.size <= it) (h2 : ∀ x c,X.env.cells.lookup x = some c -> c ≠ it) (h3 : ∀ p ∈ X.pn ++ pins,p.1 ≠ it) : Inv X pins σ H { s with heap := h',toks := t' } := by
  have jV : ∀ b u,H b = some u -> b ≠ it := fun b u e z => by rw [z,hn] at e; cases e
  refine I.step (g' := s.gens) (d' := s.drawn) (ch := [it]) (fun b hb => ?_) (fun b o _ _ hc e _ => k b o (fun z => hc (by simp [z])) e) (fun b o _ _ hc e _ => ⟨o.slots,k b o (fun z => hc (by simp [z])) e⟩) (fun _ _ _ _ n => n)
    (fun b o hc e => ⟨o,k b o (fun z => hc (by simp [z])) e⟩) (fun _ _ e => e) (fun _ _ _ e => e) (fun b ps e => ⟨#[],by rw [e]; simp⟩) (fun m hm => ?_) (fun b u e => ?_) I.bare
  · have e : b = it := by simpa using hb
    subst e
    exact ⟨h1,hL,h2,h3⟩
  · obtain ⟨o,es,ep,ho,r⟩ := hm
    exact ⟨o,es,ep,k _ o (Ne.symm hL) ho,r⟩
  · refine (I.ay b u e).i6 (fun c v hc q => k c v ?_ q) (fun _ q => q) fun _ _ q => q
    rcases hc with z | z
    · rw [z]; exact jV b u e
    · exact jV c _ z
theorem Inv.tok (I : Inv X pins σ H s) (t : Nat) : Inv X pins σ H { s with toks := t } := I.un (h' := s.heap) (t' := t) Un.refl I.ay
theorem Inv.kept {t' : Nat} (I : Inv X pins σ H s) (k : ∀ b u,s.heap.get? b = some u -> h'.get? b = some u) : Inv X pins σ H { s with heap := h',toks := t' } := I.un (Un.kept k) (I.ay.kept k)
theorem Inv.laid {a : Addr} {o : HO} {t' : Nat} (I : Inv X pins σ H s) (k : ∀ b u,s.heap.get? b = some u -> h'.get? b = some u) (hp : s.heap.objs.size <= a) (new : bU X.prog X.w (upd H a o) h' a o) :
    Inv X pins σ (upd H a o) { s with heap := h',toks := t' } := I.un (Un.laid k hp (I.ay.fresh hp)) (I.ay.laid k hp new)
theorem Inv.write {x e : Addr} {o : HO} {t' : Nat} (I : Inv X pins σ H s) (mu : qM (H x)) (he : e = x \/ H e = some (.own x)) (k : ∀ b u,b ≠ e -> s.heap.get? b = some u -> h'.get? b = some u) (oo : ∃ u,h'.get? e = some u)
    (new : bU X.prog X.w (upd H x o) h' x o) : Inv X pins σ (upd H x o) { s with heap := h',toks := t' } := I.un (Un.write mu he k oo) (I.ay.write mu he k oo new)
theorem Inv.Eu {GK : List (Addr × Obj)} (I : Inv X pins σ H s) (h : ∀ p ∈ GK,s.heap.get? p.1 = some p.2 /\ H p.1 = none /\ p.1 ≠ X.env.locals /\ p.1 ∉ X.fs /\ ∀ v,p.2.data ≠ .cell v) : Inv X GK σ H s :=
  ⟨I.ok,I.os,I.bare,I.base,I.loc,I.cell,I.free,I.iB,fun p hp => (List.mem_append.mp hp).elim (fun z => I.pin p (List.mem_append_left _ z)) (h p),I.ay,I.len⟩
theorem DI {N : List Str} (hN : N.Nodup) {i j : Nat} {x : Str} (a : N[i]? = some x) (b : N[j]? = some x) : i = j := by
  obtain ⟨h1,e1⟩ := List.getElem?_eq_some_iff.mp a
  obtain ⟨h2,e2⟩ := List.getElem?_eq_some_iff.mp b
  exact (List.getElem_inj hN).mp (e1.trans e2.symm)
theorem De {M : Model} {A : Around} {E : Value -> Shared -> Prop} {i : Nat} {x : Str} {v : V} {u : Value} {Q : Unit -> Shared -> Prop} (I : Inv X pins σ H s) (hN : X.N.Nodup) (hi : X.N[i]? = some x) (hx : Loc X.env.scope x) (r : RelV v u)
    (h : ∀ s',Inv X pins (σ.set i (some v)) H s' -> (∃ a,Heap.SameBut a s.heap s'.heap /\ (a = X.env.locals \/ X.env.cells.lookup x = some a)) -> Q () s') (hf : X.fn x = true \/ X.env.scope.names.lookup x = some .local := by first | exact .inl rfl | exact .inr rfl | assumption) : wpAny M A (storeName X.env x u) Q E s := by
  obtain ⟨m,hn,hl⟩ := id I.loc
  have SH : (X.env.scope.kind == .class || (X.env.scope.kind == .module && X.env.locals != X.env.globals)) = false := by rw [I.ok.kind]; rfl
  have HJ : i < σ.length := by rw [I.len]; exact (List.getElem?_eq_some_iff.mp hi).1
  have lE := I.lE
  have tracked : ∀ {a : Addr} {h' : Heap},(∃ o,s.heap.get? a = some o /\ H a = none) -> Heap.SameBut a s.heap h' -> bV X.prog X.w H h' := fun {a h'} ha hs b ob e => by
    obtain ⟨_,_,jK⟩ := ha
    refine (I.ay b ob e).i6 (fun c w' hc q => (hs.2 c ?_).trans q) (fun _ q => q) fun _ _ q => q
    rintro rfl
    rcases hc with rfl | hc
    · rw [jK] at e; cases e
    · rw [jK] at hc; cases hc
  rcases hx with hk | hk
  · refine wpAny_storeName_local hk hn (fun h' Xh hs => ?_) SH
    obtain ⟨oL,_,_,qQ,_⟩ := id hn
    refine h _ ⟨I.ok,I.os,I.bare,⟨fun b o e n hb hx => ?_,fun b o e n hb hx => ?_,I.base.free,fun b o e hx => ?_,I.base.iE,I.base.gN,I.base.iF⟩,⟨_,Xh,fun j y v' e1 e2 e3 => ?_⟩,fun y c e => ?_,I.free,I.iB,fun p hp => ?_,tracked ⟨oL,qQ,I.free⟩ hs,by simpa using I.len⟩ ⟨_,hs,.inl rfl⟩
    · exact (hs.2 b (Nat.ne_of_lt (Nat.lt_of_lt_of_le (Heap.lt_size e) I.ok.above))).trans (I.base.keep b o e n hb hx)
    · obtain ⟨sl,e1⟩ := I.base.slot b o e n hb hx
      exact ⟨sl,(hs.2 b (Nat.ne_of_lt (Nat.lt_of_lt_of_le (Heap.lt_size e) I.ok.above))).trans e1⟩
    · obtain ⟨o',e1⟩ := I.base.there b o e hx
      exact ⟨o',(hs.2 b (Nat.ne_of_lt (Nat.lt_of_lt_of_le (Heap.lt_size e) I.ok.above))).trans e1⟩
    · by_cases hj : j = i
      · subst hj
        rw [hi] at e1; cases e1
        rw [List.getElem?_set_self HJ] at e2
        cases e2
        exact ⟨u,r,.inl ⟨hk,by simp⟩⟩
      · rw [List.getElem?_set_ne (Ne.symm hj)] at e2
        obtain ⟨u',r',q⟩ := hl j y v' e1 e2 e3
        refine ⟨u',r',?_⟩
        rcases q with ⟨k,e⟩ | ⟨k,c,e,z⟩
        · refine .inl ⟨k,?_⟩
          have : y ≠ x := fun e => hj (DI hN e1 (e ▸ hi))
          simp [this,e]
        · exact .inr ⟨k,c,e,z.sameBut hs (lE y c e)⟩
    · obtain ⟨w',z⟩ := I.cell y c e
      exact ⟨w',z.sameBut hs (lE y c e)⟩
    · obtain ⟨e,n,ne,nf,d⟩ := I.pin p hp
      exact ⟨(hs.2 p.1 ne).trans e,n,ne,nf,d⟩
  · have zq : X.fn x = true := by
      rcases hf with z | z
      · exact z
      · rw [z] at hk; cases hk
    obtain ⟨c,hc⟩ := I.ok.has x (.inl hk)
    obtain ⟨w',z⟩ := I.cell x c hc
    refine wpAny_storeName_cell I.ok.kind hk hc z (fun h' gF hs => ?_)
    obtain ⟨oc,Jj,SJ⟩ := id z
    refine h { s with heap := h' } ⟨I.ok,I.os,I.bare,⟨fun b o e n hb hx => ?_,fun b o e n hb hx => ?_,I.base.free,fun b o e hx => ?_,I.base.iE,I.base.gN,I.base.iF⟩,⟨m,hn.sameBut hs (Ne.symm (lE x c hc)),fun j y v' e1 e2 e3 => ?_⟩,fun y c' e => ?_,I.free,I.iB,fun p hp => ?_,tracked ⟨oc,Jj,I.iB x c hc⟩ hs,by simpa using I.len⟩ ⟨c,hs,.inr hc⟩
    · exact (hs.2 b (Nat.ne_of_lt (Nat.lt_of_lt_of_le (Heap.lt_size e) (I.ok.qN x c zq hc)))).trans (I.base.keep b o e n hb hx)
    · obtain ⟨sl,e1⟩ := I.base.slot b o e n hb hx
      exact ⟨sl,(hs.2 b (Nat.ne_of_lt (Nat.lt_of_lt_of_le (Heap.lt_size e) (I.ok.qN x c zq hc)))).trans e1⟩
    · obtain ⟨o',e1⟩ := I.base.there b o e hx
      exact ⟨o',(hs.2 b (Nat.ne_of_lt (Nat.lt_of_lt_of_le (Heap.lt_size e) (I.ok.qN x c zq hc)))).trans e1⟩
    · by_cases hj : j = i
      · subst hj
        rw [hi] at e1; cases e1
        rw [List.getElem?_set_self HJ] at e2
        cases e2
        exact ⟨u,r,.inr ⟨.inl hk,c,hc,gF⟩⟩
      · rw [List.getElem?_set_ne (Ne.symm hj)] at e2
        obtain ⟨u',r',q⟩ := hl j y v' e1 e2 e3
        refine ⟨u',r',?_⟩
        rcases q with q | ⟨k,c',e,z'⟩
        · exact .inl q
        · refine .inr ⟨k,c',e,z'.sameBut hs ?_⟩
          rintro rfl
          exact hj (DI hN e1 (I.ok.inj _ _ _ e hc ▸ hi))
    · by_cases Jk : c' = c
      · subst Jk; exact ⟨_,gF⟩
      · obtain ⟨w2,z2⟩ := I.cell y c' e
        exact ⟨w2,z2.sameBut hs Jk⟩
    · obtain ⟨e,n,ne,nf,d⟩ := I.pin p hp
      refine ⟨(hs.2 p.1 ?_).trans e,n,ne,nf,d⟩
      intro q
      rw [q,Jj] at e
      have q' : oc = p.2 := Option.some.inj e
      exact d w' (by rw [<- q']; exact SJ)
theorem DJ {M : Model} {A : Around} {E : Value -> Shared -> Prop} {i : Nat} {x : Str} {v : V} {u : Value} {Q : Unit -> Shared -> Prop} (I : Inv X pins σ H s) (hN : X.N.Nodup) (hi : X.N[i]? = some x) (hx : Loc X.env.scope x) (r : RelV v u)
    (h : ∀ s',Inv X pins (σ.set i (some v)) H s' -> Q () s') (hf : X.fn x = true \/ X.env.scope.names.lookup x = some .local := by first | exact .inl rfl | exact .inr rfl | assumption) : wpAny M A (storeName X.env x u) Q E s :=
  De I hN hi hx r (fun s' I' _ => h s' I') hf
theorem Inv.GL {s' : Shared} {ch : List Addr} (I : Inv X pins σ H s) (ho : s'.os = s.os) (u : Un (cW X.stack) ch H H' s.heap s'.heap) (ay : bV X.prog X.w H' s'.heap) (hg : AllBare s'.gens)
    (iI : ∀ b ∈ ch,(b ∈ X.ex \/ X.cM.heap.objs.size <= b) /\ b ≠ X.env.locals /\ (∀ x c,X.env.cells.lookup x = some c -> c ≠ b) /\ ∀ p ∈ X.pn ++ pins,p.1 ≠ b) : Inv X pins σ H' s' := by
  obtain ⟨h',g',d',t',o'⟩ := s'
  have e : o' = s.os := ho
  subst e
  exact I.call (g' := g') (t' := t') (d' := d') u ay hg iI
end
abbrev XK := Value -> Option Addr -> Hp -> Prop
abbrev St := List (Option V)
abbrev VK := V -> Hp -> Prop
abbrev TE := St -> Hp -> VK -> Prop
abbrev TT := St -> Hp -> (Bool -> Hp -> Prop) -> Prop
abbrev TA := St -> Hp -> (List V -> Hp -> Prop) -> Prop
structure Ends where
  nx : St -> Hp -> Prop
  rt : VK
  bk : St -> Hp -> Prop := fun _ _ => False
  ct : St -> Hp -> Prop := fun _ _ => False
abbrev TS := Ends -> St -> Hp -> Prop
def EP (X : Cx) (pins : List (Addr × Obj)) (σ : St) (Q : VK) (u : Value) (s' : Shared) : Prop := ∃ v H',Inv X pins σ H' s' /\ RelV v u /\ Q v H'
def TP (X : Cx) (pins : List (Addr × Obj)) (σ : St) (Q : Bool -> Hp -> Prop) (b : Bool) (s' : Shared) : Prop := ∃ H',Inv X pins σ H' s' /\ Q b H'
def AP (X : Cx) (pins : List (Addr × Obj)) (σ : St) (Q : List V -> Hp -> Prop) (us : List Value) (s' : Shared) : Prop := ∃ vs H',Inv X pins σ H' s' /\ Vals vs us /\ Q vs H'
def SP (X : Cx) (pins : List (Addr × Obj)) (D : Ends) (f : Flow) (s' : Shared) : Prop :=
  match f with
  | .next => ∃ ao H',Inv X pins ao H' s' /\ D.nx ao H'
  | .brk => ∃ ao H',Inv X pins ao H' s' /\ D.bk ao H'
  | .cont => ∃ ao H',Inv X pins ao H' s' /\ D.ct ao H'
  | .ret u => ∃ v ao H',Inv X pins ao H' s' /\ RelV v u /\ D.rt v H'
def PE (X : Cx) (e : Expr) (t : TE) : Prop :=
  ∀ (pins : List (Addr × Obj)) (s : Shared) (σ : St) (H : Hp) (Q : VK),Inv X pins σ H s -> t σ H Q -> wpAny (model X.prog X.w) X.A (eval e X.env) (EP X pins σ Q) X.xe s
def PT (X : Cx) (e : Expr) (t : TT) : Prop :=
  ∀ (pins : List (Addr × Obj)) (s : Shared) (σ : St) (H : Hp) (Q : Bool -> Hp -> Prop),Inv X pins σ H s -> t σ H Q -> wpAny (model X.prog X.w) X.A (isTrue e X.env (eval e X.env)) (TP X pins σ Q) X.xe s
def PW (X : Cx) (e : Expr) (t : TT) : Prop :=
  ∀ (whole : Sem Value) (pins : List (Addr × Obj)) (s : Shared) (σ : St) (H : Hp) (Q : Bool -> Hp -> Prop),Inv X pins σ H s -> t σ H Q -> wpAny (model X.prog X.w) X.A (isTrue e X.env whole) (TP X pins σ Q) X.xe s
theorem PW.pt {X : Cx} {e : Expr} {t : TT} (h : PW X e t) : PT X e t := h _
def PA (X : Cx) (es : List Expr) (t : TA) : Prop :=
  ∀ (pos : Pos) (pins : List (Addr × Obj)) (s : Shared) (σ : St) (H : Hp) (Q : List V -> Hp -> Prop),Inv X pins σ H s -> t σ H Q -> wpAny (model X.prog X.w) X.A (spliced (backTo pos (starEach es X.env))) (AP X pins σ Q) X.xe s
def PS (X : Cx) (st : Stmt) (t : TS) : Prop :=
  ∀ (pins : List (Addr × Obj)) (s : Shared) (σ : St) (H : Hp) (D : Ends),Inv X pins σ H s -> t D σ H -> wpAny (model X.prog X.w) X.A (exec st X.env) (SP X pins D) X.xe s
def eM (X : Cx) (st : List Stmt) (t : TS) : Prop :=
  ∀ (pins : List (Addr × Obj)) (s : Shared) (σ : St) (H : Hp) (D : Ends),Inv X pins σ H s -> t D σ H -> wpAny (model X.prog X.w) X.A (execs st X.env) (SP X pins D) X.xe s
theorem ax {α : Type} {t : Sem α} {Q Q' : α -> Shared -> Prop} {M : Model} {A : Around} {E : Value -> Shared -> Prop} {s : Shared} (h : wpAny M A t Q E s) (hQ : ∀ a s,Q a s -> Q' a s) : wpAny M A t Q' E s := wpAny_mono h hQ fun _ _ x => x
end L2
namespace L2
open PySem PySem.Spec PyProof.Rows
section
variable {X : Cx}
def bb (i : Nat) : TE := fun σ H Q => ∃ v,σ[i]? = some (some v) /\ Q v H
def tC (v : V) : TE := fun _ H Q => Q v H
theorem kC {i : Nat} {x : Str} {pos : Pos} (hN : X.N[i]? = some x) (hv : gS X.env.scope x) (hd : (x == ("__debug__" : Str)) = false := by decide) (fj : (x == ("__classdict__" : Str)) = false := by decide) : PE X (.Name x pos) (bb i) := by
  intro pins s σ H Q I h
  obtain ⟨v,e,h⟩ := h
  obtain ⟨m,hn,hl⟩ := I.loc
  obtain ⟨u,r,l⟩ := hl i x v hN e hv
  have fin : EP X pins σ Q u s := ⟨v,H,I,r,h⟩
  rcases l with ⟨hk,hm⟩ | ⟨hk,c,hc,GN⟩
  · exact wpAny_Name (wpAny_loadName_local I.ok.kind hk hn hm fin) hd
  · rcases hk with hk | hk
    · exact wpAny_Name (wpAny_loadName_cell I.ok.kind hk hc GN fin) hd
    · exact wpAny_Name (wpAny_loadName_free I.ok.kind hk hc GN fin fj) hd
theorem sN {i j pos} : PE X (.Constant (.int i) j pos) (tC (.int i)) := fun _ _ _ H _ I h => wpAny_Constant_int ⟨.int i,H,I.tok _,⟨_,rfl⟩,h⟩
theorem QK {j pos} : PE X (.Constant .none j pos) (tC .aF) := fun _ _ _ H _ I h => Constant_none ⟨.aF,H,I,rfl,h⟩
theorem Fm {x j pos} : PE X (.Constant (.str x) j pos) (tC (.str x)) := fun _ _ _ H _ I h => Calls.Constant_str ⟨.str x,H,I.tok _,⟨_,rfl⟩,h⟩
def Gl (X : Cx) (x : Str) : Prop := X.env.kindOf x = some .globalImplicit
theorem wV {E : Value -> Shared -> Prop} {pins : List (Addr × Obj)} {s : Shared} {σ : St} {H : Hp} {x : Str} {u : Value} {pos : Pos} {Q : Value -> Shared -> Prop} (I : Inv X pins σ H s) (hg : Gl X x) (hm : X.mg x = some u) (h : Q u s)
    (hd : (x == ("__debug__" : Str)) = false := by decide) : wpAny (model X.prog X.w) X.A (eval (.Name x pos) X.env) Q E s :=
  Calls.Name_function_global I.ok.kind hg (Calls.loadGlobal_global (by rw [I.ok.glob]; exact I.mod.glob.keeps I.bk) hm h) hd
theorem kD {E : Value -> Shared -> Prop} {pins : List (Addr × Obj)} {s : Shared} {σ : St} {H : Hp} {x : Str} {u : Value} {pos : Pos} {Q : Value -> Shared -> Prop} (I : Inv X pins σ H s) (hg : Gl X x) (hm : X.mg x = none) (hv : bootBuiltins x = some u) (h : Q u s)
    (hn : x ≠ "__name__" := by decide) (hd : (x == ("__debug__" : Str)) = false := by decide) : wpAny (model X.prog X.w) X.A (eval (.Name x pos) X.env) Q E s := by
  obtain ⟨mb,h1,h2⟩ := I.mod.blt
  exact Calls.Name_function_global I.ok.kind hg (Calls.loadGlobal_builtin (by rw [I.ok.glob]; exact I.mod.glob.keeps I.bk) hm (by rw [I.ok.blt]; exact h1.keeps I.bk) ((h2 x hn).trans hv) h) hd
theorem OX {x : Str} {v : V} {u : Value} {pos : Pos} (hg : Gl X x) (hm : X.mg x = some u) (r : RelV v u) (hd : (x == ("__debug__" : Str)) = false := by decide) : PE X (.Name x pos) (tC v) :=
  fun _ _ _ H _ I h => wV I hg hm ⟨v,H,I,r,h⟩ hd
theorem OY {x : Str} {v : V} {u : Value} {pos : Pos} (hg : Gl X x) (hm : X.mg x = none) (hv : bootBuiltins x = some u) (r : RelV v u) (hn : x ≠ "__name__" := by decide) (hd : (x == ("__debug__" : Str)) = false := by decide) : PE X (.Name x pos) (tC v) :=
  fun _ _ _ H _ I h => kD I hg hm hv ⟨v,H,I,r,h⟩ hn hd
variable {a b : Expr} {ta tb : TE} {pos : Pos}
def tB (t : TE) : TT := fun σ H Q => t σ H fun x H1 => ∃ c,x = .bl c /\ Q c H1
theorem QL {e : Expr} {t : TE} (h : PE X e t) (he : ∀ whole,isTrue e X.env whole = (do let v <- whole; standAt e.pos; holding [v] (truthy v)) := by intro _; rfl) : PT X e (tB t) := by
  intro pins s σ H Q I hw
  refine isTrue_plain (ax (h pins s σ H _ I hw) fun v s1 ⟨x,H1,I1,r1,q1⟩ => ?_) (he _)
  obtain ⟨d,rfl,q⟩ := q1
  cases r1
  exact wpAny_truthy_bool ⟨H1,I1,q⟩
variable {tA tZ : TT} {rest : List Expr}
def yG (t u : TT) : TT := fun σ H Q => t σ H fun c H1 => if c = true then u σ H1 Q else Q false H1
def zr (t u : TT) : TT := fun σ H Q => t σ H fun c H1 => if c = true then Q true H1 else u σ H1 Q
def HK (t : TT) : TT := fun σ H Q => t σ H fun c H1 => Q (!c) H1
theorem OZ (ha : PT X a tA) : PW X (.BoolOp .And [a] pos) tA := by
  intro wh pins s σ H Q I h
  refine isTrue_and (ax (ha pins s σ H Q I h) fun c s1 e => ?_)
  cases c with
  | true => exact isTrue_and_nil e
  | false => exact e
theorem QM (ha : PT X a tA) : PW X (.BoolOp .Or [a] pos) tA := by
  intro wh pins s σ H Q I h
  refine isTrue_or (ax (ha pins s σ H Q I h) fun c s1 e => ?_)
  cases c with
  | false => exact isTrue_or_nil e
  | true => exact e
theorem Fo (ha : PT X a tA) (hb : PW X (.BoolOp .And (b :: rest) pos) tZ) : PW X (.BoolOp .And (a :: b :: rest) pos) (yG tA tZ) := by
  intro wh pins s σ H Q I h
  refine isTrue_and (ax (ha pins s σ H _ I h) fun c s1 ⟨H1,I1,q1⟩ => ?_)
  cases c with
  | true => exact hb wh pins s1 σ H1 Q I1 q1
  | false => exact ⟨H1,I1,q1⟩
theorem GO (ha : PT X a tA) (hb : PW X (.BoolOp .Or (b :: rest) pos) tZ) : PW X (.BoolOp .Or (a :: b :: rest) pos) (zr tA tZ) := by
  intro wh pins s σ H Q I h
  refine isTrue_or (ax (ha pins s σ H _ I h) fun c s1 ⟨H1,I1,q1⟩ => ?_)
  cases c with
  | true => exact ⟨H1,I1,q1⟩
  | false => exact hb wh pins s1 σ H1 Q I1 q1
theorem QN (ha : PT X a tA) : PT X (.UnaryOp .Not a pos) (HK tA) := by
  intro pins s σ H Q I h
  exact isTrue_not (ha pins s σ H (fun c H1 => Q (!c) H1) I h)
def xZ (ta tb : TE) : TE := fun σ H Q => ta σ H fun x H1 => ∃ c,x = .bl c /\ if c = true then tb σ H1 Q else Q (.bl false) H1
def yH (ta tb : TE) : TE := fun σ H Q => ta σ H fun x H1 => ∃ c,x = .bl c /\ if c = true then Q (.bl true) H1 else tb σ H1 Q
def GP (ta : TE) : TE := fun σ H Q => ta σ H fun x H1 => ∃ c,x = .bl c /\ Q (.bl (!c)) H1
theorem QO {op} {t : TE} (h : PE X a t) : PE X (.BoolOp op [a] pos) t := fun pins s σ H Q I hw => BoolOp_one (h pins s σ H Q I hw)
theorem Fp (ha : PE X a ta) (hb : PE X (.BoolOp .And (b :: rest) pos) tb) : PE X (.BoolOp .And (a :: b :: rest) pos) (xZ ta tb) := by
  intro pins s σ H Q I h
  refine BoolOp_and (ax (ha pins s σ H _ I h) fun v s1 ⟨x,H1,I1,r1,q1⟩ => ?_)
  obtain ⟨c,rfl,q1⟩ := q1
  cases r1
  refine wpAny_truthy_bool ?_
  cases c with
  | true => exact hb pins s1 σ H1 Q I1 q1
  | false => exact ⟨.bl false,H1,I1,rfl,q1⟩
theorem GQ (ha : PE X a ta) (hb : PE X (.BoolOp .Or (b :: rest) pos) tb) : PE X (.BoolOp .Or (a :: b :: rest) pos) (yH ta tb) := by
  intro pins s σ H Q I h
  refine BoolOp_or (ax (ha pins s σ H _ I h) fun v s1 ⟨x,H1,I1,r1,q1⟩ => ?_)
  obtain ⟨c,rfl,q1⟩ := q1
  cases r1
  refine wpAny_truthy_bool ?_
  cases c with
  | false => exact hb pins s1 σ H1 Q I1 q1
  | true => exact ⟨.bl true,H1,I1,rfl,q1⟩
theorem QP (ha : PE X a ta) : PE X (.UnaryOp .Not a pos) (GP ta) := by
  intro pins s σ H Q I h
  refine UnaryOp_ (ax (ha pins s σ H _ I h) fun v s1 ⟨x,H1,I1,r1,q1⟩ => ?_)
  obtain ⟨c,rfl,q1⟩ := q1
  cases r1
  exact not_of (wpAny_truthy_bool ⟨.bl (!c),H1,I1,rfl,q1⟩)
def zt (t : TT) (ta tb : TE) : TE := fun σ H Q => t σ H fun c H1 => if c = true then ta σ H1 Q else tb σ H1 Q
theorem DK {c : Expr} (hc : PT X c tA) (ha : PE X a ta) (hb : PE X b tb) : PE X (.IfExp c a b pos) (zt tA ta tb) := by
  intro pins s σ H Q I h
  refine wpAny_IfExp (ax (hc pins s σ H _ I h) fun d s1 ⟨H1,I1,q1⟩ => ?_)
  cases d with
  | true => exact ha pins s1 σ H1 Q I1 q1
  | false => exact hb pins s1 σ H1 Q I1 q1
end
end L2
namespace L2
open PySem PySem.Spec PyProof.Rows
def aD (K : PySem.W.Frag) (H : Hp) (a : Addr) (xs : List V) : Prop :=
  Rd H a (.lst xs) \/
    ∃ (o : Obj) (its : Array Value) (n : Nat),K.lookup a = some o /\ o.cls = .type "list" /\ o.dict = none /\ o.data = .seq its n /\ its.size <= sizeLine /\ Vals xs its.toList
def cE (K : PySem.W.Frag) (H : Hp) (a : Addr) (xs : List V) : Prop :=
  Rd H a (.tup xs) \/
    ∃ (o : Obj) (its : Array Value) (n : Nat),K.lookup a = some o /\ o.cls = .type "tuple" /\ o.data = .seq its n /\ its.size <= sizeLine /\ Vals xs its.toList
def SK : Value -> Option V
  | .none => some .aF
  | .bool b => some (.bl b)
  | .int i _ => some (.int i)
  | .str x _ => some (.str x)
  | .bytes b _ => some (.gE b)
  | .float b _ => some (.lu b)
  | .ref a => some (.ref a)
  | .type n => some (.ty n)
  | _ => none
theorem RelV.abs {x : V} {u : Value} (r : RelV x u) : SK u = some x := by
  cases x with
  | aF => cases r; rfl
  | bl _ => cases r; rfl
  | int _ => obtain ⟨t,rfl⟩ := r; rfl
  | str _ => obtain ⟨t,rfl⟩ := r; rfl
  | gE _ => obtain ⟨t,rfl⟩ := r; rfl
  | lu _ => obtain ⟨t,rfl⟩ := r; rfl
  | ref _ => cases r; rfl
  | ty _ => cases r; rfl
theorem RelV.inj {x y : V} {u : Value} (r : RelV x u) (q : RelV y u) : x = y := Option.some.inj (r.abs.symm.trans q.abs)
theorem Vals.inj : ∀ {xs ys : List V} {us : List Value},Vals xs us -> Vals ys us -> xs = ys
  | _,_,_,.nil,.nil => rfl
  | _,_,_,.cons r t,.cons r' t' => by rw [r.inj r',Vals.inj t t']
section
variable {X : Cx} {pins : List (Addr × Obj)} {σ : St} {H : Hp} {s : Shared} {a : Addr} {xs ys : List V}
theorem aD.of {K : PySem.W.Frag} (h : H a = some (.lst xs)) : aD K H a xs := .inl (.inl h)
theorem cE.of {K : PySem.W.Frag} (h : H a = some (.tup xs)) : cE K H a xs := .inl (.inl h)
theorem Inv.list (I : Inv X pins σ H s) (h : aD X.K H a xs) : ∃ its : List Value,Vals xs its /\ PlainL s.heap a its.toArray /\ xs.length <= sizeLine := by
  rcases h with h | ⟨o,its,n,hk,hc,hd,hs,hz,r⟩
  · obtain ⟨z,its,n,r,e⟩ := h.ok I.ay
    exact ⟨its,r,⟨_,n,e,rfl,rfl,rfl⟩,z⟩
  · refine ⟨its.toList,r,⟨o,n,I.dh a o hk,hc,hd,by simpa using hs⟩,?_⟩
    have e := r.length
    simp only [Array.length_toList] at e
    omega
theorem Inv.tuple (I : Inv X pins σ H s) (h : cE X.K H a xs) : ∃ its : List Value,Vals xs its /\ IsTup s.heap a its.toArray /\ xs.length <= sizeLine := by
  rcases h with h | ⟨o,its,n,hk,hc,hs,hz,r⟩
  · obtain ⟨z,its,r,p⟩ := h.ok I.ay
    exact ⟨its,r,p,z⟩
  · refine ⟨its.toList,r,⟨o,I.dh a o hk,hc,n,by simpa using hs⟩,?_⟩
    have e := r.length
    simp only [Array.length_toList] at e
    omega
theorem Inv.DL (I : Inv X pins σ H s) (h : aD X.K H a xs) (h' : aD X.K H a ys) : xs = ys := by
  obtain ⟨its,r,⟨o,n,e,_,_,d⟩,_⟩ := I.list h
  obtain ⟨its',r',⟨o',n',e',_,_,d'⟩,_⟩ := I.list h'
  rw [e] at e'; cases e'
  rw [d] at d'
  injection d' with d1 _
  have : its = its' := by simpa using congrArg Array.toList d1
  subst this
  exact r.inj r'
theorem Inv.M6 (I : Inv X pins σ H s) (h : cE X.K H a xs) (h' : cE X.K H a ys) : xs = ys := by
  obtain ⟨its,r,⟨o,e,_,n,d⟩,_⟩ := I.tuple h
  obtain ⟨its',r',⟨o',e',_,n',d'⟩,_⟩ := I.tuple h'
  rw [e] at e'; cases e'
  rw [d] at d'
  injection d' with d1 _
  have : its = its' := by simpa using congrArg Array.toList d1
  subst this
  exact r.inj r'
end
abbrev Cx.gw (X : Cx) (E : Value -> Shared -> Prop) : Cx := { X with xe := E }
abbrev Cx.qR (X : Cx) : Cx := X.gw fun _ _ => False
theorem Cx.Ok.gw {X : Cx} (ok : X.Ok) (E : Value -> Shared -> Prop) : (X.gw E).Ok :=
  ⟨ok.mod,ok.kind,ok.glob,ok.blt,ok.above,ok.inj,ok.has,ok.qN,ok.hd,ok.frames,ok.lC,ok.Jh,ok.bs,ok.lD,ok.qA,ok.tH,ok.gO,ok.oq⟩
theorem Cx.Ok.jI {X : Cx} {E : Value -> Shared -> Prop} (ok : (X.gw E).Ok) : X.Ok :=
  ⟨ok.mod,ok.kind,ok.glob,ok.blt,ok.above,ok.inj,ok.has,ok.qN,ok.hd,ok.frames,ok.lC,ok.Jh,ok.bs,ok.lD,ok.qA,ok.tH,ok.gO,ok.oq⟩
section
variable {X : Cx} {pins : List (Addr × Obj)} {σ : St} {H : Hp} {s : Shared} {E : Value -> Shared -> Prop}
theorem Inv.gw (I : Inv X pins σ H s) (E : Value -> Shared -> Prop) : Inv (X.gw E) pins σ H s := ⟨I.ok.gw E,I.os,I.bare,I.base,I.loc,I.cell,I.free,I.iB,I.pin,I.ay,I.len⟩
theorem Inv.jI (I : Inv (X.gw E) pins σ H s) : Inv X pins σ H s := ⟨I.ok.jI,I.os,I.bare,I.base,I.loc,I.cell,I.free,I.iB,I.pin,I.ay,I.len⟩
theorem SP.jI {D : Ends} {f : Flow} {s' : Shared} (h : SP (X.gw E) pins D f s') : SP X pins D f s' := by
  cases f with
  | next => obtain ⟨ao,H',I,q⟩ := h; exact ⟨ao,H',I.jI,q⟩
  | brk => obtain ⟨ao,H',I,q⟩ := h; exact ⟨ao,H',I.jI,q⟩
  | cont => obtain ⟨ao,H',I,q⟩ := h; exact ⟨ao,H',I.jI,q⟩
  | ret u => obtain ⟨v,ao,H',I,r,q⟩ := h; exact ⟨v,ao,H',I.jI,r,q⟩
theorem eM.qR {st : List Stmt} {t : TS} (h : eM X.qR st t) : eM X st t := fun pins s σ H D I hw =>
  wpAny_mono (h pins s σ H D (I.gw _) hw) (fun _ _ q => q.jI) fun _ _ z => False.elim z
end
section
variable {X : Cx} {st : Stmt} {rest : List Stmt} {t u : TS} {e : Expr} {te : TE} {pos : Pos}
def x3 : TS := fun D σ H => D.nx σ H
def fI (t u : TS) : TS := fun D σ H => t { D with nx := u D } σ H
theorem Ex : eM X [] x3 := fun _ _ σ H _ I h => wpAny_execs_nil ⟨σ,H,I,h⟩
theorem il (h1 : PS X st t) (h2 : eM X rest u) : eM X (st :: rest) (fI t u) := by
  intro pins s σ H D I h
  refine wpAny_execs_cons (ax (h1 pins s σ H { D with nx := u D } I h) fun f s1 q => ?_)
  cases f with
  | next =>
    obtain ⟨ao,H',I',q⟩ := q
    exact h2 pins s1 ao H' D I' q
  | ret v => exact q
  | brk => exact q
  | cont => exact q
theorem jE (h1 : PS X st t) : eM X [st] t := by
  intro pins s σ H D I h
  refine wpAny_execs_cons (ax (h1 pins s σ H D I h) fun f s1 q => ?_)
  cases f with
  | next => exact wpAny_execs_nil q
  | ret v => exact q
  | brk => exact q
  | cont => exact q
theorem Inv.quiet {pins : List (Addr × Obj)} {σ : St} {H : Hp} {s : Shared} (I : Inv X pins σ H s) : interactive X.env = false := by simp [interactive,I.ok.kind]
def jL (te : TE) : TS := fun D σ H => te σ H fun _ H1 => D.nx σ H1
theorem kx (he : PE X e te) (hs : swapsWith e none pos.line X.env = pure false := by rfl) : PS X (.Expr e pos) (jL te) := by
  intro pins s σ H D I h
  exact wpAny_Expr_any (ax (he pins s σ H _ I h) fun v s1 ⟨x,H1,I1,r1,q1⟩ => ⟨σ,H1,I1,q1⟩) I.quiet hs
def nW (te : TE) : TS := fun D σ H => te σ H D.rt
theorem pS (he : PE X e te) : PS X (.Return (some e) pos) (nW te) := by
  intro pins s σ H D I h
  exact wpAny_Return_some (ax (he pins s σ H _ I h) fun v s1 ⟨x,H1,I1,r1,q1⟩ => ⟨x,σ,H1,I1,r1,q1⟩)
def tI (c : TT) (t u : TS) : TS := fun D σ H => c σ H fun b H1 => if b = true then t D σ H1 else u D σ H1
theorem x4 {c : Expr} {a b : List Stmt} {tc : TT} (hc : PT X c tc) (ha : eM X a t) (hb : eM X b u) : PS X (.If c a b pos) (tI tc t u) := by
  intro pins s σ H D I h
  refine wpAny_If (ax (hc pins s σ H _ I h) fun d s1 ⟨H1,I1,q1⟩ => ?_)
  cases d with
  | true => exact ha pins s1 σ H1 D I1 q1
  | false => exact hb pins s1 σ H1 D I1 q1
def pT : TS := fun _ _ _ => False
theorem rW {cz : List Stmt} : eM X cz pT := fun _ _ _ _ _ _ h => h.elim
end
abbrev TG := V -> St -> Hp -> (St -> Hp -> Prop) -> Prop
abbrev lF := List V -> St -> Hp -> (St -> Hp -> Prop) -> Prop
def PG (X : Cx) (target : Expr) (t : TG) : Prop :=
  ∀ (pins : List (Addr × Obj)) (s : Shared) (σ : St) (H : Hp) (v : V) (u : Value) (Q : St -> Hp -> Prop),Inv X pins σ H s -> RelV v u -> t v σ H Q ->
    wpAny (model X.prog X.w) X.A (assign target X.env u) (fun _ s' => ∃ ao H',Inv X pins ao H' s' /\ Q ao H') X.xe s
def t5 (X : Cx) (ts : List Expr) (t : lF) : Prop :=
  ∀ (pins : List (Addr × Obj)) (s : Shared) (σ : St) (H : Hp) (vs : List V) (us : List Value) (Q : St -> Hp -> Prop),Inv X pins σ H s -> Vals vs us -> t vs σ H Q ->
    wpAny (model X.prog X.w) X.A (assignInOrder ((assignEach ts X.env).map (·.2)) us) (fun _ s' => ∃ ao H',Inv X pins ao H' s' /\ Q ao H') X.xe s
abbrev yI := V -> V -> V -> Hp -> (Hp -> Prop) -> Prop
def HL (X : Cx) (t : yI) : Prop :=
  ∀ (pins : List (Addr × Obj)) (s : Shared) (σ : St) (H : Hp) (o i v : V) (ov iv u : Value) (Q : Hp -> Prop),Inv X pins σ H s -> RelV o ov -> RelV i iv -> RelV v u -> t o i v H Q ->
    wpAny (model X.prog X.w) X.A (setItem ov iv u) (fun _ s' => ∃ H',Inv X pins σ H' s' /\ Q H') X.xe s
section
variable {X : Cx} {pos : Pos}
def cU (i : Nat) : TG := fun v σ H Q => Q (σ.set i (some v)) H
theorem iS {i : Nat} {x : Str} (hN : X.N.Nodup) (hi : X.N[i]? = some x) (hx : Loc X.env.scope x) (hf : X.fn x = true \/ X.env.scope.names.lookup x = some .local := by first | exact .inl rfl | exact .inr rfl | assumption) : PG X (.Name x pos) (cU i) := by
  intro pins s σ H v u Q I r h
  exact wpAny_assign_Name (DJ I hN hi hx r (fun s' I' => ⟨_,H,I',h⟩) hf)
def yJ : lF := fun vs σ H Q => vs = [] /\ Q σ H
def qf (t : TG) (u : lF) : lF := fun vs σ H Q => ∃ v r,vs = v :: r /\ t v σ H fun ao H' => u r ao H' Q
theorem Ey : t5 X [] yJ := by
  intro pins s σ H vs us Q I r h
  obtain ⟨e,h⟩ := h
  subst e
  cases r
  exact assignInOrder_nil ⟨σ,H,I,h⟩
theorem sf {e : Expr} {es : List Expr} {t : TG} {u : lF} (h1 : PG X e t) (h2 : t5 X es u)
    (hs : (assignEach (e :: es) X.env).map (·.2) = assign e X.env :: (assignEach es X.env).map (·.2) := by rfl) : t5 X (e :: es) (qf t u) := by
  intro pins s σ H vs us Q I r h
  obtain ⟨v,vr,e1,h⟩ := h
  subst e1
  cases r with
  | cons r rr =>
    rw [hs]
    refine assignInOrder_cons (ax (h1 pins s σ H _ _ _ I r h) fun _ s1 ⟨az,H1,I1,q1⟩ => ?_)
    exact h2 pins s1 az H1 _ _ Q I1 rr q1
def yK (K : PySem.W.Frag) (n : Nat) (t : lF) : TG := fun v σ H Q => ∃ a xs,v = .ref a /\ cE K H a xs /\ xs.length = n /\ t xs σ H Q
theorem Fq {es : List Expr} {k : Nat} {t : lF} {n : Nat} (hc : X.calm = true) (h : t5 X es t)
    (hn : (assignEach es X.env).length = n := by rfl) (Jl : (assignEach es X.env).findIdx? (·.1) = none := by rfl) : PG X (.Tuple es k pos) (yK X.K n t) := by
  intro pins s σ H v u Q I r hw
  obtain ⟨a,xs,e1,hq,hl,hw⟩ := hw
  subst e1
  cases r
  obtain ⟨its,rv,ht,hz⟩ := I.tuple hq
  refine assign_Tuple_tuple (I.ok.hd hc) ht (by simp [hn,<- hl,rv.length]) Jl fun h' hx => ?_
  have I1 : Inv X pins σ H { s with heap := h' } := I.kept (t' := s.toks) fun b o e => hx b o (Nat.ne_of_lt (Heap.lt_size e)) e
  exact h pins _ σ H xs _ Q I1 (by simpa using rv) hw
def yL (to ti : TE) (t : yI) : TG := fun v σ H Q => to σ H fun o H1 => ti σ H1 fun i H2 => t o i v H2 fun H3 => Q σ H3
theorem nz {o i : Expr} {to ti : TE} {t : yI} (ho : PE X o to) (hi : PE X i ti) (hs : HL X t)
    (ha : ∀ v,assign (.Subscript o i pos) X.env v = (do
      let ov <- holding [v] (eval o X.env)
      let iv <- holding [v,ov] (eval i X.env)
      standAt pos
      holding [v,ov,iv] (setItem ov iv v)
      release [v,ov,iv] []) := by intro _; rfl) : PG X (.Subscript o i pos) (yL to ti t) := by
  intro pins s σ H v u Q I r h
  rw [ha]
  refine wpAny_bind (wpAny_holding (ax (ho pins s σ H _ I h) fun ov s1 ⟨x,H1,I1,r1,q1⟩ => ?_))
  refine wpAny_bind (wpAny_holding (ax (hi pins s1 σ H1 _ I1 q1) fun iv s2 ⟨y,H2,I2,r2,q2⟩ => ?_))
  refine wpAny_bind (wpAny_standAt (wpAny_bind (wpAny_holding (ax (hs pins s2 σ H2 x y v ov iv u _ I2 r1 r2 r q2) fun _ s3 ⟨H3,I3,q3⟩ => ?_))))
  exact wpAny_release ⟨σ,H3,I3,q3⟩
def gP (te : TE) (g : TG) : TS := fun D σ H => te σ H fun x H1 => g x σ H1 D.nx
theorem QQ {tg e : Expr} {te : TE} {g : TG} (he : PE X e te) (hg : PG X tg g) (hs : swapsWithSole [tg] e pos.line X.env = pure false := by rfl) (hw : swappedStores [tg] e X.env = pure none := by rfl)
    (h1 : (assignEach [tg] X.env).map (·.2) = [assign tg X.env] := by rfl) : PS X (.Assign [tg] e pos) (gP te g) := by
  intro pins s σ H D I h
  refine wpAny_Assign_stores (ax (he pins s σ H _ I h) fun v s1 ⟨x,H1,I1,r1,q1⟩ => ?_) hs hw
  rw [h1]
  exact ax (hg pins s1 σ H1 x v _ I1 r1 q1) fun _ s2 q => q
theorem pU {i : Nat} {x : Str} {e : Expr} {te : TE} {pos' : Pos} (hN : X.N.Nodup) (hi : X.N[i]? = some x) (hx : Loc X.env.scope x) (he : PE X e te) (hs : swapsWith e (some (.Name x pos')) pos.line X.env = pure false := by rfl) (hf : X.fn x = true \/ X.env.scope.names.lookup x = some .local := by first | exact .inl rfl | exact .inr rfl | assumption) :
    PS X (.Assign [.Name x pos'] e pos) (gP te (cU i)) := by
  intro pins s σ H D I h
  refine wpAny_Assign_Name (ax (he pins s σ H _ I h) fun v s1 ⟨y,H1,I1,r1,q1⟩ => ?_) hs
  exact DJ I1 hN hi hx r1 (fun s2 I2 => ⟨_,H1,I2,q1⟩) hf
end
section
variable {X : Cx} {pos : Pos}
def Fs (c : TT) (tb : TS) : TS := fun D σ H => ∃ W : Nat -> St -> Hp -> Prop,(∃ m,W m σ H) /\ ∀ m σ H,W m σ H ->
  c σ H fun b H1 => if b = true then ∃ N : St -> Hp -> Prop,(∀ ao H',N ao H' -> ∃ m',m' < m /\ W m' ao H') /\ tb { D with nx := N,ct := N,bk := D.nx } σ H1 else D.nx σ H1
theorem NX {c : Expr} {body : List Stmt} {tc : TT} {tb : TS} (hp : PassesOwn (model X.prog X.w) X.A X.env X.xe) (hc : PT X c tc) (hb : eM X body tb) : PS X (.While c body [] pos) (Fs tc tb) := by
  intro pins s σ H D I h
  obtain ⟨W,⟨m0,w0⟩,turn⟩ := h
  refine wpAny_While (codeAny_whileLoop (fun n s' => ∃ ao H',Inv X pins ao H' s' /\ W n ao H') ?_ m0 ⟨σ,H,I,w0⟩)
  rintro n s1 ⟨az,H1,I1,w1⟩
  refine wpAny_passesOwn hp (ax (hc pins s1 az H1 _ I1 (turn n az H1 w1)) fun b s2 ⟨H2,I2,q2⟩ => ?_)
  cases b with
  | true =>
    obtain ⟨N,hN,q2⟩ := q2
    rw [if_pos rfl]
    refine wpAny_passesOwn hp (ax (hb pins s2 az H2 _ I2 q2) fun f s3 q3 => ?_)
    cases f with
    | next =>
      obtain ⟨gU,H3,I3,n3⟩ := q3
      obtain ⟨m',hm,w3⟩ := hN gU H3 n3
      exact ⟨m',hm,gU,H3,I3,w3⟩
    | cont =>
      obtain ⟨gU,H3,I3,n3⟩ := q3
      obtain ⟨m',hm,w3⟩ := hN gU H3 n3
      exact ⟨m',hm,gU,H3,I3,w3⟩
    | brk => exact q3
    | ret v => exact q3
  | false =>
    rw [if_neg Bool.false_ne_true]
    exact wpAny_execs_nil ⟨az,H2,I2,q2⟩
end
structure It where
  go : Nat -> Hp -> Prop
  lH : Nat -> Hp -> V -> Hp -> Prop
  stop : Nat -> Hp -> Prop
def fT (X : Cx) (pins : List (Addr × Obj)) (H : Hp) (b : Addr) : Prop :=
  H b = none /\ b ≠ X.env.locals /\ b ∉ X.fs /\ (b ∈ X.ex \/ X.cM.heap.objs.size <= b) /\ (∀ x c,X.env.cells.lookup x = some c -> c ≠ b) /\ ∀ p ∈ X.pn ++ pins,p.1 ≠ b
theorem Inv.qB {X : Cx} {pins : List (Addr × Obj)} {σ : St} {H H' : Hp} {s : Shared} {b : Addr} (I : Inv X pins σ H s) (hb : s.heap.objs.size <= b) (hn : H' b = none) : fT X pins H' b := by
  refine ⟨hn,Nat.ne_of_gt (Nat.lt_of_lt_of_le I.lt hb),I.SG hb,.inr (Nat.le_trans I.sz hb),fun x c e z => ?_,fun p hp z => ?_⟩
  · obtain ⟨v,q⟩ := I.cell x c e
    exact absurd (Nat.lt_of_lt_of_le q.lt (by rw [z]; exact hb)) (Nat.lt_irrefl _)
  · exact absurd (Nat.lt_of_lt_of_le (Heap.lt_size (I.pin p hp).1) (by rw [z]; exact hb)) (Nat.lt_irrefl _)
structure Turn (P : Program) (w : World) (K : PySem.W.Frag) (tg : Expr) (J : It) (fp : List Addr) (it : Addr) (tn : Nat -> Heap -> Prop) : Prop where
  mem : it ∈ fp
  obj : ∀ i h,tn i h -> ∀ b ∈ fp,∃ o,h.get? b = some o /\ ∀ v,o.data ≠ .cell v
  keep : ∀ i h h',tn i h -> (∀ b ∈ fp,∀ o,h.get? b = some o -> h'.get? b = some o) -> tn i h'
  item : ∀ (X : Cx),X.prog = P -> X.w = w -> X.K = K -> X.calm = true -> ∀ (i : Nat) (pins : List (Addr × Obj)) (s : Shared) (σ : St) (H : Hp) (E : Value -> Shared -> Prop),Inv X pins σ H s -> (∀ b ∈ fp,fT X pins H b) -> tn i s.heap -> J.go i H ->
    wpAny (model P w) X.A (pyNext (.ref it)) (fun r s1 => ∃ u,r = some u /\
      wpAny (model P w) X.A (letOwnedTupleGo tg (.ref it) u) (fun _ s2 => ∃ x H',Inv X pins σ H' s2 /\ RelV x u /\ J.lH i H x H' /\ tn (i + 1) s2.heap /\ ∀ b ∈ fp,H' b = none) E s1) E s
  done : ∀ (X : Cx),X.prog = P -> X.w = w -> X.K = K -> X.calm = true -> ∀ (i : Nat) (pins : List (Addr × Obj)) (s : Shared) (σ : St) (H : Hp) (E : Value -> Shared -> Prop),Inv X pins σ H s -> (∀ b ∈ fp,fT X pins H b) -> tn i s.heap -> J.stop i H ->
    wpAny (model P w) X.A (pyNext (.ref it)) (fun r s1 => r = none /\ Inv X pins σ H s1) E s
  self : ∀ (A : Around) (i : Nat) (s : Shared) (Q : Value -> Shared -> Prop) (E : Value -> Shared -> Prop),tn i s.heap -> Q (.ref it) s -> wpAny (model P w) A (pyIter (.ref it)) Q E s
abbrev TI := St -> Hp -> (It -> Hp -> Prop) -> Prop
def Jm (X : Cx) (pins : List (Addr × Obj)) (σ : St) (tg : Expr) (R : It -> Hp -> Prop) (t7 : Value) (s2 : Shared) : Prop :=
  ∃ (it : Addr) (fp : List Addr) (tn : Nat -> Heap -> Prop) (J : It) (H' : Hp),t7 = .ref it /\ Inv X pins σ H' s2 /\ Turn X.prog X.w X.K tg J fp it tn /\ tn 0 s2.heap /\ (∀ b ∈ fp,fT X pins H' b) /\ R J H'
def PI (X : Cx) (tg iter : Expr) (wi : TI) : Prop :=
  ∀ (pins : List (Addr × Obj)) (s : Shared) (σ : St) (H : Hp) (R : It -> Hp -> Prop),Inv X pins σ H s -> wi σ H R ->
    wpAny (model X.prog X.w) X.A (eval iter X.env) (fun v s1 => wpAny (model X.prog X.w) X.A (pyIter v) (Jm X pins σ tg R) X.xe s1) X.xe s
theorem GR {M : Model} {A : Around} {E : Value -> Shared -> Prop} {s : Shared} {tg : Expr} {it : Addr} {u : Value} {o : Obj} {n : String} {vs : Array Value} {Q : Unit -> Shared -> Prop} (ho : s.heap.get? it = some o) (hc : o.cls = .type n) (hd : o.data = .fields vs)
    (hn : ["enumerate", "zip", "dict_itemiterator", "dict_reverseitemiterator", "odict_iterator", "itertools.zip_longest", "itertools.pairwise"].contains n = false) (hQ : Q () s) : wpAny M A (letOwnedTupleGo tg (.ref it) u) Q E s := by
  unfold letOwnedTupleGo
  cases tg <;> first
    | exact wpAny_pure hQ
    | (cases u <;> first
        | exact wpAny_pure hQ
        | (refine wpAny_bind (wpAny_load ho ?_)
           rw [hc,hd]
           show wpAny M A (if (["enumerate", "zip", "dict_itemiterator", "dict_reverseitemiterator", "odict_iterator", "itertools.zip_longest", "itertools.pairwise"].contains n && vs[0]? == some (rawInt _)) = true then _ else _) Q E s
           rw [if_neg (by intro h; rw [hn,Bool.false_and] at h; cases h)]
           exact wpAny_pure hQ))
def jW (K : PySem.W.Frag) (a : Addr) : It :=
  ⟨fun i H => ∃ xs x,aD K H a xs /\ xs[i]? = some x,fun i H x H' => H' = H /\ ∀ xs,aD K H a xs -> xs[i]? = some x,fun i H => ∃ xs,aD K H a xs /\ xs.length <= i⟩
def lI (lo : Int) (n : Nat) : It := ⟨fun i _ => i < n,fun i H x H' => H' = H /\ x = .int (lo + i),fun i _ => n <= i⟩
theorem M7 {P : Program} {w : World} {K : PySem.W.Frag} {tg : Expr} (a it : Addr) : Turn P w K tg (jW K a) [it] it (fun i h => h.IsListIter it a i) where
  mem := by simp
  obj := fun i h st b hb => by
    have e : b = it := by simpa using hb
    subst e
    obtain ⟨o,e,c,d⟩ := st
    exact ⟨o,e,fun v z => by rw [d] at z; cases z⟩
  keep := fun i h h' st k => st.at fun o e => k it (by simp) o e
  item := by
    intro X hP hw hK hc i pins s σ H E I hf st hg
    subst hP hw hK
    obtain ⟨xs,x,hq,hx⟩ := hg
    obtain ⟨its,rv,p,hz⟩ := I.list hq
    obtain ⟨u,hu,ru⟩ := rv.get hx
    obtain ⟨f0,f1,f2,f3,f4,f5⟩ := hf it (by simp)
    refine wpAny_pyNext_list_item st p.isList (x := u) (by simpa using hu) fun h' af sb => ?_
    have I1 : Inv X pins σ H { s with heap := h' } := I.turned (t' := s.toks) (fun b o hb e => (sb.2 b hb).trans e) f0 f1 f3 f4 f5
    obtain ⟨o,e,c,d⟩ := id af
    exact ⟨u,rfl,GR (s := { s with heap := h' }) e c d (by decide) ⟨x,H,I1,ru,⟨rfl,fun ys hy => by rw [I.DL hy hq]; exact hx⟩,af,fun b hb => (hf b hb).1⟩⟩
  done := by
    intro X hP hw hK hc i pins s σ H E I hf st hg
    subst hP hw hK
    obtain ⟨xs,hq,hx⟩ := hg
    obtain ⟨its,rv,p,hz⟩ := I.list hq
    obtain ⟨f0,f1,f2,f3,f4,f5⟩ := hf it (by simp)
    have hl := rv.length
    exact wpAny_pyNext_list_end (I.ok.hd hc) st p.isList (by simp; omega) fun h' eb => ⟨rfl,I.turned (t' := s.toks) (fun b o hb e => eb b o hb e) f0 f1 f3 f4 f5⟩
  self := fun _ _ _ _ _ st h => wpAny_pyIter_listiter st h
theorem MG {P : Program} {w : World} {K : PySem.W.Frag} {tg : Expr} (it : Addr) (lo : Int) (n : Nat) : Turn P w K tg (lI lo n) [it] it (fun i h => IsRangeIter h it (lo + (i : Nat) * 1) ((n : Int) - (i : Nat)) 1) where
  mem := by simp
  obj := fun i h st b hb => by
    have e : b = it := by simpa using hb
    subst e
    exact ⟨_,st,fun v z => by
      have z' : Data.fields _ = Data.cell v := z
      cases z'⟩
  keep := fun i h h' st k => k it (by simp) _ st
  item := by
    intro X hP hw hK hc i pins s σ H E I hf st hg
    subst hP hw hK
    obtain ⟨f0,f1,f2,f3,f4,f5⟩ := hf it (by simp)
    have W := Walks.range (prog := X.prog) (w := X.w) (I.ok.hd hc) it lo 1 n
    refine W.item i s _ _ hg st fun v h' tk hv af kk => ?_
    obtain ⟨t,rfl⟩ := hv
    have I1 : Inv X pins σ H { s with heap := h',toks := tk } := I.turned (fun b o hb e => kk b o (by simpa using hb) e) f0 f1 f3 f4 f5
    refine ⟨_,rfl,GR (s := { s with heap := h',toks := tk }) (n := "range_iterator") af rfl rfl (by decide) ⟨.int (lo + i),H,I1,⟨t,?_⟩,⟨rfl,rfl⟩,af,fun b hb => (hf b hb).1⟩⟩
    rw [Int.mul_one]
  done := by
    intro X hP hw hK hc i pins s σ H E I hf st hg
    subst hP hw hK
    obtain ⟨f0,f1,f2,f3,f4,f5⟩ := hf it (by simp)
    exact wpAny_pyNext_range_end (I.ok.hd hc) st (by have : n <= i := hg; omega) fun h' eb => ⟨rfl,I.turned (t' := s.toks) (fun b o hb e => eb b o hb e) f0 f1 f3 f4 f5⟩
  self := fun _ _ _ _ _ st h => wpAny_pyIter_rangeiter st h
end L2
namespace L2
open PySem PySem.Spec PyProof.Rows
section
variable {X : Cx} {tg : Expr}
def kK (K : PySem.W.Frag) (tl : TE) : TI := fun σ H R => tl σ H fun x H1 => ∃ a,x = .ref a /\ (∃ xs,aD K H1 a xs) /\ R (jW K a) H1
theorem pB {l : Expr} {tl : TE} (hl : PE X l tl) : PI X tg l (kK X.K tl) := by
  intro pins s σ H R I h
  refine ax (hl pins s σ H _ I h) fun v s1 ⟨x,H1,I1,r1,q1⟩ => ?_
  obtain ⟨a,e,⟨xs,hq⟩,q⟩ := q1
  subst e
  cases r1
  obtain ⟨its,rv,p,hz⟩ := I1.list hq
  refine wpAny_pyIter_list p.isList ?_
  refine ⟨s1.heap.objs.size,[s1.heap.objs.size],_,_,H1,rfl,I1.kept (t' := s1.toks) fun b o e => Heap.get?_push_of_some _ e,M7 a _,⟨_,Heap.get?_push_size _ rfl,rfl,rfl⟩,fun b hb => ?_,q⟩
  have e : b = s1.heap.objs.size := by simpa using hb
  subst e
  exact I1.qB (Nat.le_refl _) (I1.ay.fresh (Nat.le_refl _))
theorem NY {pins : List (Addr × Obj)} {σ : St} {H : Hp} {s : Shared} {R : It -> Hp -> Prop} {E : Value -> Shared -> Prop} {lo hi : Int} {t u v : Tok} {tk : Nat} (I : Inv X pins σ H s) (h1 : -(2 ^ 62) <= lo) (h2 : lo < 2 ^ 62) (h3 : -(2 ^ 62) <= hi) (h4 : hi < 2 ^ 62)
    (q : R (lI lo (hi - lo).toNat) H) : wpAny (model X.prog X.w) X.A (pyIter (.ref s.heap.objs.size)) (Jm X pins σ tg R) E { s with heap := s.heap.push { cls := .type "range",data := .fields #[.int lo t,.int hi u,.int 1 v] },toks := tk } := by
  refine wpAny_pyIter_range (IsRange.new ..) (small_one h1 h2 h3 h4) ?_
  have I1 : Inv X pins σ H { s with heap := s.heap.push { cls := .type "range",data := .fields #[.int lo t,.int hi u,.int 1 v] },toks := tk } := I.kept fun b o e => Heap.get?_push_of_some _ e
  refine ⟨(s.heap.push { cls := .type "range",data := .fields #[.int lo t,.int hi u,.int 1 v] }).objs.size,[(s.heap.push { cls := .type "range",data := .fields #[.int lo t,.int hi u,.int 1 v] }).objs.size],_,_,H,rfl,
    I1.kept (t' := tk) fun b o e => Heap.get?_push_of_some _ e,MG _ lo (hi - lo).toNat,?_,fun b hb => ?_,q⟩
  · have e1 : lo + ((0 : Nat) : Int) * 1 = lo := by simp
    have e2 : (((hi - lo).toNat : Nat) : Int) - ((0 : Nat) : Int) = Builtin.Range.rangeSize lo hi 1 := by rw [rangeSize_one]; split <;> omega
    show IsRangeIter _ _ (lo + ((0 : Nat) : Int) * 1) ((((hi - lo).toNat : Nat) : Int) - ((0 : Nat) : Int)) 1
    rw [e1,e2]
    exact Heap.get?_push_size _ rfl
  · have e : b = (s.heap.push { cls := .type "range",data := .fields #[.int lo t,.int hi u,.int 1 v] }).objs.size := by simpa using hb
    subst e
    exact I1.qB (Nat.le_refl _) (I1.ay.fresh (Nat.le_refl _))
def tf (ta : TA) : TI := fun σ H R => ta σ H fun vs H1 => ∃ j : Int,vs = [.int j] /\ -(2 ^ 62) <= j /\ j < 2 ^ 62 /\ R (lI 0 j.toNat) H1
theorem Df {a : Expr} {ta : TA} {p pos : Pos} (hg : Gl X "range") (hm : X.mg "range" = none) (ha : PA X [a] ta) (hs : starEach [a] X.env = [(false,eval a X.env)] := by rfl) : PI X tg (.Call (.Name "range" p) [a] [] pos) (tf ta) := by
  intro pins s σ H R I h
  refine Call_ (kD I hg hm boot_range (PyProof.Rows.callWith_type1 (ax (ha pos pins s σ H _ I h) fun us s1 ⟨vs,H1,I1,r1,q1⟩ => ?_) hs rfl))
  obtain ⟨j,e,q1,q2,q⟩ := q1
  subst e
  cases r1 with
  | cons r rr =>
    cases rr
    obtain ⟨t,rfl⟩ := r
    exact call_range_1 (NY I1 (by omega) (by omega) q1 q2 (by simpa using q))
def jP (wi : TI) (g : TG) (tb : TS) : TS := fun D σ H => wi σ H fun J H1 => ∃ W : Nat -> Nat -> St -> Hp -> Prop,(∃ m,W 0 m σ H1) /\ ∀ i m σ H,W i m σ H ->
  (J.stop i H /\ D.nx σ H) \/ (J.go i H /\ ∃ N : St -> Hp -> Prop,(∀ ao H',N ao H' -> ∃ m',m' < m /\ W (i + 1) m' ao H') /\ ∀ x H',J.lH i H x H' -> g x σ H' fun bg H2 => tb { D with nx := N,ct := N,bk := D.nx } bg H2)
def nA (fp : List Addr) (h : Heap) : List (Addr × Obj) := fp.filterMap fun b => (h.get? b).map fun o => (b,o)
theorem mR {fp : List Addr} {h : Heap} {b : Addr} {o : Obj} (hb : b ∈ fp) (e : h.get? b = some o) : (b,o) ∈ nA fp h := List.mem_filterMap.mpr ⟨b,hb,by rw [e]; rfl⟩
theorem M8 {fp : List Addr} {h : Heap} {p : Addr × Obj} (hp : p ∈ nA fp h) : p.1 ∈ fp /\ h.get? p.1 = some p.2 := by
  obtain ⟨b,hb,e⟩ := List.mem_filterMap.mp hp
  cases q : h.get? b with
  | none => rw [q] at e; cases e
  | some o =>
    rw [q] at e
    have e' : (b,o) = p := Option.some.inj e
    subst e'
    exact ⟨hb,q⟩
theorem Inv.pinned {pins : List (Addr × Obj)} {σ : St} {H : Hp} {s : Shared} {fp : List Addr} (I : Inv X pins σ H s) (hf : ∀ b ∈ fp,fT X pins H b) (ho : ∀ b ∈ fp,∃ o,s.heap.get? b = some o /\ ∀ v,o.data ≠ .cell v) : Inv X (pins ++ nA fp s.heap) σ H s :=
  I.Eu fun p hp => (List.mem_append.mp hp).elim (fun z => I.pin p (List.mem_append_right _ z)) fun z => by
    obtain ⟨hb,e⟩ := M8 z
    obtain ⟨f0,f1,f2,_⟩ := hf p.1 hb
    obtain ⟨o,e',d⟩ := ho p.1 hb
    rw [e] at e'; cases e'
    exact ⟨e,f0,f1,f2,d⟩
theorem Inv.pd {pins pl : List (Addr × Obj)} {σ : St} {H : Hp} {s : Shared} (I : Inv X (pins ++ pl) σ H s) : Inv X pins σ H s := I.Eu fun p hp => I.pin p (List.mem_append_right _ (List.mem_append_left _ hp))
theorem pV {iter : Expr} {body : List Stmt} {wi : TI} {g : TG} {tb : TS} {pos : Pos} (hp : PassesOwn (model X.prog X.w) X.A X.env X.xe) (hc : X.calm = true) (hi : PI X tg iter wi) (hg : PG X tg g) (hb : eM X body tb)
    (hs : ∀ x,foldedSetIterable iter X.env x = pure x := by intro _; rfl) : PS X (.For tg iter body [] pos) (jP wi g tb) := by
  intro pins s σ H D I h
  refine wpAny_For (ax (hi pins s σ H _ I h) fun v s1 h1 => ax h1 fun t7 s2 h2 => ?_) hs
  obtain ⟨it,fp,tn,J,H2,e,I2,T,aA,f2,W,⟨m0,w0⟩,turn⟩ := h2
  subst e
  have stat : ∀ {H' : Hp},(∀ b ∈ fp,H' b = none) -> ∀ b ∈ fp,fT X pins H' b := fun hn b hb => ⟨hn b hb,(f2 b hb).2⟩
  refine codeAny_forLoop_any (fun n s' => ∃ i ao H',Inv X pins ao H' s' /\ tn i s'.heap /\ (∀ b ∈ fp,H' b = none) /\ W i n ao H') ?_ m0 ⟨0,σ,H2,I2,aA,fun b hb => (f2 b hb).1,w0⟩
  rintro n s3 ⟨i,gU,H3,I3,dk,Jn,w3⟩
  rcases turn i n gU H3 w3 with ⟨stop,qn⟩ | ⟨go,N,hN,step⟩
  · refine wpAny_passesOwn hp (ax (T.done X rfl rfl rfl hc i pins s3 gU H3 X.xe I3 (stat Jn) dk stop) fun r s4 ⟨hr,I4⟩ => ?_)
    subst hr
    exact wpAny_execs_nil ⟨gU,H3,I4,qn⟩
  · refine wpAny_passesOwn hp (ax (T.item X rfl rfl rfl hc i pins s3 gU H3 X.xe I3 (stat Jn) dk go) fun r s4 ⟨u,hr,h4⟩ => ?_)
    subst hr
    refine wpAny_passesOwn hp (ax h4 fun _ s5 ⟨x,H5,I5,r5,y5,jg,lJ⟩ => ?_)
    have Xi := I5.pinned (stat lJ) (T.obj _ _ jg)
    refine wpAny_passesOwn hp (ax (hg _ s5 gU H5 x u _ Xi r5 (step x H5 y5)) fun _ s6 ⟨Xj,H6,I6,q6⟩ => ?_)
    refine wpAny_passesOwn hp (ax (hb _ s6 Xj H6 _ I6 q6) fun f s7 q7 => ?_)
    have again : ∀ {gW : St} {H7 : Hp},Inv X (pins ++ nA fp s5.heap) gW H7 s7 -> N gW H7 -> ∃ m,m < n /\ ∃ i ao H',Inv X pins ao H' s7 /\ tn i s7.heap /\ (∀ b ∈ fp,H' b = none) /\ W i m ao H' := fun {gW H7} I7 n7 => by
      obtain ⟨m',hm,w7⟩ := hN gW H7 n7
      refine ⟨m',hm,i + 1,gW,H7,I7.pd,T.keep _ _ _ jg fun b hb o e => (I7.pin (b,o) (List.mem_append_right _ (List.mem_append_right _ (mR hb e)))).1,fun b hb => ?_,w7⟩
      obtain ⟨o,e,d⟩ := T.obj _ _ jg b hb
      exact (I7.pin (b,o) (List.mem_append_right _ (List.mem_append_right _ (mR hb e)))).2.1
    cases f with
    | next => obtain ⟨gW,H7,I7,n7⟩ := q7; exact again I7 n7
    | cont => obtain ⟨gW,H7,I7,n7⟩ := q7; exact again I7 n7
    | brk => obtain ⟨gW,H7,I7,q7⟩ := q7; exact ⟨gW,H7,I7.pd,q7⟩
    | ret v => obtain ⟨x7,gW,H7,I7,r7,q7⟩ := q7; exact ⟨x7,gW,H7,I7.pd,r7,q7⟩
end
theorem wt {K : PySem.W.Frag} {a : Addr} {xs : List V} {g : TG} {tb : TS} {D : Ends} {σ : St} {H : Hp} (Pv : Nat -> St -> Hp -> Prop) (h0 : Pv 0 σ H) (hl : ∀ i σ H,i <= xs.length -> Pv i σ H -> aD K H a xs)
    (hs : ∀ i x σ H,xs[i]? = some x -> Pv i σ H -> g x σ H fun bg H2 => tb { D with nx := Pv (i + 1),ct := Pv (i + 1),bk := D.nx } bg H2) (hd : ∀ σ H,Pv xs.length σ H -> D.nx σ H) :
    ∃ W : Nat -> Nat -> St -> Hp -> Prop,(∃ m,W 0 m σ H) /\ ∀ i m σ H,W i m σ H ->
      ((jW K a).stop i H /\ D.nx σ H) \/ ((jW K a).go i H /\ ∃ N : St -> Hp -> Prop,(∀ ao H',N ao H' -> ∃ m',m' < m /\ W (i + 1) m' ao H') /\ ∀ x H',(jW K a).lH i H x H' -> g x σ H' fun bg H2 => tb { D with nx := N,ct := N,bk := D.nx } bg H2) := by
  refine ⟨fun i m σ H => m = xs.length - i /\ i <= xs.length /\ Pv i σ H,⟨xs.length,by simp,Nat.zero_le _,h0⟩,?_⟩
  rintro i m σ H ⟨rfl,hi,p⟩
  have q := hl i σ H hi p
  by_cases aS : i < xs.length
  · refine .inr ⟨⟨xs,xs[i],q,by simp [aS]⟩,Pv (i + 1),fun ao H' p' => ⟨xs.length - (i + 1),by omega,rfl,aS,p'⟩,fun x H' y => ?_⟩
    obtain ⟨e,y⟩ := y
    subst e
    exact hs i x σ _ (y xs q) p
  · have e : i = xs.length := by omega
    subst e
    exact .inl ⟨⟨xs,q,Nat.le_refl _⟩,hd σ H p⟩
theorem M9 {lo : Int} {n : Nat} {g : TG} {tb : TS} {D : Ends} {σ : St} {H : Hp} (Pv : Nat -> St -> Hp -> Prop) (h0 : Pv 0 σ H)
    (hs : ∀ i σ H,i < n -> Pv i σ H -> g (.int (lo + i)) σ H fun bg H2 => tb { D with nx := Pv (i + 1),ct := Pv (i + 1),bk := D.nx } bg H2) (hd : ∀ σ H,Pv n σ H -> D.nx σ H) :
    ∃ W : Nat -> Nat -> St -> Hp -> Prop,(∃ m,W 0 m σ H) /\ ∀ i m σ H,W i m σ H ->
      ((lI lo n).stop i H /\ D.nx σ H) \/ ((lI lo n).go i H /\ ∃ N : St -> Hp -> Prop,(∀ ao H',N ao H' -> ∃ m',m' < m /\ W (i + 1) m' ao H') /\ ∀ x H',(lI lo n).lH i H x H' -> g x σ H' fun bg H2 => tb { D with nx := N,ct := N,bk := D.nx } bg H2) := by
  refine ⟨fun i m σ H => m = n - i /\ i <= n /\ Pv i σ H,⟨n,by simp,Nat.zero_le _,h0⟩,?_⟩
  rintro i m σ H ⟨rfl,hi,p⟩
  by_cases aS : i < n
  · refine .inr ⟨aS,Pv (i + 1),fun ao H' p' => ⟨n - (i + 1),by omega,rfl,aS,p'⟩,fun x H' y => ?_⟩
    obtain ⟨e,y⟩ := y
    subst e y
    exact hs i σ _ aS p
  · have e : i = n := by omega
    subst e
    exact .inl ⟨Nat.le_refl _,hd σ H p⟩
end L2
namespace L2
open PySem PySem.Spec PyProof.Rows
abbrev R2 := V -> V -> Hp -> VK -> Prop
def cQ (X : Cx) (f : Value -> Value -> Sem Value) (r : R2) : Prop :=
  ∀ (pins : List (Addr × Obj)) (s : Shared) (σ : St) (H : Hp) (x y : V) (v u : Value) (Q : VK),Inv X pins σ H s -> RelV x v -> RelV y u -> r x y H Q ->
    wpAny (model X.prog X.w) X.A (f v u) (EP X pins σ Q) X.xe s
def eI (X : Cx) (f : Value) (r : List V -> Hp -> VK -> Prop) : Prop :=
  ∀ (pins : List (Addr × Obj)) (s : Shared) (σ : St) (H : Hp) (xs : List V) (us : List Value) (Q : VK),Inv X pins σ H s -> Vals xs us -> r xs H Q ->
    wpAny (model X.prog X.w) X.A (call f us) (EP X pins σ Q) X.xe s
def gX (r : R2) (ta tb : TE) : TE := fun σ H Q => ta σ H fun x H1 => tb σ H1 fun y H2 => r x y H2 Q
def rI (C : Int -> Int -> Prop) (g : Int -> Int -> V) : R2 := fun x y H Q => ∃ i j,x = .int i /\ y = .int j /\ C i j /\ Q (g i j) H
def jX (g : Int -> Int -> V) : R2 := fun x y H Q => ∃ i j,x = .int i /\ y = .int j /\ Q (g i j) H
section
variable {X : Cx} {a b c : Expr} {ta tb tc : TE} {pos : Pos}
theorem yM (ha : PE X a ta) (hb : PE X b tb) {pins : List (Addr × Obj)} {s : Shared} {σ : St} {H : Hp} {R : V -> V -> Hp -> Prop} (I : Inv X pins σ H s)
    (h : ta σ H fun x H1 => tb σ H1 fun y H2 => R x y H2) {Q : Value -> Shared -> Prop} {f : Value -> Value -> Sem Value}
    (hf : ∀ v u s2 x y H2,Inv X pins σ H2 s2 -> RelV x v -> RelV y u -> R x y H2 -> wpAny (model X.prog X.w) X.A (f v u) Q X.xe s2) :
    wpAny (model X.prog X.w) X.A (eval a X.env) (fun v bf => wpAny (model X.prog X.w) X.A (eval b X.env) (fun u kS => wpAny (model X.prog X.w) X.A (f v u) Q X.xe kS) X.xe bf) X.xe s := by
  refine ax (ha pins s σ H _ I h) fun v s1 ⟨x,H1,I1,r1,q1⟩ => ?_
  refine ax (hb pins s1 σ H1 _ I1 q1) fun u s2 ⟨y,H2,I2,r2,q2⟩ => ?_
  exact hf v u s2 x y H2 I2 r1 r2 q2
theorem GU {op : Operator} {r : R2} (ho : cQ X (binaryOp op) r) (ha : PE X a ta) (hb : PE X b tb) : PE X (.BinOp a op b pos) (gX r ta tb) := by
  intro pins s σ H Q I h
  exact wpAny_BinOp (yM ha hb I h fun v u s2 x y H2 I2 rx ry q => ho pins s2 σ H2 x y v u Q I2 rx ry q)
theorem zu {f : Value -> Value -> Sem Value} {C : Int -> Int -> Prop} {g : Int -> Int -> Int}
    (rule : ∀ (i j : Int) (t u : Tok) (s : Shared) (Q : Value -> Shared -> Prop) (E : Value -> Shared -> Prop),C i j -> Q (.int (g i j) s.toks) { s with toks := s.toks + 1 } -> wpAny (model X.prog X.w) X.A (f (.int i t) (.int j u)) Q E s) :
    cQ X f (rI C fun i j => .int (g i j)) := by
  intro pins s σ H x y v u Q I rx ry h
  obtain ⟨i,j,rfl,rfl,hc,q⟩ := h
  obtain ⟨t,rfl⟩ := rx
  obtain ⟨t',rfl⟩ := ry
  exact rule i j t t' s _ _ hc ⟨.int (g i j),H,I.tok _,⟨_,rfl⟩,q⟩
theorem HM {f : Value -> Value -> Sem Value} {g : Int -> Int -> Int}
    (rule : ∀ (i j : Int) (t u : Tok) (s : Shared) (Q : Value -> Shared -> Prop) (E : Value -> Shared -> Prop),Q (.int (g i j) s.toks) { s with toks := s.toks + 1 } -> wpAny (model X.prog X.w) X.A (f (.int i t) (.int j u)) Q E s) :
    cQ X f (jX fun i j => .int (g i j)) := by
  intro pins s σ H x y v u Q I rx ry h
  obtain ⟨i,j,rfl,rfl,q⟩ := h
  obtain ⟨t,rfl⟩ := rx
  obtain ⟨t',rfl⟩ := ry
  exact rule i j t t' s _ _ ⟨.int (g i j),H,I.tok _,⟨_,rfl⟩,q⟩
theorem yN {f : Value -> Value -> Sem Value} {g : Int -> Int -> Bool}
    (rule : ∀ (i j : Int) (t u : Tok) (s : Shared) (Q : Value -> Shared -> Prop) (E : Value -> Shared -> Prop),Q (.bool (g i j)) s -> wpAny (model X.prog X.w) X.A (f (.int i t) (.int j u)) Q E s) :
    cQ X f (jX fun i j => .bl (g i j)) := by
  intro pins s σ H x y v u Q I rx ry h
  obtain ⟨i,j,rfl,rfl,q⟩ := h
  obtain ⟨t,rfl⟩ := rx
  obtain ⟨t',rfl⟩ := ry
  exact rule i j t t' s _ _ ⟨.bl (g i j),H,I,rfl,q⟩
theorem Ft : cQ X (binaryOp .Add) (jX fun i j => .int (i + j)) := HM fun _ _ _ _ _ _ _ q => add_int q
theorem QR : cQ X (binaryOp .Sub) (jX fun i j => .int (i - j)) := HM fun _ _ _ _ _ _ _ q => sub_int q
theorem QS : cQ X (binaryOp .Mod) (rI (fun _ j => 0 < j) fun i j => .int (i % j)) := zu fun i j _ _ _ _ _ hc q => by
  have h1 : (0 : Int) < j := hc
  exact mod_int' (by omega) (by rw [Int.fmod_eq_emod_of_nonneg i (by omega)]; exact q)
end
def yO : V -> V -> Bool
  | .aF,.aF => true | .aF,.int _ => true | .int _,.aF => true | .aF,.bl _ => true | .bl _,.aF => true | .aF,.str _ => true | .str _,.aF => true
  | .int _,.int _ => true | .bl _,.bl _ => true | .str _,.str _ => true | .gE _,.gE _ => true
  | .int _,.str _ => true | .str _,.int _ => true | .bl _,.str _ => true | .str _,.bl _ => true
  | _,_ => false
def Xk : R2 := fun x y H Q => yO x y = true /\ Q (.bl (decide (x = y))) H
def Xl : R2 := fun x y H Q => yO x y = true /\ Q (.bl (!decide (x = y))) H
theorem Ez {i j : Int} : decide (V.int i = V.int j) = (i == j) := by
  rw [Bool.eq_iff_iff]
  simp
theorem Fu {i j : Bool} : decide (V.bl i = V.bl j) = (i == j) := by
  rw [Bool.eq_iff_iff]
  simp
theorem EA {i j : Str} : decide (V.str i = V.str j) = (i == j) := by
  rw [Bool.eq_iff_iff]
  simp
theorem EB {i j : Array UInt8} : decide (V.gE i = V.gE j) = (i.toList == j.toList) := by
  rw [Bool.eq_iff_iff]
  cases i
  cases j
  simp
section
variable {X : Cx} {a b c : Expr} {ta tb tc : TE} {pos : Pos}
theorem bY {pins : List (Addr × Obj)} {σ : St} {H : Hp} {s : Shared} {Q : VK} {k k' : Bool} (I : Inv X pins σ H s) (q : Q (.bl k) H) (e : k = k') : EP X pins σ Q (.bool k') s := by
  subst e
  exact ⟨.bl k,H,I,rfl,q⟩
theorem x5 : cQ X (compareOp .Eq) Xk := by
  intro pins s σ H x y v u Q I rx ry h
  obtain ⟨hs,q⟩ := h
  cases x with
  | aF =>
    cases rx
    cases y with
    | aF => cases ry; exact PySem.EqNone.eq_none_none (bY I q (by simp))
    | bl j => cases ry; exact PySem.EqNone.eq_none_bool (bY I q (by simp))
    | int j => obtain ⟨t',rfl⟩ := ry; exact PySem.EqNone.eq_none_int (bY I q (by simp))
    | str j => obtain ⟨t',rfl⟩ := ry; exact PySem.EqNone.eq_none_str (bY I q (by simp))
    | _ => exact absurd (show false = true from hs) Bool.false_ne_true
  | bl i =>
    cases rx
    cases y with
    | aF => cases ry; exact PySem.EqNone.eq_bool_none (bY I q (by simp))
    | bl j => cases ry; exact eq_bool (bY I q Fu)
    | str j => obtain ⟨t',rfl⟩ := ry; exact PySem.EqMixed.eq_bool_str (bY I q (by simp))
    | _ => exact absurd (show false = true from hs) Bool.false_ne_true
  | int i =>
    obtain ⟨t,rfl⟩ := rx
    cases y with
    | aF => cases ry; exact PySem.EqNone.eq_int_none (bY I q (by simp))
    | int j => obtain ⟨t',rfl⟩ := ry; exact eq_int (bY I q Ez)
    | str j => obtain ⟨t',rfl⟩ := ry; exact PySem.EqMixed.eq_int_str (bY I q (by simp))
    | _ => exact absurd (show false = true from hs) Bool.false_ne_true
  | str i =>
    obtain ⟨t,rfl⟩ := rx
    cases y with
    | aF => cases ry; exact PySem.EqNone.eq_str_none (bY I q (by simp))
    | bl j => cases ry; exact PySem.EqMixed.eq_str_bool (bY I q (by simp))
    | int j => obtain ⟨t',rfl⟩ := ry; exact PySem.EqMixed.eq_str_int (bY I q (by simp))
    | str j => obtain ⟨t',rfl⟩ := ry; exact eq_str (bY I q EA)
    | _ => exact absurd (show false = true from hs) Bool.false_ne_true
  | gE i =>
    obtain ⟨t,rfl⟩ := rx
    cases y with
    | gE j => obtain ⟨t',rfl⟩ := ry; exact PySem.W.eq_bytes (bY I q EB)
    | _ => exact absurd (show false = true from hs) Bool.false_ne_true
  | _ => cases y <;> exact absurd (show false = true from hs) Bool.false_ne_true
theorem RX : cQ X (compareOp .NotEq) Xl := by
  intro pins s σ H x y v u Q I rx ry h
  obtain ⟨hs,q⟩ := h
  cases x with
  | aF =>
    cases rx
    cases y with
    | aF => cases ry; exact PySem.EqNone.ne_none_none (bY I q (by simp))
    | bl j => cases ry; exact PySem.EqNone.ne_none_bool (bY I q (by simp))
    | int j => obtain ⟨t',rfl⟩ := ry; exact PySem.EqNone.ne_none_int (bY I q (by simp))
    | str j => obtain ⟨t',rfl⟩ := ry; exact PySem.EqNone.ne_none_str (bY I q (by simp))
    | _ => exact absurd (show false = true from hs) Bool.false_ne_true
  | bl i =>
    cases rx
    cases y with
    | aF => cases ry; exact PySem.EqNone.ne_bool_none (bY I q (by simp))
    | bl j => cases ry; exact ne_bool (bY I q (congrArg not Fu))
    | str j => obtain ⟨t',rfl⟩ := ry; exact PySem.EqMixed.ne_bool_str (bY I q (by simp))
    | _ => exact absurd (show false = true from hs) Bool.false_ne_true
  | int i =>
    obtain ⟨t,rfl⟩ := rx
    cases y with
    | aF => cases ry; exact PySem.EqNone.ne_int_none (bY I q (by simp))
    | int j => obtain ⟨t',rfl⟩ := ry; exact ne_int (bY I q (congrArg not Ez))
    | str j => obtain ⟨t',rfl⟩ := ry; exact PySem.EqMixed.ne_int_str (bY I q (by simp))
    | _ => exact absurd (show false = true from hs) Bool.false_ne_true
  | str i =>
    obtain ⟨t,rfl⟩ := rx
    cases y with
    | aF => cases ry; exact PySem.EqNone.ne_str_none (bY I q (by simp))
    | bl j => cases ry; exact PySem.EqMixed.ne_str_bool (bY I q (by simp))
    | int j => obtain ⟨t',rfl⟩ := ry; exact PySem.EqMixed.ne_str_int (bY I q (by simp))
    | str j => obtain ⟨t',rfl⟩ := ry; exact ne_str (bY I q (congrArg not EA))
    | _ => exact absurd (show false = true from hs) Bool.false_ne_true
  | gE i =>
    obtain ⟨t,rfl⟩ := rx
    cases y with
    | gE j => obtain ⟨t',rfl⟩ := ry; exact PySem.W.ne_bytes (bY I q (congrArg not EB))
    | _ => exact absurd (show false = true from hs) Bool.false_ne_true
  | _ => cases y <;> exact absurd (show false = true from hs) Bool.false_ne_true
theorem GV : cQ X (compareOp .Lt) (jX fun i j => .bl (decide (i < j))) := yN fun _ _ _ _ _ _ _ q => lt_int q
theorem GW : cQ X (compareOp .Gt) (jX fun i j => .bl (decide (j < i))) := yN fun _ _ _ _ _ _ _ q => gt_int q
theorem GX : cQ X (compareOp .GtE) (jX fun i j => .bl (decide (j <= i))) := yN fun _ _ _ _ _ _ _ q => ge_int q
theorem fO (b : Expr) {op : CmpOp} (h : op ≠ .In := by decide) (h2 : op ≠ .NotIn := by decide) : behindInMarks op b = false := by
  have e1 : (op == CmpOp.In) = false := by cases op <;> first | rfl | exact absurd rfl h
  have e2 : (op == CmpOp.NotIn) = false := by cases op <;> first | rfl | exact absurd rfl h2
  cases b <;> simp [behindInMarks,e1,e2]
theorem O0 {op : CmpOp} {r : R2} (ho : cQ X (compareOp op) r) (ha : PE X a ta) (hb : PE X b tb) (hm : behindInMarks op b = false) : PE X (.Compare a [op] [b] pos) (gX r ta tb) := by
  intro pins s σ H Q I h
  exact wpAny_Compare1 (yM ha hb I h fun v u s2 x y H2 I2 rx ry q => ho pins s2 σ H2 x y v u Q I2 rx ry q) hm
def GY (t : TE) : TT := fun σ H Q => t σ H fun x H' => ∃ k,x = .bl k /\ Q k H'
theorem O1 {op : CmpOp} {r : R2} (ho : cQ X (compareOp op) r) (ha : PE X a ta) (hb : PE X b tb) (hm : behindInMarks op b = false) : PT X (.Compare a [op] [b] pos) (GY (gX r ta tb)) := by
  intro pins s σ H Q I h
  refine wpAny_isTrue_Compare1 (ax (ha pins s σ H _ I h) fun v s1 ⟨x,H1,I1,r1,q1⟩ => ax (hb pins s1 σ H1 _ I1 q1) fun u s2 ⟨y,H2,I2,r2,q2⟩ =>
    ax (ho pins s2 σ H2 x y v u _ I2 r1 r2 q2) fun c s3 ⟨z,H3,I3,r3,k,e,q3⟩ => ?_) hm
  subst e
  cases r3
  exact wpAny_truthy_bool ⟨H3,I3,q3⟩
theorem sO : (sizeLine : Nat) < 2 ^ 63 := by rw [sizeLine_eq]; decide
theorem vals1 {x : V} {us : List Value} (r : Vals [x] us) : ∃ u,us = [u] /\ RelV x u := by
  cases r with
  | cons r1 r2 => cases r2; exact ⟨_,rfl,r1⟩
theorem NZ : eI X (.builtin "abs") (fun xs H Q => ∃ i,xs = [.int i] /\ Q (.int (if i < 0 then -i else i)) H) := by
  intro pins s σ H xs us Q I r h
  obtain ⟨i,rfl,q⟩ := h
  obtain ⟨u,rfl,t,rfl⟩ := vals1 r
  exact call_abs_int fun u tk => ⟨.int (if i < 0 then -i else i),H,I.tok _,⟨_,rfl⟩,q⟩
theorem Nb : eI X (.type "int") (fun xs H Q => (∃ i,xs = [.int i] /\ Q (.int i) H) \/ ∃ k,xs = [.bl k] /\ Q (.int (if k then 1 else 0)) H) := by
  intro pins s σ H xs us Q I r h
  rcases h with ⟨i,rfl,q⟩ | ⟨k,rfl,q⟩
  · obtain ⟨u,rfl,t,rfl⟩ := vals1 r
    exact call_int_int ⟨.int i,H,I,⟨_,rfl⟩,q⟩
  · obtain ⟨u,rfl,r1⟩ := vals1 r
    cases r1
    exact call_int_bool ⟨.int (if k then 1 else 0),H,I.tok _,⟨_,rfl⟩,q⟩
end
end L2
namespace L2
open PySem PySem.Spec PyProof.Rows
structure yP (h : Heap) (x dx C : Addr) (mA : Str -> Option Value) : Prop where
  obj : h.get? x = some (PySem.W.instObj C dx)
  ns : h.Ns1 dx mA
  ne : dx ≠ x
theorem Nc {h : Heap} {dx : Addr} {mA : Str -> Option Value} (n : h.Ns1 dx mA) : ∃ od,h.get? dx = some od /\ ∀ name,PySem.W.lookIn name od = some (mA name) := by
  obtain ⟨o,es,ep,ho,hd,hk,_,hm⟩ := n
  refine ⟨o,ho,fun name => ?_⟩
  have e := hm name
  unfold nsFind findBy at e
  rw [<- Array.find?_toList] at e
  unfold PySem.W.lookIn
  rw [hd]
  dsimp only
  split
  · rename_i y q
    rw [q] at e
    exact congrArg some e
  · rename_i q
    rw [q] at e
    have a : es.toList.any (·.refKey) = false := by
      rw [List.any_eq_false]
      intro y hy
      obtain ⟨z,t,yQ⟩ := hk y (Array.mem_toList_iff.mp hy)
      simp [DictEntry.refKey,yQ]
    have a' : ¬ es.toList.any (·.refKey) = true := by rw [a]; exact Bool.false_ne_true
    rw [if_neg a']
    exact congrArg some e
theorem yP.look {h : Heap} {x dx C : Addr} {mA : Str -> Option Value} (I : yP h x dx C mA) : ∃ od,PySem.W.InstAt h x (PySem.W.instObj C dx) C (some od) /\ ∀ name,PySem.W.lookIn name od = some (mA name) :=
  let ⟨od,ho,hl⟩ := Nc I.ns
  ⟨od,⟨I.obj,rfl,rfl,ho⟩,hl⟩
theorem fS.some_of {v : V} {o : Option Value} (r : fS (some v) o) : ∃ u,o = some u /\ RelV v u := by
  cases o with
  | none => exact (show False from r).elim
  | some u => exact ⟨u,rfl,r⟩
section
variable {P : Program} {w : World} {H H' : Hp} {h h' : Heap} {a C dx : Addr} {fs Xf : List (Str × V)}
theorem O2 (ay : bV P w H h) (e : H a = some (.ins C dx fs)) : ∃ mA,yP h a dx C mA /\ (∀ f,fS (fs.lookup f) (mA f)) /\ PySem.Within mA (fs.map (·.1)) /\ fs.length <= 1000 /\ H dx = some (.own a) := by
  obtain ⟨d,z,ne,ob,mA,n,r,q⟩ := (show bU P w H h a (.ins C dx fs) from ay a _ e)
  exact ⟨mA,⟨ob,n,ne⟩,r,q,z,d⟩
end
structure zv (K : PySem.W.Frag) (C : Addr) : Prop where
  pg : PySem.W.plainGet K C Str.empty = true
  hd : PySem.W.hasDictIn K C = true
  po : PySem.W.plainOver K C = true
  sa : PySem.W.findIn K (.ref C) "__setattr__" = some (some (.builtin "object.__setattr__"))
theorem zv.get {K : PySem.W.Frag} {C : Addr} (c : zv K C) (f : Str) : PySem.W.plainGet K C f = true := c.pg
section
variable {X : Cx} {pins : List (Addr × Obj)} {σ : St} {H : Hp} {s : Shared} {A : Around} {E : Value -> Shared -> Prop} {Q : Value -> Shared -> Prop} {c : Value} {b : Bool}
inductive gC (K : PySem.W.Frag) (H : Hp) : V -> Value -> Prop where
  | aF : gC K H .aF (.type "NoneType")
  | bl (x : Bool) : gC K H (.bl x) (.type "bool")
  | int (i : Int) : gC K H (.int i) (.type "int")
  | str (x : Str) : gC K H (.str x) (.type "str")
  | lu (x : UInt64) : gC K H (.lu x) (.type "float")
  | lst {a : Addr} {xs : List V} (e : H a = some (.lst xs)) : gC K H (.ref a) (.type "list")
  | dg {a : Addr} {o : Obj} {xs : List V} (e : H a = some (.dg o (.lst xs))) : gC K H (.ref a) (.type "list")
  | tup {a : Addr} {xs : List V} (e : H a = some (.tup xs)) : gC K H (.ref a) (.type "tuple")
  | dK {a : Addr} {aj : List (Key × V)} (e : H a = some (.dK aj)) : gC K H (.ref a) (.type "dict")
  | dT {a : Addr} {aj : List (List Key × V)} (e : H a = some (.dT aj)) : gC K H (.ref a) (.type "dict")
  | ins {a C dx : Addr} {fs : List (Str × V)} (e : H a = some (.ins C dx fs)) (cl : zv K C) (ha : PySem.W.findIn K (.ref C) "__class__" = some (some (.builtin "object.__class__")))
      (hn : PySem.W.specialIn K (.builtin "object.__class__") "__get__" = some (some (.builtin "getset_descriptor.__get__"))) (Jo : PySem.W.takesIn K (.builtin "object.__class__") = some true)
      (hm : PySem.W.mroIn K C (.type "object") = some true) : gC K H (.ref a) (.ref C)
theorem rX {x : V} {u t : Value} (I : Inv X pins σ H s) (rx : RelV x u) (ty : gC X.K H x t) (e : PySem.W.kitOne X.K t c = some b) (h : ∀ tk,Q (.bool b) { s with toks := tk }) :
    wpAny (model X.prog X.w) A (call (.builtin "isinstance") [u,c]) Q E s := by
  cases ty with
  | aF => cases (show u = Value.none from rx); exact PySem.W.kia_one PySem.W.kitx_none I.dh True.intro e (fun z => nomatch z) h
  | bl y => cases (show u = Value.bool y from rx); exact PySem.W.kia_one PySem.W.kitx_bool I.dh True.intro e (fun z => nomatch z) h
  | int i => obtain ⟨t,q⟩ := (show ∃ t,u = Value.int i t from rx); cases q; exact PySem.W.kia_one PySem.W.kitx_int I.dh True.intro e (fun z => nomatch z) h
  | str y => obtain ⟨t,q⟩ := (show ∃ t,u = Value.str y t from rx); cases q; exact PySem.W.kia_one PySem.W.kitx_str I.dh True.intro e (fun z => nomatch z) h
  | lu y => obtain ⟨t,q⟩ := (show ∃ t,u = Value.float y t from rx); cases q; exact PySem.W.kia_one PySem.W.kitx_float I.dh True.intro e (fun z => nomatch z) h
  | @lst a xs ea =>
    cases (show u = Value.ref a from rx)
    obtain ⟨_,_,n,_,h1⟩ := (show bU X.prog X.w H s.heap a (.lst xs) from I.ay a _ ea)
    exact PySem.W.kia_one PySem.W.kitx_list I.dh ⟨_,h1,rfl⟩ e (fun z => nomatch z) h
  | @dg a ob xs ea =>
    cases (show u = Value.ref a from rx)
    obtain ⟨_,_,_,n,_,h1⟩ := (show bU X.prog X.w H s.heap a (.dg ob (.lst xs)) from I.ay a _ ea)
    exact PySem.W.kia_one PySem.W.kitx_list I.dh ⟨_,h1,rfl⟩ e (fun z => nomatch z) h
  | @tup a xs ea =>
    cases (show u = Value.ref a from rx)
    obtain ⟨_,_,_,p⟩ := (show bU X.prog X.w H s.heap a (.tup xs) from I.ay a _ ea)
    obtain ⟨o,h1,h2,_⟩ := p
    exact PySem.W.kia_one PySem.W.kitx_tuple I.dh ⟨o,h1,h2⟩ e (fun z => nomatch z) h
  | @dK a aj ea =>
    cases (show u = Value.ref a from rx)
    obtain ⟨_,_,vs,_,p⟩ := (show bU X.prog X.w H s.heap a (.dK aj) from I.ay a _ ea)
    obtain ⟨o,es,ep,h1,h2,_⟩ := p
    exact PySem.W.kia_one PySem.W.kitx_dict I.dh ⟨o,h1,h2.1⟩ e (fun z => nomatch z) h
  | @dT a aj ea =>
    cases (show u = Value.ref a from rx)
    obtain ⟨_,_,xs,_,o,es,ep,h1,h2,_⟩ := (show bU X.prog X.w H s.heap a (.dT aj) from I.ay a _ ea)
    exact PySem.W.kia_one PySem.W.kitx_dict I.dh ⟨o,h1,h2.1⟩ e (fun z => nomatch z) h
  | @ins a C dx fs ea cl ha hn Jo hm =>
    cases (show u = Value.ref a from rx)
    obtain ⟨mA,O,_⟩ := O2 I.ay ea
    obtain ⟨od,J,_⟩ := O.look
    exact PySem.W.kia_one (PySem.W.kitx_own (cl.get _) cl.hd ha hn Jo hm) I.dh J e (fun z => nomatch z) h
end
end L2
namespace L2
open PySem PySem.Spec PyProof.Rows
structure cN (k : Nat) (A : Around) : Prop where
  hd : A.handled = none
  dp : A.depth + 3 * k + 5 < recursionLimit
  un : A.units + 16 * k + 200 < cLine
theorem cN.mono {j k : Nat} {A : Around} (r : cN k A) (h : j <= k) : cN j A := ⟨r.hd,by have := r.dp; omega,by have := r.un; omega⟩
theorem cN.deeper {k : Nat} {A : Around} (r : cN (k + 1) A) (env : Env) : cN k (A.deeper env) :=
  ⟨r.hd,by have := r.dp; show A.depth + 1 + 3 * k + 5 < _; omega,by have := r.un; show A.units + 3 + 16 * k + 200 < _; omega⟩
theorem cN.depth {k : Nat} {A : Around} (r : cN k A) : A.depth < recursionLimit := by have := r.dp; omega
theorem cN.units {k : Nat} {A : Around} (r : cN k A) : A.units + 64 < cLine := by have := r.un; omega
def cm : TA := fun _ H Q => Q [] H
def bt (ta : TE) (tr : TA) : TA := fun σ H Q => ta σ H fun x H1 => tr σ H1 fun xs H2 => Q (x :: xs) H2
section
variable {X : Cx} {e : Expr} {es : List Expr} {te : TE} {t : TA} {pos : Pos}
theorem cB : PA X [] cm := fun _ _ _ _ H Q I h => Calls.spliced_nil ⟨[],H,I,.nil,h⟩
theorem bB (ha : PE X e te) (hr : PA X es t) (hs : starEach (e :: es) X.env = (false,eval e X.env) :: starEach es X.env := by rfl) : PA X (e :: es) (bt te t) := by
  intro pos pins s σ H Q I h
  rw [hs]
  show wpAny _ _ (spliced ((false,eval e X.env) :: backTo pos (starEach es X.env))) _ _ s
  refine Calls.spliced_cons (ax (ha pins s σ H _ I h) fun u s1 ⟨x,H1,I1,r1,q1⟩ => ?_)
  exact ax (hr pos pins s1 σ H1 _ I1 q1) fun us s2 ⟨xs,H2,I2,r2,q2⟩ => ⟨x :: xs,H2,I2,.cons r1 r2,q2⟩
def nX (t : TA) : TE := fun σ H Q => t σ H fun xs H1 => xs.length <= sizeLine /\ ∀ p,H1 p = none -> Q (.ref p) (upd H1 p (.tup xs))
def HN (t : TA) : TE := fun σ H Q => t σ H fun xs H1 => xs.length <= sizeLine /\ ∀ p,H1 p = none -> Q (.ref p) (upd H1 p (.lst xs))
theorem xD {x1} (h : PA X es t) : PE X (.Tuple es x1 pos) (nX t) := by
  intro pins s σ H Q I hq
  refine wpAny_Tuple_spliced (ax (h pos pins s σ H _ I hq) fun us s1 ⟨xs,H1,I1,r,z,q⟩ => ⟨by rw [<- r.length]; exact z,?_⟩)
  have hf : H1 s1.heap.objs.size = none := I1.ay.fresh (Nat.le_refl _)
  refine ⟨.ref s1.heap.objs.size,upd H1 s1.heap.objs.size (.tup xs),I1.laid (t' := s1.toks) (fun b u e => Heap.get?_push_of_some _ e) (Nat.le_refl _) ?_,rfl,q _ hf⟩
  exact ⟨z,us,r,⟨_,Heap.get?_push_size _ rfl,rfl,_,rfl⟩⟩
theorem QT (h : PA X es t) : PE X (.List es pos) (HN t) := by
  intro pins s σ H Q I hq
  refine wpAny_List_spliced (ax (h pos pins s σ H _ I hq) fun us s1 ⟨xs,H1,I1,r,z,q⟩ => ⟨by rw [<- r.length]; exact z,?_⟩)
  have hf : H1 s1.heap.objs.size = none := I1.ay.fresh (Nat.le_refl _)
  refine ⟨.ref s1.heap.objs.size,upd H1 s1.heap.objs.size (.lst xs),I1.laid (t' := s1.toks) (fun b u e => Heap.get?_push_of_some _ e) (Nat.le_refl _) ?_,rfl,q _ hf⟩
  exact ⟨z,us,0,r,Heap.get?_push_size _ rfl⟩
end
abbrev Sp := List V -> Hp -> VK -> XK -> Prop
abbrev fk := List Env -> Hp -> Shared -> XK -> Value -> Shared -> Prop
structure tJ (P : Program) (w : World) (K : PySem.W.Frag) (mg : Str -> Option Value) (base : Heap) (A : Around) (outer : List Env) (s : Shared) (H : Hp) : Prop where
  frames : A.frames = some outer
  mod : Mod K mg base
  bs : ∀ b o,base.get? b = some o -> s.heap.get? b = some o /\ H b = none
  lD : base.objs.size <= s.heap.objs.size
  gO : s.heap.FunFrames base outer
  oq : ∀ b ∈ cW outer,H b = none
  ay : bV P w H s.heap
  bare : AllBare s.gens
def CE (outer : List Env) (P : Program) (w : World) (H : Hp) (s : Shared) (Q : VK) (u : Value) (s' : Shared) : Prop :=
  ∃ v H',s'.os = s.os /\ AllBare s'.gens /\ Un (cW outer) [] H H' s.heap s'.heap /\ bV P w H' s'.heap /\ RelV v u /\ Q v H'
def CR (CX : fk) (outer : List Env) (P : Program) (w : World) (H : Hp) (s : Shared) (Q : VK) (E : XK) (r : Result) (s' : Shared) : Prop :=
  match r with
  | .ok (.ret u) => CE outer P w H s Q u s'
  | .ok _ => False
  | .error e => CX outer H s E e s'
structure aR (P : Program) (w : World) (K : PySem.W.Frag) (mg : Str -> Option Value) (base : Heap) (CX : fk) (k : Nat) (f : Addr) (fd : FuncData) (ps : List Str) (sp : Sp) : Prop where
  len : ∀ vs H Q E,sp vs H Q E -> vs.length = ps.length
  run : ∀ (A : Around) (outer : List Env) (s : Shared) (H : Hp) (args : Args) (us : List Value) (vs : List V) (Q : VK) (E : XK),cN k A -> tJ P w K mg base A outer s H -> BindsTo s fd args (ps.zip us) -> Vals vs us -> sp vs H Q E ->
    codeAny (model P w) A (.call (.ref f) args) (CR CX outer P w H s Q E) s
theorem aR.imp {P : Program} {w : World} {K : PySem.W.Frag} {mg : Str -> Option Value} {base : Heap} {CX : fk} {k : Nat} {f : Addr} {fd : FuncData} {ps : List Str} {sp Jp : Sp} (F : aR P w K mg base CX k f fd ps sp)
    (h : ∀ vs H Q E,Jp vs H Q E -> sp vs H Q E) : aR P w K mg base CX k f fd ps Jp :=
  ⟨fun vs H Q E q => F.len vs H Q E (h _ _ _ _ q),fun A outer s H args us vs Q E hr he hb hv hs => F.run A outer s H args us vs Q E hr he hb hv (h _ _ _ _ hs)⟩
section
variable {X : Cx} {pins : List (Addr × Obj)} {σ : St} {H : Hp} {s s' : Shared}
theorem Inv.HP (I : Inv X pins σ H s) : tJ X.prog X.w X.K X.mg X.base X.A X.stack s H :=
  ⟨I.ok.frames,I.ok.mod,I.bs,Nat.le_trans I.ok.lD I.sz,I.stack,I.Es,I.ay,I.bare⟩
theorem Inv.after {Q : VK} {u : Value} (I : Inv X pins σ H s) (h : CE X.stack X.prog X.w H s Q u s') : EP X pins σ Q u s' := by
  obtain ⟨v,H',os,bare,un,ay,r,q⟩ := h
  obtain ⟨hh,g,d,t,Xm⟩ := s'
  obtain rfl : Xm = s.os := os
  exact ⟨v,H',I.call (h' := hh) (g' := g) (d' := d) (t' := t) (ch := []) un ay bare (fun b z => absurd z (by simp)),r,q⟩
end
def iC (sp : Sp) (jY : List V) (E : XK) (t : TA) : TE := fun σ H Q => t σ H fun vs H1 => sp (vs ++ jY) H1 Q E
def Binds (K : PySem.W.Frag) (fd : FuncData) (ps : List Str) (ds : List Value) : Prop :=
  ∀ (s : Shared) (us : List Value),K.In s.heap -> (us ++ ds).length = ps.length -> BindsTo s fd ⟨us,[]⟩ (ps.zip (us ++ ds))
theorem Binds.all {K : PySem.W.Frag} {fd : FuncData} {ps : List Str} (h : ∀ us : List Value,us.length = ps.length -> bindArgs fd ⟨us,[]⟩ = pure (ps.zip us)) : Binds K fd ps [] := fun s us _ hl => by
  rw [List.append_nil] at hl ⊢
  exact .of_eq (h us hl)
def Passes (CX : fk) (X : Cx) (E : XK) : Prop := ∀ (pins : List (Addr × Obj)) (σ : St) (H : Hp) (s : Shared) (e : Value) (s' : Shared),Inv X pins σ H s -> CX X.stack H s E e s' -> X.xe e s'
section
variable {X : Cx} {CX : fk} {k : Nat} {f C : Addr} {fd : FuncData} {ps : List Str} {sp : Sp} {jY : List V} {ds : List Value} {E : XK} {x m : Str} {p pos apos : Pos} {e o : Expr} {es : List Expr} {ta : TE} {t : TA}
theorem QU {pins : List (Addr × Obj)} {σ : St} {H : Hp} {s : Shared} {Q : VK} {us : List Value} {vs : List V} (F : aR X.prog X.w X.K X.mg X.base CX k f fd ps sp) (hr : cN k X.A) (hb : Binds X.K fd ps ds) (hd : Vals jY ds) (hx : Passes CX X E)
    (I : Inv X pins σ H s) (r : Vals vs us) (h : sp (vs ++ jY) H Q E) : wpAny (model X.prog X.w) X.A (call (.ref f) us) (EP X pins σ Q) X.xe s := by
  have r2 : Vals (vs ++ jY) (us ++ ds) := r.append hd
  have hl : (us ++ ds).length = ps.length := by rw [<- r2.length]; exact F.len _ _ _ _ h
  refine wpAny_call (codeAny_mono (F.run X.A X.stack s H ⟨us,[]⟩ (us ++ ds) (vs ++ jY) Q E hr I.HP (hb s us I.dh hl) r2 h) fun r s' hq => ?_)
  cases r with
  | error e => exact hx pins σ H s e s' I hq
  | ok fl =>
    cases fl with
    | ret u => exact I.after hq
    | next => exact False.elim hq
    | brk => exact False.elim hq
    | cont => exact False.elim hq
theorem EC (F : aR X.prog X.w X.K X.mg X.base CX k f fd ps sp) (hr : cN k X.A) (hg : Gl X x) (hm : X.mg x = some (.ref f)) (hk : PySem.W.keepIn X.K (.ref f) = true) (hb : Binds X.K fd ps ds) (hd : Vals jY ds) (hx : Passes CX X E)
    (ha : PA X (e :: es) t) (dQ : (x == ("__debug__" : Str)) = false := by decide) (he : starEach (e :: es) X.env = (false,eval e X.env) :: starEach es X.env := by rfl) (dD : (backTo pos (starEach es X.env)).any (·.1) = false := by rfl) :
    PE X (.Call (.Name x p) (e :: es) [] pos) (iC sp jY E t) := by
  intro pins s σ H Q I h
  refine wpAny_Call_Name_kw (wV I hg hm ?_ dQ)
  refine PySem.W.callWith_K (h₀ := X.base) I.ok.mod.tX hk (ax (ha pos pins s σ H _ I h) fun us s1 ⟨vs,H1,I1,r,q⟩ => ⟨I1.dh,?_⟩) he dD
  exact QU F hr hb hd hx I1 r q
end
def PK (X : Cx) (iJ : List Keyword) (t : TA) : Prop :=
  ∀ (pos : Pos) (pins : List (Addr × Obj)) (s : Shared) (σ : St) (H : Hp) (Q : List V -> Hp -> Prop),Inv X pins σ H s -> t σ H Q -> wpAny (model X.prog X.w) X.A (evalAll ((backToKw pos (keywordEach iJ X.env)).map (·.2))) (AP X pins σ Q) X.xe s
section
variable {X : Cx} {CX : fk} {k : Nat} {f C : Addr} {fd : FuncData} {ps ks : List Str} {sp : Sp} {E : XK} {x m : Str} {p pos apos SN : Pos} {e o : Expr} {es : List Expr} {iJ : List Keyword} {te ta : TE} {t tk : TA} {nm : Option Str}
theorem QV : PK X [] cm := fun _ _ _ _ H Q I h => wpAny_evalAll_nil ⟨[],H,I,.nil,h⟩
theorem O3 (ha : PE X e te) (hr : PK X iJ t) : PK X (⟨nm,e,SN⟩ :: iJ) (bt te t) := by
  intro pos pins s σ H Q I h
  show wpAny _ _ (evalAll ((do let v <- eval e X.env; standAt pos; pure v) :: (backToKw pos (keywordEach iJ X.env)).map (·.2))) _ _ s
  refine wpAny_evalAll_cons (wpAny_bind (ax (ha pins s σ H _ I h) fun u s1 ⟨x,H1,I1,r1,q1⟩ => wpAny_bind (wpAny_standAt (wpAny_pure ?_))))
  exact ax (hr pos pins s1 σ H1 _ I1 q1) fun us s2 ⟨xs,H2,I2,r2,q2⟩ => ⟨x :: xs,H2,I2,.cons r1 r2,q2⟩
structure pW (K : PySem.W.Frag) (fd : FuncData) (ps ks : List Str) (g : List Value -> List Value -> List Value) (gV : List V -> List V -> List V) : Prop where
  to : ∀ (s : Shared) (us ws : List Value),K.In s.heap -> (g us ws).length = ps.length -> BindsTo s fd ⟨us,ks.zip ws⟩ (ps.zip (g us ws))
  rel : ∀ {vs : List V} {us : List Value} {zs : List V} {ws : List Value},Vals vs us -> Vals zs ws -> Vals (gV vs zs) (g us ws)
def Fv (sp : Sp) (gV : List V -> List V -> List V) (E : XK) (t tk : TA) : TE := fun σ H Q => t σ H fun vs H1 => tk σ H1 fun zs H2 => sp (gV vs zs) H2 Q E
variable {g : List Value -> List Value -> List Value} {gV : List V -> List V -> List V}
theorem O4 {pins : List (Addr × Obj)} {σ : St} {H : Hp} {s : Shared} {Q : VK} {us ws : List Value} {vs zs : List V} (F : aR X.prog X.w X.K X.mg X.base CX k f fd ps sp) (hr : cN k X.A) (hb : pW X.K fd ps ks g gV) (hx : Passes CX X E)
    (I : Inv X pins σ H s) (r : Vals vs us) (rz : Vals zs ws) (h : sp (gV vs zs) H Q E) : wpAny (model X.prog X.w) X.A (call (.ref f) us (ks.zip ws)) (EP X pins σ Q) X.xe s := by
  have r2 := hb.rel r rz
  have hl : (g us ws).length = ps.length := by rw [<- r2.length]; exact F.len _ _ _ _ h
  refine wpAny_call (codeAny_mono (F.run X.A X.stack s H ⟨us,ks.zip ws⟩ (g us ws) (gV vs zs) Q E hr I.HP (hb.to s us ws I.dh hl) r2 h) fun r s' hq => ?_)
  cases r with
  | error e => exact hx pins σ H s e s' I hq
  | ok fl =>
    cases fl with
    | ret u => exact I.after hq
    | next => exact False.elim hq
    | brk => exact False.elim hq
    | cont => exact False.elim hq
theorem N0 (F : aR X.prog X.w X.K X.mg X.base CX k f fd ps sp) (hr : cN k X.A) (hg : Gl X x) (hm : X.mg x = some (.ref f)) (hk : PySem.W.keepIn X.K (.ref f) = true) (hb : pW X.K fd ps ks g gV) (hx : Passes CX X E)
    (ha : PA X (e :: es) t) (Xn : PK X iJ tk) (kT : (backToKw pos (keywordEach iJ X.env)).all (·.1.isSome) = true := by rfl) (qS : (backToKw pos (keywordEach iJ X.env)).filterMap (·.1) = ks := by rfl)
    (dQ : (x == ("__debug__" : Str)) = false := by decide) (he : starEach (e :: es) X.env = (false,eval e X.env) :: starEach es X.env := by rfl)
    (dD : ((backTo pos (starEach (e :: es) X.env)).any (·.1) || (backToKw pos (keywordEach iJ X.env)).any (·.1.isNone)) = false := by rfl) :
    PE X (.Call (.Name x p) (e :: es) iJ pos) (Fv sp gV E t tk) := by
  intro pins s σ H Q I h
  refine wpAny_Call_Name_kw (wV I hg hm ?_ dQ)
  refine PySem.W.callWith_KW (h₀ := X.base) I.ok.mod.tX hk kT (ax (ha pos pins s σ H _ I h) fun us s1 ⟨vs,H1,I1,r,q⟩ => ?_) dD he
  refine ax (Xn pos pins s1 σ H1 _ I1 q) fun ws s2 ⟨zs,H2,I2,rz,q2⟩ => ⟨I2.dh,?_⟩
  rw [qS]
  exact O4 F hr hb hx I2 r rz q2
end
structure bh (N P : List Str) (sc : Scope) : Prop where
  kind : sc.kind = .function
  co : sc.isCoroutine = false
  gen : sc.isGenerator = false
  nd : N.Nodup
  pre : N.take P.length = P
  par : ∀ x ∈ P,sc.names.lookup x = some .local \/ sc.names.lookup x = some .cell
  QW : ∀ y ∈ sc.names,y.2 ≠ .free
theorem Dg {kindOf : Str -> Option NameKind} {x : Str} : ∀ {binds : List (Str × Value)} {m : Str -> Option Value},(∀ v,(x,v) ∉ binds) -> bindL kindOf binds m x = m x
  | [],_,_ => rfl
  | (n,v) :: r,m,h => by
    unfold bindL
    rw [Dg fun w hw => h w (List.mem_cons_of_mem _ hw)]
    split
    · have : x ≠ n := by rintro rfl; exact h v List.mem_cons_self
      simp [this]
    · rfl
theorem Dh {kindOf : Str -> Option NameKind} {x : Str} : ∀ {binds : List (Str × Value)} {m : Str -> Option Value},(∀ v,(x,v) ∉ binds) -> bindC kindOf binds m x = m x
  | [],_,_ => rfl
  | (n,v) :: r,m,h => by
    unfold bindC
    rw [Dh fun w hw => h w (List.mem_cons_of_mem _ hw)]
    split
    · rfl
    · have : x ≠ n := by rintro rfl; exact h v List.mem_cons_self
      simp [this]
theorem Di {kindOf : Str -> Option NameKind} {x : Str} {v : Value} : ∀ {P : List Str} {vs : List Value} {i : Nat} {m : Str -> Option Value},P.Nodup -> P[i]? = some x -> vs[i]? = some v -> kindOf x = some .local ->
    bindL kindOf (P.zip vs) m x = some v
  | [],_,_,_,_,h,_,_ => by simp at h
  | _ :: _,[],_,_,_,_,h,_ => by simp at h
  | p :: P,w :: vs,0,m,nd,h1,h2,hk => by
    simp at h1 h2; subst h1; subst h2
    show bindL kindOf ((p,w) :: P.zip vs) m p = _
    unfold bindL
    rw [Dg fun v hv => (List.nodup_cons.mp nd).1 (List.of_mem_zip hv).1,if_pos hk]
    simp
  | p :: P,w :: vs,i + 1,m,nd,h1,h2,hk => by
    show bindL kindOf ((p,w) :: P.zip vs) m x = _
    unfold bindL
    exact Di (i := i) (List.nodup_cons.mp nd).2 (by simpa using h1) (by simpa using h2) hk
theorem Dj {kindOf : Str -> Option NameKind} {x : Str} {v : Value} : ∀ {P : List Str} {vs : List Value} {i : Nat} {m : Str -> Option Value},P.Nodup -> P[i]? = some x -> vs[i]? = some v -> kindOf x ≠ some .local ->
    bindC kindOf (P.zip vs) m x = some v
  | [],_,_,_,_,h,_,_ => by simp at h
  | _ :: _,[],_,_,_,_,h,_ => by simp at h
  | p :: P,w :: vs,0,m,nd,h1,h2,hk => by
    simp at h1 h2; subst h1; subst h2
    show bindC kindOf ((p,w) :: P.zip vs) m p = _
    unfold bindC
    rw [Dh fun v hv => (List.nodup_cons.mp nd).1 (List.of_mem_zip hv).1,if_neg hk]
    simp
  | p :: P,w :: vs,i + 1,m,nd,h1,h2,hk => by
    show bindC kindOf ((p,w) :: P.zip vs) m x = _
    unfold bindC
    exact Dj (i := i) (List.nodup_cons.mp nd).2 (by simpa using h1) (by simpa using h2) hk
def start (N : List Str) (vs : List V) : St := vs.map some ++ List.replicate (N.length - vs.length) none
def i9 (CX : fk) (P : Program) (w : World) (K : PySem.W.Frag) (mg : Str -> Option Value) (base : Heap) (N : List Str) (qual : Str) (scope : Scope) (f : Addr) (cd : Value) (A : Around) (outer : List Env) (s : Shared) (H : Hp) (E : XK) : Cx where
  prog := P
  w := w
  K := K
  mg := mg
  base := base
  A := A.deeper (envOfC qual scope s.heap.objs.size f cd)
  N := N
  cM := s
  qw := H
  env := envOfC qual scope s.heap.objs.size f cd
  outer := outer
  stack := envOfC qual scope s.heap.objs.size f cd :: outer
  ex := []
  calm := true
  fn := fun _ => true
  pn := []
  xe := fun e s' => wpAny (model P w) (A.deeper (envOfC qual scope s.heap.objs.size f cd)) (leaving (envOfC qual scope s.heap.objs.size f cd) e) (fun _ zC => CX outer H s E e zC) (fun e' zC => CX outer H s E e' zC) s'
theorem wu {sc : Scope} {n : Nat} {x : Str} (h : sc.names.lookup x = some .cell) : ∃ c,(cellsFrom n sc.names []).lookup x = some c := by
  have q := PySem.W.cellsFrom_some sc.names n [] (.inl h)
  exact Option.isSome_iff_exists.mp q
theorem Nf {CX : fk} {P : Program} {w : World} {K : PySem.W.Frag} {mg : Str -> Option Value} {base : Heap} {N ps : List Str} {qual : Str} {scope : Scope} {f : Addr} {cd : Value} {A : Around} {outer : List Env} {s s1 : Shared} {H : Hp} {E : XK} {us : List Value} {vs : List V}
    (S : bh N ps scope) (hd : A.handled = none) (e0 : tJ P w K mg base A outer s H) (hl : vs.length = ps.length) (r : Vals vs us)
    (x : InCallC s s.heap.objs.size (bindL (envOfC qual scope s.heap.objs.size f cd).kindOf (ps.zip us) fun _ => none) (cellsFrom (s.heap.objs.size + 1) scope.names []) (bindC (envOfC qual scope s.heap.objs.size f cd).kindOf (ps.zip us) fun _ => none) s1) :
    Inv (i9 CX P w K mg base N qual scope f cd A outer s H E) [] (start N vs) H s1 := by
  have dD : ps.length <= N.length := by have := congrArg List.length S.pre; rw [List.length_take] at this; omega
  obtain ⟨h1,tk,rfl,hk⟩ := x.done
  have qT : ∀ b : Addr,b ∉ (i9 CX P w K mg base N qual scope f cd A outer s H E).ex := fun b z => absurd (show b ∈ ([] : List Addr) from z) (by simp)
  refine ⟨⟨e0.mod,S.kind,rfl,rfl,Nat.le_refl _,fun y z c h1 h2 => ?_,fun y hy => ?_,fun y c _ h => ?_,fun _ => hd,Around.frames_deeper e0.frames,.inr ⟨rfl,rfl⟩,fun b z => absurd z (qT b),e0.bs,e0.lD,fun b _ _ => qT b,fun b z => absurd z (qT b),e0.gO,e0.oq⟩,
    rfl,e0.bare,Un.kept hk,⟨_,x.toInCall.ns,fun i y v h1 h2 h3 => ?_⟩,fun y c h => ⟨_,x.cell y c h⟩,e0.ay.fresh (Nat.le_refl _),fun y c h => ?_,fun p hp => absurd (show p ∈ ([] : List (Addr × Obj)) from hp) (by simp),e0.ay.kept hk,?_⟩
  · exact name_of_addr x.apart (PySem.mem_of_lookup h1) (PySem.mem_of_lookup h2)
  · have hy : scope.names.lookup y = some .cell \/ scope.names.lookup y = some .free := hy
    rcases hy with hy | hy
    · exact wu hy
    · exact absurd rfl (S.QW _ (PySem.mem_of_lookup hy))
  · exact Nat.le_of_lt (x.above y c (PySem.mem_of_lookup h))
  · have hi : i < vs.length := by
      unfold start at h2
      by_cases hi : i < vs.length
      · exact hi
      · rw [List.getElem?_append_right (by simpa using hi)] at h2
        rw [List.getElem?_replicate] at h2
        split at h2 <;> cases h2
    have ha : vs[i]? = some v := by
      unfold start at h2
      rw [List.getElem?_append_left (by simpa using hi),List.getElem?_map] at h2
      cases e : vs[i]? with
      | none => rw [e] at h2; cases h2
      | some a => rw [e] at h2; cases h2; rfl
    obtain ⟨u,hu,rv⟩ := r.get ha
    have hp : ps[i]? = some y := by
      rw [<- S.pre,List.getElem?_take_of_lt (by omega)]; exact h1
    have Jq : ps.Nodup := by rw [<- S.pre]; exact S.nd.sublist (List.take_sublist _ _)
    refine ⟨u,rv,?_⟩
    rcases S.par y (List.mem_of_getElem? hp) with k | k
    · exact .inl ⟨k,Di Jq hp hu k⟩
    · obtain ⟨c,e⟩ := wu (n := s.heap.objs.size + 1) k
      refine .inr ⟨.inl k,c,e,?_⟩
      have q := x.cell y c e
      rw [Dj Jq hp hu (by show scope.names.lookup y ≠ _; rw [k]; decide)] at q
      exact q
  · exact e0.ay.fresh (Nat.le_of_lt (x.above y c (PySem.mem_of_lookup h)))
  · unfold start
    show _ = N.length
    rw [List.length_append,List.length_map,List.length_replicate]
    omega
theorem RY {CX : fk} {P : Program} {w : World} {K : PySem.W.Frag} {mg : Str -> Option Value} {base : Heap} {k : Nat} {f : Addr} {name qual : Str} {params : Arguments} {body : List Stmt} {scope : Scope} {dV kV doc pm bD ct oc : Value} {an od : Option Addr}
    {fX : Array (Option Value)} {N ps : List Str} {sp : Sp} (lk : K.lookup f = some ⟨oc,od,.func (PySem.W.fnOf name qual params body scope dV kV doc pm an bD ct),fX⟩) (fj : PySem.W.codeIn K bD qual = true) (S : bh N ps scope)
    (len : ∀ vs H Q E,sp vs H Q E -> vs.length = ps.length)
    (x6 : ∀ (A : Around) (outer : List Env) (s : Shared) (H : Hp) (vs : List V) (Q : VK) (E : XK),cN k (A.deeper (envOfC qual scope s.heap.objs.size f bD)) -> sp vs H Q E ->
      ∃ t,eM (i9 CX P w K mg base N qual scope f bD A outer s H E) body t /\ t { nx := fun _ H' => Q .aF H',rt := Q } (start N vs) H) :
    aR P w K mg base CX (k + 1) f (PySem.W.fnOf name qual params body scope dV kV doc pm an bD ct) ps sp := by
  refine ⟨len,fun A outer s H args us vs Q E hr e0 hb r jZ => ?_⟩
  have hl := len _ _ _ _ jZ
  have KX : K.In s.heap := e0.mod.tX.keeps fun b o e => (e0.bs b o e).1
  have lim : s.heap.NoLimit := e0.mod.nolimit.keeps fun b o e => (e0.bs b o e).1
  have RZ : ∀ y ∈ ps.zip us,scope.names.lookup y.1 = some .local \/ (scope.names.lookup y.1 = some .cell /\ ((cellsFrom (s.heap.objs.size + 1) scope.names []).lookup y.1).isSome = true) := fun ⟨n,v⟩ hy => by
    rcases S.par n (List.of_mem_zip hy).1 with q | q
    · exact .inl q
    · exact .inr ⟨q,PySem.W.cellsFrom_some _ _ _ (.inl q)⟩
  refine codeAny_call_function hr.depth (KX _ _ lk) rfl S.co S.gen rfl (PySem.W.codeRec_of KX fj) (hb _ _ _ _ ?_)
  refine wpAny_newFunctionEnv_cells S.kind RZ fun env he s1 x => ?_
  subst he
  refine ⟨lim.keeps x.toInCall.keep,codeAny_func ?_⟩
  obtain ⟨t,ht,hq⟩ := x6 A outer s H vs Q E (hr.deeper _) jZ
  have I : Inv (i9 CX P w K mg base N qual scope f bD A outer s H E) [] (start N vs) H s1 := Nf S hr.hd e0 hl r x
  refine wpAny_mono (ht [] s1 (start N vs) H _ I hq) (fun fl s' hs => ?_) fun e s' hs => hs
  have fin : ∀ {ao : St} {H' : Hp} {v : V} {u : Value},Inv (i9 CX P w K mg base N qual scope f bD A outer s H E) [] ao H' s' -> RelV v u -> Q v H' -> CE outer P w H s Q u s' :=
    fun {ao H' v u} J rv q => ⟨v,H',J.os,J.bare,J.base,J.ay,rv,q⟩
  cases fl with
  | ret u =>
    obtain ⟨v,ao,H',J,rv,q⟩ := hs
    exact fin J rv q
  | next =>
    obtain ⟨ao,H',J,q⟩ := hs
    exact fin (v := V.aF) (u := Value.none) J rfl q
  | brk =>
    obtain ⟨_,_,_,q⟩ := hs
    exact False.elim q
  | cont =>
    obtain ⟨_,_,_,q⟩ := hs
    exact False.elim q
end L2
namespace L2
open PySem PySem.Spec PyProof.Rows
section
variable {X : Cx} {x : Str} {p pos : Pos} {e : Expr} {es : List Expr} {t : TA} {id T : String} {r : List V -> Hp -> VK -> Prop}
def gY (r : List V -> Hp -> VK -> Prop) (t : TA) : TE := fun σ H Q => t σ H fun vs H1 => r vs H1 Q
theorem pf (hc : eI X (.builtin id) r) (hg : Gl X x) (hm : X.mg x = none) (hv : bootBuiltins x = some (.builtin id)) (ha : PA X (e :: es) t) (hn : x ≠ "__name__" := by decide) (dQ : (x == ("__debug__" : Str)) = false := by decide)
    (he : starEach (e :: es) X.env = (false,eval e X.env) :: starEach es X.env := by rfl) (dD : (backTo pos (starEach es X.env)).any (·.1) = false := by rfl) : PE X (.Call (.Name x p) (e :: es) [] pos) (gY r t) := by
  intro pins s σ H Q I h
  refine wpAny_Call_Name_kw (kD I hg hm hv ?_ hn dQ)
  exact PyProof.Rows.callWith_builtin1 (ax (ha pos pins s σ H _ I h) fun us s1 ⟨vs,H1,I1,r1,q1⟩ => hc pins s1 σ H1 vs us Q I1 r1 q1) he dD
theorem rY (hc : eI X (.type T) r) (hg : Gl X x) (hm : X.mg x = none) (hv : bootBuiltins x = some (.type T)) (ha : PA X (e :: es) t) (hn : x ≠ "__name__" := by decide) (dQ : (x == ("__debug__" : Str)) = false := by decide)
    (he : starEach (e :: es) X.env = (false,eval e X.env) :: starEach es X.env := by rfl) (dD : (backTo pos (starEach es X.env)).any (·.1) = false := by rfl) : PE X (.Call (.Name x p) (e :: es) [] pos) (gY r t) := by
  intro pins s σ H Q I h
  refine wpAny_Call_Name_kw (kD I hg hm hv ?_ hn dQ)
  exact PyProof.Rows.callWith_type1 (ax (ha pos pins s σ H _ I h) fun us s1 ⟨vs,H1,I1,r1,q1⟩ => hc pins s1 σ H1 vs us Q I1 r1 q1) he dD
end
end L2
namespace HT
open PySem PyProof.Rows
section
variable {prog : Program} {w : World} {A : Around} {E : Value -> Shared -> Prop} {s : Shared}
def dG (n d : Nat) : Option Int -> Nat
  | none => d
  | some v => if v < 0 then (v + (n : Int)).toNat else min v.toNat n
theorem N1 (n d : Nat) : dG n d none = d := rfl
theorem sC (n d k : Nat) : dG n d (some (k : Int)) = min k n := by
  show (if (k : Int) < 0 then ((k : Int) + (n : Int)).toNat else min (k : Int).toNat n) = min k n
  rw [if_neg (by omega),Int.toNat_natCast]
end
end HT
namespace L2
open PySem PySem.Spec PyProof.Rows
abbrev TO := St -> Hp -> (Option Int -> Hp -> Prop) -> Prop
def PO (X : Cx) (e : Option Expr) (t : TO) : Prop :=
  ∀ (pins : List (Addr × Obj)) (s : Shared) (σ : St) (H : Hp) (Q : Option Int -> Hp -> Prop),Inv X pins σ H s -> t σ H Q ->
    wpAny (model X.prog X.w) X.A (evalPart e X.env) (fun u s' => ∃ o H',Inv X pins σ H' s' /\ IsPart u o /\ Q o H') X.xe s
def ED : TO := fun _ H Q => Q none H
def GZ (t : TE) : TO := fun σ H Q => t σ H fun x H1 => ∃ i,x = .int i /\ Q (some i) H1
theorem intsAre_of {ns : List Int} : ∀ {us : List Value},Vals (ns.map V.int) us -> IntsAre us ns := by
  induction ns with
  | nil => intro us r; rw [List.map_nil] at r; cases r; exact .nil
  | cons n ns ih =>
    intro us r
    rw [List.map_cons] at r
    cases r with
    | cons r1 r2 =>
      obtain ⟨t,e⟩ := r1
      subst e
      exact .cons n t (ih r2)
section
variable {X : Cx} {e : Expr} {te : TE} {lo hi : Option Expr} {tl th : TO} {pos p2 : Pos}
theorem O5 : PO X none ED := by
  intro pins s σ H Q I h
  rw [evalPart_none]
  exact wpAny_pure ⟨none,H,I,.none,h⟩
theorem O6 (h : PE X e te) : PO X (some e) (GZ te) := by
  intro pins s σ H Q I hw
  rw [evalPart_some]
  refine ax (h pins s σ H _ I hw) fun u s1 ⟨x,H1,I1,r1,q1⟩ => ?_
  obtain ⟨i,rfl,q⟩ := q1
  obtain ⟨t,rfl⟩ := r1
  exact ⟨some i,H1,I1,.int i t,q⟩
def Jr (X : Cx) (r : V -> Option Int -> Option Int -> Hp -> VK -> Prop) : Prop :=
  ∀ (pins : List (Addr × Obj)) (s : Shared) (σ : St) (H : Hp) (x : V) (v vl vu : Value) (lo hi : Option Int) (sl : Addr) (Q : VK),Inv X pins σ H s -> RelV x v -> s.heap.IsSliceOf sl vl vu .none -> IsPart vl lo -> IsPart vu hi -> r x lo hi H Q ->
    ∃ T id,typeLookup (.type T) "__getitem__" = pure (some (.builtin id)) /\ s.TypeIs v T /\ wpAny (model X.prog X.w) X.A (getItem v (.ref sl)) (EP X pins σ Q) X.xe s
def Js (r : V -> Option Int -> Option Int -> Hp -> VK -> Prop) (te : TE) (tl th : TO) : TE := fun σ H Q => te σ H fun x H1 => tl σ H1 fun l H2 => th σ H2 fun u H3 => r x l u H3 Q
theorem N3 {r : V -> Option Int -> Option Int -> Hp -> VK -> Prop} (hr : Jr X r) (he : PE X e te) (hl : PO X lo tl) (hu : PO X hi th) : PE X (.Subscript e (.Slice lo hi none p2) pos) (Js r te tl th) := by
  intro pins s σ H Q I h
  refine Subscript_ (ax (he pins s σ H _ I h) fun v s1 ⟨x,H1,I1,r1,q1⟩ => ?_)
  refine wpAny_Slice (ax (hl pins s1 σ H1 _ I1 q1) fun vl s2 ⟨l,H2,I2,pl,q2⟩ => ax (hu pins s2 σ H2 _ I2 q2) fun vu s3 ⟨u,H3,I3,pu,q3⟩ => ?_)
  rw [evalPart_none]
  refine wpAny_pure ?_
  have I4 : Inv X pins σ H3 { s3 with heap := s3.heap.push { cls := .type "slice",data := .fields #[vl,vu,.none] } } := I3.kept (t' := s3.toks) fun b ob q => Heap.get?_push_of_some _ q
  obtain ⟨T,id,hT,ht,hg⟩ := hr pins { s3 with heap := s3.heap.push { cls := .type "slice",data := .fields #[vl,vu,.none] } } σ H3 x v vl vu l u s3.heap.objs.size Q I4 r1 (Heap.IsSliceOf.new ..) pl pu q3
  show wpAny (model X.prog X.w) X.A (subscriptTail e (.Slice lo hi none p2) v (.ref s3.heap.objs.size)) (EP X pins σ Q) X.xe { s3 with heap := s3.heap.push { cls := .type "slice",data := .fields #[vl,vu,.none] } }
  exact tail_any (ops := [.ref s3.heap.objs.size,v]) ht hT hg (by with_unfolding_all rfl)
def nY (xs : List V) (lo hi : Option Int) : List V := (xs.drop (HT.dG xs.length 0 lo)).take (HT.dG xs.length xs.length hi - HT.dG xs.length 0 lo)
theorem Mj (xs : List V) (lo hi : Option Int) : (nY xs lo hi).length <= xs.length := by
  unfold nY
  rw [List.length_take,List.length_drop]
  omega
end
end L2
namespace L2
open PySem PySem.Spec PyProof.Rows
def dR (n : Nat) (i : Int) : Option Nat := if 0 <= i then (if i < n then some i.toNat else none) else if -(n : Int) <= i then some (i + n).toNat else none
def aZ {α : Type} (xs : List α) (i : Int) : Option α := (dR xs.length i).bind fun j => xs[j]?
theorem sD {n : Nat} {i : Int} {j : Nat} (h : dR n i = some j) : seqIndex? i n = some j /\ j < n /\ -(n : Int) <= i /\ i < n := by
  unfold dR at h
  by_cases h0 : 0 <= i
  · rw [if_pos h0] at h
    by_cases h1 : i < n
    · rw [if_pos h1] at h
      have e : i.toNat = j := Option.some.inj h
      exact ⟨by rw [seqIndex_of h0 h1,e],by omega,by omega,h1⟩
    · rw [if_neg h1] at h; cases h
  · rw [if_neg h0] at h
    by_cases h1 : -(n : Int) <= i
    · rw [if_pos h1] at h
      have e : (i + n).toNat = j := Option.some.inj h
      exact ⟨by rw [seqIndex_neg (by omega) h1,e],by omega,h1,by omega⟩
    · rw [if_neg h1] at h; cases h
theorem EE {α : Type} {xs : List α} {i : Int} {v : α} (h : aZ xs i = some v) : ∃ j,seqIndex? i xs.length = some j /\ xs[j]? = some v /\ j < xs.length /\ -(xs.length : Int) <= i /\ i < xs.length := by
  unfold aZ at h
  cases e : dR xs.length i with
  | none => rw [e] at h; cases h
  | some j =>
    rw [e] at h
    obtain ⟨h1,h2,h3,h4⟩ := sD e
    exact ⟨j,h1,h,h2,h3,h4⟩
theorem e9 {α : Type} {xs : List α} {j : Nat} {v : α} (h : xs[j]? = some v) : aZ xs (j : Int) = some v := by
  have hj : j < xs.length := (List.getElem?_eq_some_iff.mp h).1
  have e : dR xs.length (j : Int) = some j := by
    unfold dR
    rw [if_pos (by omega),if_pos (by omega)]; simp
  unfold aZ; rw [e]; exact h
def wW (b : Expr) : Prop := ∀ o i,subscripted b false o i = operate [o,i] (getItem o i)
def qU (X : Cx) (r : R2) : Prop :=
  ∀ (value slice : Expr) (pins : List (Addr × Obj)) (s : Shared) (σ : St) (H : Hp) (x y : V) (v u : Value) (Q : VK),Inv X pins σ H s -> RelV x v -> RelV y u -> r x y H Q ->
    subscripted slice false v u = operate [v,u] (getItem v u) -> wpAny (model X.prog X.w) X.A (subscriptTail value slice v u) (EP X pins σ Q) X.xe s
def Jt (X : Cx) (id : String) (r : V -> List V -> Hp -> VK -> Prop) : Prop :=
  ∀ (pins : List (Addr × Obj)) (s : Shared) (σ : St) (H : Hp) (x : V) (xs : List V) (v : Value) (us : List Value) (Q : VK),Inv X pins σ H s -> RelV x v -> Vals xs us -> r x xs H Q ->
    wpAny (model X.prog X.w) X.A (call (.builtin id) (v :: us)) (EP X pins σ Q) X.xe s
section
variable {X : Cx} {a b : Expr} {ta tb : TE} {pos : Pos}
theorem G9 {r : R2} (hr : qU X r) (ha : PE X a ta) (hb : PE X b tb) (hs : wW b) : PE X (.Subscript a b pos) (gX r ta tb) := by
  intro pins s σ H Q I h
  exact Subscript_ (yM ha hb I h fun v u s2 x y H2 I2 rx ry q => hr a b pins s2 σ H2 x y v u Q I2 rx ry q (hs _ _))
def yR (K : PySem.W.Frag) : R2 := fun x y H Q => ∃ p xs i v,x = .ref p /\ y = .int i /\ aD K H p xs /\ aZ xs i = some v /\ Q v H
def yS (K : PySem.W.Frag) : R2 := fun x y H Q => ∃ p xs i v,x = .ref p /\ y = .int i /\ cE K H p xs /\ aZ xs i = some v /\ Q v H
theorem O7 : qU X (yR X.K) := by
  intro value slice pins s σ H x y v u Q I rx ry h hs
  obtain ⟨p,xs,i,z,rfl,rfl,hq,he,q⟩ := h
  cases rx
  obtain ⟨t,rfl⟩ := ry
  obtain ⟨its,r,pl,hz⟩ := I.list hq
  obtain ⟨j,h1,h2,h3,h4,h5⟩ := EE he
  obtain ⟨w,ew,fY⟩ := r.get h2
  have hl := r.length
  have hn := sO
  have fin : EP X pins σ Q w s := ⟨z,H,I,fY,q⟩
  by_cases h0 : 0 <= i
  · have hj : i.toNat = j := by
      rw [seqIndex_of h0 h5] at h1
      exact Option.some.inj h1
    exact item_listR pl.isList h0 (by omega) (by rw [hj]; simpa using ew) fin hs
  · have hj : (i + (its.toArray.size : Int)).toNat = j := by
      rw [seqIndex_neg (by omega) h4] at h1
      rw [List.size_toArray,<- hl]
      exact Option.some.inj h1
    exact subscriptTail_builtinR (x := w) pl.isList.typeIs slot_list_getitem.lookup
      (wpAny_getItem_list_neg (Q := fun r s' => r = w /\ EP X pins σ Q r s') pl.isList (by omega) (by rw [List.size_toArray] <;> omega) (by omega) (by rw [hj]; simpa using ew) ⟨rfl,fin⟩) hs
theorem QX : qU X (yS X.K) := by
  intro value slice pins s σ H x y v u Q I rx ry h hs
  obtain ⟨p,xs,i,z,rfl,rfl,hq,he,q⟩ := h
  cases rx
  obtain ⟨t,rfl⟩ := ry
  obtain ⟨its,r,pl,hz⟩ := I.tuple hq
  obtain ⟨j,h1,h2,h3,h4,h5⟩ := EE he
  obtain ⟨w,ew,fY⟩ := r.get h2
  have hl := r.length
  have hn := sO
  have fin : EP X pins σ Q w s := ⟨z,H,I,fY,q⟩
  exact subscriptTail_builtinR (x := w) pl.typeIs slot_tuple_getitem.lookup
    (getItem_tuple (j := j) (Q := fun r s' => r = w /\ EP X pins σ Q r s') pl (by omega) (by omega) (by rw [List.size_toArray,<- hl]; exact h1) (by simpa using ew) ⟨rfl,fin⟩) hs
theorem MJ (its : List Value) (n j : Nat) (u : Value) : Obj.mapSeq (·.setIfInBounds j u) { cls := .type "list",data := .seq its.toArray n } = { cls := .type "list",data := .seq (its.set j u).toArray n } := by
  simp [Obj.mapSeq]
theorem Inv.lst {pins : List (Addr × Obj)} {σ : St} {H : Hp} {s : Shared} {p : Addr} {xs : List V} (I : Inv X pins σ H s) (h : H p = some (.lst xs)) :
    ∃ (its : List Value) (n : Nat),Vals xs its /\ s.heap.get? p = some { cls := .type "list",data := .seq its.toArray n } /\ xs.length <= sizeLine := by
  obtain ⟨z,its,n,r,e⟩ := I.ay p _ h
  exact ⟨its,n,r,e,z⟩
theorem Inv.QY {pins : List (Addr × Obj)} {σ : St} {H : Hp} {s : Shared} {p : Addr} {xs ys : List V} {its its' : List Value} {n n' : Nat} {f : Obj -> Obj} (I : Inv X pins σ H s) (h : H p = some (.lst xs))
    (ho : s.heap.get? p = some { cls := .type "list",data := .seq its.toArray n }) (hf : f { cls := .type "list",data := .seq its.toArray n } = { cls := .type "list",data := .seq its'.toArray n' }) (r : Vals ys its') (hz : ys.length <= sizeLine) (t : Nat) :
    Inv X pins σ (upd H p (.lst ys)) { s with heap := s.heap.update p f,toks := t } := by
  have e : (s.heap.update p f).get? p = some { cls := .type "list",data := .seq its'.toArray n' } := by
    rw [Heap.get?_update_self f ho (by rw [hf] <;> rfl),hf]
  refine I.write (x := p) (e := p) (by rw [h]; trivial) (.inl rfl) (fun b u hb q => (Heap.get?_update_other _ _ (Ne.symm hb)).trans q) ⟨_,e⟩ ?_
  exact ⟨hz,its',n',r,e⟩
def x8 : V -> V -> V -> Hp -> (Hp -> Prop) -> Prop := fun o i v H Q => ∃ p xs k j,o = .ref p /\ i = .int k /\ H p = some (.lst xs) /\ dR xs.length k = some j /\ Q (upd H p (.lst (xs.set j v)))
theorem set_list : HL X x8 := by
  intro pins s σ H o i v ov iv u Q I ro ri rv h
  obtain ⟨p,xs,k,j,rfl,rfl,hp,hj,q⟩ := h
  cases ro
  obtain ⟨t,rfl⟩ := ri
  obtain ⟨its,n,r,ho,hz⟩ := I.lst hp
  obtain ⟨h1,h2,h3,h4⟩ := sD hj
  have hl := r.length
  have hn := sO
  have I' : Inv X pins σ (upd H p (.lst (xs.set j v))) { s with heap := s.heap.update p (Obj.mapSeq (·.setIfInBounds j u)) } :=
    I.QY hp ho (MJ its n j u) (r.set rv j) (by rw [List.length_set]; exact hz) s.toks
  by_cases h0 : 0 <= k
  · have hk : k.toNat = j := by
      rw [seqIndex_of h0 h4] at h1
      exact Option.some.inj h1
    exact PySem.W.ki_setAt ho h0 (by omega) (by rw [List.size_toArray,<- hl]; exact h4) (by rw [hk]; exact ⟨_,I',q⟩)
  · have hk : (k + (its.toArray.size : Int)).toNat = j := by
      rw [seqIndex_neg (by omega) h3] at h1
      rw [List.size_toArray,<- hl]
      exact Option.some.inj h1
    exact PySem.W.ki_setBack ho (by omega) (by rw [List.size_toArray,<- hl]; exact h3) (by omega) (by rw [hk]; exact ⟨_,I',q⟩)
theorem LO (lo hi : Option Int) (n : Nat) : (sliceBounds lo hi none n).1 = ((HT.dG n 0 lo : Nat) : Int) /\ (sliceBounds lo hi none n).2.1 = ((HT.dG n n hi : Nat) : Int) /\ (sliceBounds lo hi none n).2.2 = 1 := by
  refine ⟨?_,?_,rfl⟩
  · cases lo with
    | none => simp [sliceBounds,HT.dG]
    | some i =>
      simp only [sliceBounds,HT.dG,Option.getD_none,show (1 : Int) > 0 by decide,if_true]
      by_cases h : i < 0
      · simp only [h,if_true] <;> omega
      · simp only [h,if_false] <;> omega
  · cases hi with
    | none => simp [sliceBounds,HT.dG]
    | some i =>
      simp only [sliceBounds,HT.dG,Option.getD_none,show (1 : Int) > 0 by decide,if_true]
      by_cases h : i < 0
      · simp only [h,if_true] <;> omega
      · simp only [h,if_false] <;> omega
theorem Ln (its : List Value) (lo hi : Option Int) : slicePick its.toArray lo hi none = ((its.drop (HT.dG its.length 0 lo)).take (HT.dG its.length its.length hi - HT.dG its.length 0 lo)).toArray := by
  obtain ⟨h1,h2,h3⟩ := LO lo hi its.toArray.size
  unfold slicePick
  rw [h1,h2,h3]
  simp only [sliceRange_one,pick_run,List.size_toArray] <;> rfl
def HQ (K : PySem.W.Frag) : V -> Option Int -> Option Int -> Hp -> VK -> Prop := fun x lo hi H Q => ∃ a xs,x = .ref a /\ aD K H a xs /\ ∀ p,H p = none -> Q (.ref p) (upd H p (.lst (nY xs lo hi)))
theorem O8 : Jr X (HQ X.K) := by
  intro pins s σ H x v vl vu lo hi sl Q I rx hs pl pu h
  obtain ⟨a,xs,rfl,hx,q⟩ := h
  cases rx
  obtain ⟨its,r,ht,hz⟩ := I.list hx
  have hlen := r.length
  refine ⟨"list",_,slot_list_getitem.lookup,ht.isList.typeIs,?_⟩
  refine wpAny_getItem_list_slice ht.isList hs pl pu .none (by simp) ?_ (by rw [List.size_toArray] <;> omega)
  rw [Ln,<- hlen]
  refine ⟨.ref s.heap.objs.size,_,I.laid (t' := s.toks) (o := .lst (nY xs lo hi)) (fun b ob q => Heap.get?_push_of_some _ q) (Nat.le_refl _) ?_,rfl,q _ (I.ay.fresh (Nat.le_refl _))⟩
  exact ⟨Nat.le_trans (Mj xs lo hi) hz,_,0,(r.drop (HT.dG xs.length 0 lo)).take (HT.dG xs.length xs.length hi - HT.dG xs.length 0 lo),Heap.get?_push_size _ rfl⟩
def dY : V -> Bool
  | .aF => true
  | .bl _ => true
  | .int _ => true
  | .str _ => true
  | _ => false
def cX : V -> V -> Bool
  | .aF,.aF => true
  | .bl a,.bl b => a == b
  | .bl a,.int b => (if a then 1 else 0) == b
  | .int a,.bl b => a == (if b then 1 else 0)
  | .int a,.int b => a == b
  | .str a,.str b => a == b
  | _,_ => false
theorem Fw {A : Around} {s : Shared} {y x : V} {u v : Value} (ry : RelV y u) (rx : RelV x v) (fy : dY y = true) (fx : dY x = true) : SeqAt.EqAt A s u v (cX y x) := by
  cases y with
  | aF =>
    cases ry
    cases x with
    | aF => cases rx; exact SeqAt.EqAt.same _
    | bl b => cases rx; exact SeqAt.EqAt.none_bool b
    | int b => obtain ⟨t,rfl⟩ := rx; exact SeqAt.EqAt.none_int b t
    | str b => obtain ⟨t,rfl⟩ := rx; exact SeqAt.EqAt.none_str b t
    | _ => exact absurd (show false = true from fx) Bool.false_ne_true
  | bl a =>
    cases ry
    cases x with
    | aF => cases rx; exact SeqAt.EqAt.bool_none a
    | bl b => cases rx; exact SeqAt.EqAt.bool_bool a b
    | int b => obtain ⟨t,rfl⟩ := rx; exact SeqAt.EqAt.bool_int a b t
    | str b => obtain ⟨t,rfl⟩ := rx; exact SeqAt.EqAt.bool_str a b t
    | _ => exact absurd (show false = true from fx) Bool.false_ne_true
  | int a =>
    obtain ⟨t',rfl⟩ := ry
    cases x with
    | aF => cases rx; exact SeqAt.EqAt.int_none a t'
    | bl b => cases rx; exact SeqAt.EqAt.int_bool a t' b
    | int b => obtain ⟨t,rfl⟩ := rx; exact SeqAt.EqAt.int_int a t' b t
    | str b => obtain ⟨t,rfl⟩ := rx; exact SeqAt.EqAt.int_str a t' b t
    | _ => exact absurd (show false = true from fx) Bool.false_ne_true
  | str a =>
    obtain ⟨t',rfl⟩ := ry
    cases x with
    | aF => cases rx; exact SeqAt.EqAt.str_none a t'
    | bl b => cases rx; exact SeqAt.EqAt.str_bool a t' b
    | int b => obtain ⟨t,rfl⟩ := rx; exact SeqAt.EqAt.str_int a t' b t
    | str b => obtain ⟨t,rfl⟩ := rx; exact SeqAt.EqAt.str_str a t' b t
    | _ => exact absurd (show false = true from fx) Bool.false_ne_true
  | _ => exact absurd (show false = true from fy) Bool.false_ne_true
def gZ (x : V) (u : Value) : Bool := match u with
  | .none => cX .aF x
  | .bool b => cX (.bl b) x
  | .int i _ => cX (.int i) x
  | .str z _ => cX (.str z) x
  | _ => false
theorem xE {x y : V} {u : Value} (r : RelV y u) (f : dY y = true) : gZ x u = cX y x := by
  cases y with
  | aF => cases r; rfl
  | bl b => cases r; rfl
  | int i => obtain ⟨t,rfl⟩ := r; rfl
  | str z => obtain ⟨t,rfl⟩ := r; rfl
  | _ => exact absurd (show false = true from f) Bool.false_ne_true
theorem wX {x : V} : ∀ {xs : List V} {us : List Value},Vals xs us -> xs.all dY = true -> us.any (gZ x) = xs.any fun y => cX y x
  | _,_,.nil,_ => rfl
  | y :: xs,u :: us,.cons r t,f => by
    rw [List.all_cons,Bool.and_eq_true] at f
    rw [List.any_cons,List.any_cons,xE r f.1,wX t f.2]
theorem si {A : Around} {s : Shared} {x : V} {v : Value} (rx : RelV x v) (fx : dY x = true) : ∀ {xs : List V} {us : List Value},Vals xs us -> xs.all dY = true -> ∀ u ∈ us,SeqAt.EqAt A s u v (gZ x u)
  | _,_,.nil,_ => fun u hu => by cases hu
  | y :: xs,u :: us,.cons r t,f => fun u' hu => by
    rw [List.all_cons,Bool.and_eq_true] at f
    rcases List.mem_cons.mp hu with rfl | hu
    · rw [xE r f.1]; exact Fw r rx f.1 fx
    · exact si rx fx t f.2 u' hu
def t8 (x : V) (xs : List V) : Bool := xs.any fun y => cX y x
def zD (K : PySem.W.Frag) (neg : Bool) : R2 := fun x y H Q => ∃ p xs,y = .ref p /\ (aD K H p xs \/ cE K H p xs) /\ dY x = true /\ xs.all dY = true /\ Q (.bl (if neg then !t8 x xs else t8 x xs)) H
theorem LQ : cQ X (compareOp .NotIn) (zD X.K true) := by
  intro pins s σ H x y v u Q I rx ry h
  obtain ⟨p,xs,rfl,hq,fx,fs,q⟩ := h
  cases ry
  rcases hq with hq | hq
  · obtain ⟨its,r,pl,hz⟩ := I.list hq
    refine SeqAt.notIn_listAt (gZ x) pl.isList (fun w hw => si rx fx r fs w (by simpa using hw)) ⟨.bl _,H,I,rfl,?_⟩
    rw [show its.toArray.any (gZ x) = its.any (gZ x) by simp,wX r fs]
    exact q
  · obtain ⟨its,r,pl,hz⟩ := I.tuple hq
    refine SeqAt.notIn_tupleAt (gZ x) pl (fun w hw => si rx fx r fs w (by simpa using hw)) ⟨.bl _,H,I,rfl,?_⟩
    rw [show its.toArray.any (gZ x) = its.any (gZ x) by simp,wX r fs]
    exact q
theorem CU : eI X (.builtin "len") (fun xs H Q => ∃ p ys,xs = [.ref p] /\ (aD X.K H p ys \/ cE X.K H p ys) /\ Q (.int ys.length) H) := by
  intro pins s σ H xs us Q I r h
  obtain ⟨p,ys,rfl,hq,q⟩ := h
  obtain ⟨u,rfl,rx⟩ := vals1 r
  cases rx
  have hn := sO
  rcases hq with hq | hq
  · obtain ⟨its,r',pl,hz⟩ := I.list hq
    have hlen := r'.length
    exact Calls.call_len_list pl.isList (by simp only [List.size_toArray] <;> omega) ⟨.int ys.length,H,I.tok _,⟨s.toks + 1,by rw [List.size_toArray,hlen]⟩,q⟩
  · obtain ⟨its,r',pl,hz⟩ := I.tuple hq
    have hlen := r'.length
    exact len_tuple pl (by simp only [List.size_toArray] <;> omega) ⟨.int ys.length,H,I.tok _,⟨s.toks + 1,by rw [List.size_toArray,hlen]⟩,q⟩
theorem CV : eI X (.type "list") (fun xs H Q => ∃ p ys,xs = [.ref p] /\ (aD X.K H p ys \/ cE X.K H p ys) /\ ∀ l,H l = none -> Q (.ref l) (upd H l (.lst ys))) := by
  intro pins s σ H xs us Q I r h
  obtain ⟨p,ys,rfl,hq,q⟩ := h
  obtain ⟨u,rfl,rx⟩ := vals1 r
  cases rx
  have fin : ∀ (its : List Value),Vals ys its -> ys.length <= sizeLine -> ∀ (h' : Heap) (c' : Nat),(∀ b o',s.heap.get? b = some o' -> h'.get? b = some o') ->
      h'.get? s.heap.objs.size = some { cls := .type "list",dict := none,data := .seq its.toArray c',slots := #[] } -> EP X pins σ Q (.ref s.heap.objs.size) { s with heap := h' } := fun its r' hz h' c' kp e =>
    ⟨.ref s.heap.objs.size,_,I.laid (t' := s.toks) kp (Nat.le_refl _) (show bU X.prog X.w _ h' _ (.lst ys) from ⟨hz,its,c',r',e⟩),rfl,q _ (I.ay.fresh (Nat.le_refl _))⟩
  rcases hq with hq | hq
  · obtain ⟨its,r',pl,hz⟩ := I.list hq
    have hlen := r'.length
    obtain ⟨o,ho,hc,n,hd⟩ := pl.isList
    exact call_list_seq p (.inl rfl) ho hc hd (fun h' c' kp e => fin its r' hz h' c' kp e) (by simp only [List.size_toArray] <;> omega)
  · obtain ⟨its,r',pl,hz⟩ := I.tuple hq
    have hlen := r'.length
    obtain ⟨o,ho,hc,n,hd⟩ := pl
    exact call_list_seq p (.inr rfl) ho hc hd (fun h' c' kp e => fin its r' hz h' c' kp e) (by simp only [List.size_toArray] <;> omega)
theorem Lq : eI X (.type "tuple") (fun xs H Q => ∃ p ys,xs = [.ref p] /\ ((aD X.K H p ys /\ ∀ l,H l = none -> Q (.ref l) (upd H l (.tup ys))) \/ (cE X.K H p ys /\ Q (.ref p) H))) := by
  intro pins s σ H xs us Q I r h
  obtain ⟨p,ys,rfl,h⟩ := h
  obtain ⟨u,rfl,rx⟩ := vals1 r
  cases rx
  rcases h with ⟨hq,q⟩ | ⟨hq,q⟩
  · obtain ⟨its,r',pl,hz⟩ := I.list hq
    have hlen := r'.length
    refine call_tuple_list pl.isList (fun h' kp => ?_) (by simp only [List.size_toArray] <;> omega)
    have I1 : Inv X pins σ H { s with heap := h' } := I.kept (t' := s.toks) kp
    have I2 : Inv X pins σ (upd H h'.objs.size (.tup ys)) { s with heap := h'.push { cls := .type "tuple",data := .seq its.toArray } } :=
      I1.laid (t' := s.toks) (fun b o e => Heap.get?_push_of_some _ e) (Nat.le_refl _) (show bU X.prog X.w _ _ _ (.tup ys) from ⟨hz,its,r',IsTup.new _ _⟩)
    exact ⟨.ref h'.objs.size,_,I2,rfl,q _ (I1.ay.fresh (Nat.le_refl _))⟩
  · obtain ⟨its,r',pl,hz⟩ := I.tuple hq
    exact call_tuple_same pl ⟨.ref p,H,I,rfl,q⟩
def Ju (K : PySem.W.Frag) (T : String) (x : V) (H : Hp) : Prop := match x with
  | .str _ => T = "str"
  | .int _ => T = "int"
  | .ref p => (T = "list" /\ ∃ xs,aD K H p xs) \/ (T = "tuple" /\ ∃ o,K.lookup p = some o /\ o.cls = .type "tuple" /\ o.dict = none) \/
      (T = "dict" /\ ((∃ aj,H p = some (.dK aj)) \/ ∃ aj,H p = some (.dT aj))) \/ (T = "set" /\ ∃ S n,H p = some (.set S n))
  | _ => False
theorem QZ {pins : List (Addr × Obj)} {σ : St} {H : Hp} {s : Shared} {T : String} {x : V} {v : Value} (I : Inv X pins σ H s) (r : RelV x v) (ty : Ju X.K T x H) :
    s.TypeIs v T /\ ∀ a,v = .ref a -> ∃ ob,s.heap.get? a = some ob /\ ob.dict = none := by
  cases x with
  | str z =>
    obtain ⟨t,rfl⟩ := r
    cases (show T = "str" from ty)
    exact ⟨typeIs_str s z t,fun _ e => nomatch e⟩
  | int i =>
    obtain ⟨t,rfl⟩ := r
    cases (show T = "int" from ty)
    exact ⟨typeIs_int s i t,fun _ e => nomatch e⟩
  | ref p =>
    cases r
    rcases ty with ⟨rfl,xs,hq⟩ | ⟨rfl,o,hk,hc,hd⟩ | ⟨rfl,hk⟩ | ⟨rfl,S,n,hk⟩
    · obtain ⟨its,_,pl,_⟩ := I.list hq
      refine ⟨pl.isList.typeIs,fun a e => ?_⟩
      cases e
      obtain ⟨o,n,e,c,hd,_⟩ := pl
      exact ⟨o,e,hd⟩
    · refine ⟨⟨o,I.dh p o hk,hc⟩,fun a e => ?_⟩
      cases e
      exact ⟨o,I.dh _ o hk,hd⟩
    · have z : ∃ o,s.heap.get? p = some o /\ o.ExactDict := by
        rcases hk with ⟨aj,hk⟩ | ⟨aj,hk⟩
        · obtain ⟨_,_,_,_,o,_,_,e,ex,_⟩ := I.ay p _ hk
          exact ⟨o,e,ex⟩
        · obtain ⟨_,_,_,_,o,_,_,e,ex,_⟩ := I.ay p _ hk
          exact ⟨o,e,ex⟩
      obtain ⟨o,e,ex⟩ := z
      refine ⟨⟨o,e,ex.1⟩,fun a e2 => ?_⟩
      cases e2
      exact ⟨o,e,ex.2.1⟩
    · obtain ⟨o,_,_,_,e,ex,_⟩ := I.ay p _ hk
      refine ⟨⟨o,e,ex.1⟩,fun a e2 => ?_⟩
      cases e2
      exact ⟨o,e,ex.2.1⟩
  | _ => exact False.elim ty
def fZ (K : PySem.W.Frag) (T : String) (r : V -> List V -> Hp -> VK -> Prop) (to : TE) (t : TA) : TE := fun σ H Q => to σ H fun x H1 => Ju K T x H1 /\ t σ H1 fun xs H2 => r x xs H2 Q
variable {o e : Expr} {es : List Expr} {to : TE} {t : TA} {name : Str} {apos fe : Pos} {T id : String} {r : V -> List V -> Hp -> VK -> Prop}
theorem jM (pa : PlainAttrs T) (slot : Slot T name id) (zE : typeOf (.builtin id) = pure (.type "method_descriptor")) (hm : Jt X id r) (ho : PE X o to) (ha : PA X (e :: es) t)
    (gL : attributeBase o name X.env (eval o X.env) = eval o X.env := by rfl)
    (gQ : ((backTo fe (starEach (e :: es) X.env)).all (fun x => !x.1) && (backToKw fe (keywordEach [] X.env)).all (fun x => x.1.isSome)
      && decide ((e :: es).length + ([] : List Keyword).length + (if ([] : List Keyword).isEmpty then 0 else 1) < 30)) = true := by rfl)
    (hline : (apos.endLine == fe.line) = true := by rfl) (hs : starEach (e :: es) X.env = (false,eval e X.env) :: starEach es X.env := by rfl) (xF : (backTo fe (starEach es X.env)).any (·.1) = false := by rfl) :
    PE X (.Call (.Attribute o name apos) (e :: es) [] fe) (fZ X.K T r to t) := by
  intro pins s σ H Q I h
  refine wpAny_Call_method_late gL gQ hline rfl (ax (ho pins s σ H _ I h) fun v s1 ⟨x,H1,I1,r1,ty,q1⟩ => ?_)
  obtain ⟨h1,h2⟩ := QZ I1 r1 ty
  refine ⟨T,id,pa,slot,zE,h1,h2,?_⟩
  have hA := ha fe pins s1 σ H1 _ I1 q1
  rw [hs] at hA ⊢
  refine Calls.callWith_builtin (by show (false || (backTo fe (starEach es X.env)).any (·.1)) = false; rw [xF] <;> rfl) (Calls.evalArgs_plain ?_)
  exact ax hA fun us s2 ⟨vs,H2,I2,r2,q2⟩ => hm pins s2 σ H2 x vs v us Q I2 r1 r2 q2
end
end L2
namespace L2
open PySem PySem.Spec PyProof.Rows
def t9 (X : Cx) (id : String) (r : V -> List V -> Hp -> VK -> Prop) : Prop :=
  ∀ (pins : List (Addr × Obj)) (s : Shared) (σ : St) (H : Hp) (x : V) (xs : List V) (v : Value) (us : List Value) (Q : VK),Inv X pins σ H s -> RelV x v -> Vals xs us -> r x xs H Q ->
    wpAny (model X.prog X.w) X.A (call (.builtin id) (v :: us)) (EP X pins σ Q) X.xe s
theorem Vals.one : ∀ {x : V} {us : List Value},Vals [x] us -> ∃ u,us = [u] /\ RelV x u
  | _,_,.cons r .nil => ⟨_,rfl,r⟩
theorem Vals.two : ∀ {x y : V} {us : List Value},Vals [x,y] us -> ∃ u v,us = [u,v] /\ RelV x u /\ RelV y v
  | _,_,_,.cons r (.cons q .nil) => ⟨_,_,rfl,r,q⟩
theorem Vals.eraseIdx : ∀ {xs : List V} {us : List Value} (i : Nat),Vals xs us -> Vals (xs.eraseIdx i) (us.eraseIdx i)
  | _,_,_,.nil => .nil
  | _,_,0,.cons _ t => t
  | _,_,i + 1,.cons r t => .cons r (Vals.eraseIdx i t)
theorem Dk {α : Type} : ∀ (l : List α) (i : Nat),(l.eraseIdx i).length <= l.length
  | [],_ => Nat.le_refl _
  | _ :: _,0 => Nat.le_succ _
  | _ :: r,i + 1 => Nat.succ_le_succ (Dk r i)
section
variable {X : Cx} {pins : List (Addr × Obj)} {σ : St} {H : Hp} {s : Shared} {l b : Addr} {xs ys zs : List V}
theorem Inv.yT {its its' : List Value} {n : Nat} {f : Array Value -> Array Value} {t' : Nat} (I : Inv X pins σ H s) (hH : H l = some (.lst xs))
    (e : s.heap.get? l = some { cls := .type "list",data := .seq its.toArray n }) (hf : f its.toArray = its'.toArray) (hv : Vals ys its') (hz : ys.length <= sizeLine) :
    Inv X pins σ (upd H l (.lst ys)) { s with heap := s.heap.update l (Obj.mapSeq f),toks := t' } := by
  have q := PySem.IsL.update e f
  rw [hf] at q
  refine I.write (x := l) (e := l) (by rw [hH]; exact trivial) (.inl rfl) (fun b' u hb hu => (Heap.get?_update_other s.heap (Obj.mapSeq f) (Ne.symm hb)).trans hu) ⟨_,q⟩ ?_
  exact ⟨hz,its',_,hv,q⟩
theorem Inv.yU {its : List Value} {t' : Nat} (I : Inv X pins σ H s) (hv : Vals ys its) (hz : ys.length <= sizeLine) :
    Inv X pins σ (upd H s.heap.objs.size (.lst ys)) { s with heap := s.heap.push { cls := .type "list",data := .seq its.toArray },toks := t' } :=
  I.laid (fun _ _ q => Heap.get?_push_of_some _ q) (Nat.le_refl _) ⟨hz,its,0,hv,Heap.get?_push_size _ rfl⟩
theorem Inv.fresh (I : Inv X pins σ H s) : H s.heap.objs.size = none := I.ay.fresh (Nat.le_refl _)
theorem Inv.tK (I : Inv X pins σ H s) (hH : H l = some (.lst xs)) : xs.length <= sizeLine /\ ∃ (its : List Value) (n : Nat),Vals xs its /\ xs.length = its.length /\ s.heap.get? l = some { cls := .type "list",data := .seq its.toArray n } := by
  obtain ⟨z,its,n,r,e⟩ := I.ay l _ hH
  exact ⟨z,its,n,r,r.length,e⟩
theorem N4 {n : Nat} (h : n <= sizeLine) : Builtin.List.listTooLong n = false := by
  unfold Builtin.List.listTooLong
  exact decide_eq_false (by omega)
end
section
variable {X : Cx}
def ky : V -> List V -> Hp -> VK -> Prop := fun x vs H Q => ∃ l xs y,x = .ref l /\ vs = [y] /\ H l = some (.lst xs) /\ xs.length < sizeLine /\ Q .aF (upd H l (.lst (xs ++ [y])))
theorem mY : t9 X "list.append" ky := by
  intro pins s σ H x vs v us Q I rx rv h
  obtain ⟨l,xs,y,rfl,rfl,hH,hz,q⟩ := h
  cases rx
  obtain ⟨u,rfl,ru⟩ := rv.one
  obtain ⟨z,its,n,r,hl,e⟩ := I.tK hH
  refine call_meets F.slot_list_append ⟨_,e,rfl⟩ F.entry_list_append (F.args_list_append_2 _ _) (PySem.list_append l its.toArray n u (by rw [List.size_toArray]; omega)) ⟨e,?_⟩
  refine ⟨.aF,_,I.yT (its' := its ++ [u]) hH e (by simp) (r.append (.cons ru .nil)) ?_,rfl,q⟩
  rw [List.length_append,List.length_singleton]
  omega
def pC : V -> List V -> Hp -> VK -> Prop := fun x vs H Q => ∃ l b xs zs,x = .ref l /\ vs = [.ref b] /\ H l = some (.lst xs) /\ H b = some (.lst zs) /\ xs.length + zs.length <= sizeLine /\ Q .aF (upd H l (.lst (xs ++ zs)))
theorem Dm : t9 X "list.extend" pC := by
  intro pins s σ H x vs v us Q I rx rv h
  obtain ⟨l,b,xs,zs,rfl,rfl,hH,hB,hz,q⟩ := h
  cases rx
  obtain ⟨u,rfl,ru⟩ := rv.one
  cases ru
  obtain ⟨z,its,n,r,hl,e⟩ := I.tK hH
  obtain ⟨z2,fh,n2,r2,iK,e2⟩ := I.tK hB
  have hsz : its.toArray.size + fh.toArray.size <= sizeLine := by rw [List.size_toArray,List.size_toArray]; omega
  have R0 : ¬ (!its.toArray.isEmpty && Builtin.List.listTooLong (its.toArray.size + fh.toArray.size)) = true := by
    rw [N4 hsz,Bool.and_false]
    exact Bool.false_ne_true
  refine call_meets F.slot_list_extend ⟨_,e,rfl⟩ F.entry_list_extend (F.args_list_extend_2 _ _)
    (AutoSeq1.list_extend_list_list_0 l its.toArray n b fh.toArray n2 R0 (by rw [List.size_toArray]; omega) (by omega)) ⟨e,e2,?_⟩
  refine ⟨.aF,_,I.yT (its' := its ++ fh) hH e (by simp) (r.append r2) ?_,rfl,q⟩
  rw [List.length_append]
  omega
def Fx : V -> List V -> Hp -> VK -> Prop := fun x vs H Q => ∃ l xs i k y,x = .ref l /\ vs = [.int i] /\ H l = some (.lst xs) /\ -(2 ^ 63) <= i /\ i < 2 ^ 63 /\ seqIndex? i xs.length = some k /\ xs[k]? = some y /\ Q y (upd H l (.lst (xs.eraseIdx k)))
theorem N5 : t9 X "list.pop" Fx := by
  intro pins s σ H x vs v us Q I rx rv h
  obtain ⟨l,xs,i,k,y,rfl,rfl,hH,h1,h2,hk,hy,q⟩ := h
  cases rx
  obtain ⟨u,rfl,ru⟩ := rv.one
  obtain ⟨t,rfl⟩ := ru
  obtain ⟨z,its,n,r,hl,e⟩ := I.tK hH
  obtain ⟨w,hw,fY⟩ := r.get hy
  refine call_meets F.slot_list_pop ⟨_,e,rfl⟩ F.entry_list_pop (F.args_list_pop_2 _ _)
    (MeetsSeq.list_pop_at l its.toArray n i t k w (fitsIndex_both h1 h2) (by rw [List.size_toArray,<- hl]; exact hk) (by rw [<- Array.getElem?_toList]; exact hw) (by rw [List.size_toArray]; omega)) ⟨e,?_⟩
  refine ⟨y,_,I.yT (its' := its.eraseIdx k) hH e ?_ (r.eraseIdx k) ?_,fY,q⟩
  · show its.toArray.eraseIdxIfInBounds k = (its.eraseIdx k).toArray
    rw [List.eraseIdxIfInBounds_toArray]
  · have := Dk xs k
    omega
end
end L2
namespace Jv
open PySem PySem.W PySem.Calls PyProof.Rows
theorem K0 {P : Params} {h : Heap} : ∀ (ns : List Int) (vs : List Value),WellAll P h vs (ns.map WData.int) -> IntsAre vs ns := by
  intro ns
  induction ns with
  | nil =>
    intro vs w
    rw [List.map_nil] at w
    cases w
    exact .nil
  | cons n ns ih =>
    intro vs w
    rw [List.map_cons] at w
    cases w with
    | cons a b =>
      cases a
      exact .cons _ _ (ih _ b)
theorem Ng {l : OpenLaw} {n : Nat} (hn : l.most = some n) {P : Params} {h : Heap} {args : List WData} {vals : List Value}
    (tM : l.row.toRowW.claim.pre args = true) (zF : WellAll P h vals args) :
    ∃ a vs ns,vals = [Value.ref a] /\ args = [WData.list (ns.map WData.int)] /\ h.get? a = some { cls := .type "list",data := .seq vs.toArray } /\ IntsAre vs ns /\ ns.length <= n := by
  have Xo : WShape.hasAll [] args [.list .int] = true := (pre_splitW tM).1
  have hc : l.pre.holds [] { args := args } = true := (pre_splitW tM).2
  obtain ⟨d,r,rfl,h1,h2⟩ := hasAllW_cons Xo
  obtain rfl := hasAllW_nil h2
  obtain ⟨xs,rfl,h3⟩ := hasW_list h1
  obtain ⟨ns,rfl⟩ := items_int h3
  have hlen : ns.length <= n := by
    unfold OpenLaw.pre at hc
    have h4 : (WTm.not (.lt (.lit (.int (n : Int))) (.len (.arg 0)))).holds [] { args := [.list (ns.map .int)] } = true := by
      have h4 := (holds_andW hc).1
      rw [hn] at h4
      exact h4
    have h5 := condW_of h4 (w_not (w_lt w_lit (w_len_list (w_arg rfl))))
    rw [List.length_map] at h5
    refine Nat.le_of_not_lt fun q => ?_
    have q' : (n : Int) < ((ns.length : Nat) : Int) := by omega
    first
      | (rw [decide_eq_true q'] at h5; exact absurd h5 (by decide))
      | (simp at h5; omega)
  cases zF with
  | cons w1 w2 =>
    cases w2
    cases w1 with
    | list ho kT => exact ⟨_,_,ns,rfl,rfl,ho,K0 ns _ kT,hlen⟩
theorem Nh (l : OpenLaw) (args : List WData) : l.row.toRowW.claim.post args (.bool true) args = true :=
  postW_of (r := l.row.toRowW) (X := (true == true))
    (show WShape.has [] (.bool true) .bool = true by first | rfl | decide | simp [WShape.has,WShape.arms,WShape.armsAll])
    (show (WTm.eq .res (.lit (.bool true))).value [] { args := args,res := some (.bool true),after := args } = some (.bool (true == true)) from w_eq_bool (w_res rfl) w_lit) rfl
theorem Mk {l : OpenLaw} {n : Nat} {q : Program} {loose : List Str} {XP : (Str -> Option Value) -> Heap -> Prop} {YP : World -> Heap -> Prop} {d : DefRec}
    (hn : l.most = some n) (qV : d.params.defaults = [])
    (call : ∀ (w : World) (cM bf : Shared) (mg mb : Str -> Option Value) (fa : Addr) (o : Obj) (pm cd doc : Value) (a : Addr) (vs : List Value) (ns : List Int),
      Ground q loose [] XP w cM mg mb bf.heap -> YP w bf.heap ->
      bf.heap.get? fa = some o -> o.data = .func (docDef d.name d.params d.body d.scope pm cd doc) -> bf.heap.CodeRec cd d.name -> mg d.name = some (.ref fa) ->
      bf.heap.get? a = some { cls := .type "list",data := .seq vs.toArray } -> IntsAre vs ns -> ns.length <= n -> bf.gens = #[] ->
      codeAny (model l.prog w) callerA (.call (.ref fa) ⟨[.ref a],[]⟩) (fun r s' => r = .ok (.ret (.bool true)) /\ OldK bf.heap s'.heap /\ s'.os = bf.os /\ AllBare s'.gens) bf) :
    WalkO q loose XP YP l.row.toRowW d [] (fun f vs => PySem.call f vs) := by
  intro w cM bf mg mb G Y fa o pm cd doc dV kV ho hd fj hD qW hg args vals as tM aai hrd zF hlo
  obtain rfl : dV = .none := Dflts.none hD qV
  obtain rfl : kV = .none := Dflts.noKw hD
  obtain ⟨a,vs,ns,rfl,rfl,yV,hints,hlen⟩ := Ng hn tM zF
  refine enter_call (codeAny_mono (call w cM bf mg mb fa o pm cd doc a vs ns G Y ho (fd_plain hd) fj qW yV hints hlen hg) fun r s' hq => ?_)
  obtain ⟨rfl,h2,h3,h4⟩ := hq
  exact ⟨.inl ⟨.bool true,.bool true,[],rfl,fun _ => rfl,.bool true,Nh l _,fun _ => ⟨List.Pairwise.nil,fun _ hm => (nomatch hm)⟩⟩,h2,h3,h4⟩
end Jv
namespace L2
open PySem PySem.Spec PyProof.Rows
theorem vX : ∀ {vs : List Value} {ns : List Int},IntsAre vs ns -> Vals (ns.map V.int) vs
  | _,_,.nil => .nil
  | _,_,.cons n t h => .cons ⟨t,rfl⟩ (vX h)
def yW (H : Hp) : Prop := ∀ b,H b = none \/ ∃ o xs,H b = some (.dg o (.lst xs))
theorem N6 {P : Program} {w : World} {K : PySem.W.Frag} {mg mb : Str -> Option Value} {CX : fk} {k : Nat} {fa a : Addr} {fd : FuncData} {x : Str} {sp : Sp} {bf : Shared} {vs : List Value} {ns : List Int}
    (KX : K.In bf.heap) (g9 : bf.heap.Ns mainGlobals mg) (hb : bf.heap.Ns builtinsNs mb) (Xp : ∀ x : Str,x ≠ "__name__" -> mb x = bootBuiltins x) (SQ : bf.heap.NoLimit) (hg : bf.gens = #[])
    (ha : bf.heap.get? a = some { cls := .type "list",data := .seq vs.toArray }) (hi : IntsAre vs ns) (hl : ns.length <= sizeLine) (hr : cN k callerA)
    (F : ∀ base : Heap,K.In base -> base.Ns mainGlobals mg -> aR P w K mg base CX k fa fd [x] sp) (R1 : ∀ (s : Shared) (u : Value),BindsTo s fd ⟨[u],[]⟩ [(x,u)])
    (jZ : ∀ H : Hp,yW H -> aD K H a (ns.map V.int) -> sp [.ref a] H (fun v _ => v = .bl true) fun _ _ _ => False)
    (zG : ∀ H e s',CX [] H bf (fun _ _ _ => False) e s' -> False) :
    codeAny (model P w) callerA (.call (.ref fa) ⟨[.ref a],[]⟩) (fun r s' => r = .ok (.ret (.bool true)) /\ OldK bf.heap s'.heap /\ s'.os = bf.os /\ AllBare s'.gens) bf := by
  have rv := vX hi
  have SR := hi.length
  have core : ∀ H : Hp,yW H -> aD K H a (ns.map V.int) -> bV P w H bf.heap -> (∀ b,H b ≠ none -> b = a) -> (H a ≠ none -> K.lookup a = none) ->
      codeAny (model P w) callerA (.call (.ref fa) ⟨[.ref a],[]⟩) (fun r s' => r = .ok (.ret (.bool true)) /\ OldK bf.heap s'.heap /\ s'.os = bf.os /\ AllBare s'.gens) bf := by
    intro H hO hS ay hA hK
    have EF : ∀ {b : Addr} {o : Obj},bf.heap.get? b = some o -> H b = none -> (i7 bf.heap H).get? b = some o := fun e n => NW e n
    have qT : ∀ {b : Addr} {o : Obj} {es : Array DictEntry} {ep : Nat},bf.heap.get? b = some o -> o.data = .dict es ep -> H b = none := fun {b o es ep} e d => by
      cases q : H b with
      | none => rfl
      | some u =>
        have e' : b = a := hA b (by rw [q]; simp)
        subst e'
        rw [ha] at e; cases e
        have d' : Data.seq vs.toArray _ = Data.dict es ep := d
        cases d'
    have ua : ∀ {b : Addr} {m : Str -> Option Value},bf.heap.Ns b m -> (i7 bf.heap H).Ns b m := fun {b m} ⟨o,es,ep,e,d,r⟩ => ⟨o,es,ep,EF e (qT e d),d,r⟩
    have Jw : K.In (i7 bf.heap H) := fun b o e => EF (KX b o e) (by
      cases q : H b with
      | none => rfl
      | some u =>
        have e' : b = a := hA b (by rw [q]; simp)
        subst e'
        rw [hK (by rw [q]; simp)] at e; cases e)
    have hM : Mod K mg (i7 bf.heap H) := ⟨Jw,ua g9,⟨mb,ua hb,Xp⟩,let ⟨mc,h1,h2⟩ := SQ; ⟨mc,ua h1,h2⟩⟩
    have e0 : tJ P w K mg (i7 bf.heap H) callerA [] bf H := ⟨rfl,hM,fun b o e => OW e,Nat.le_of_eq (M5 _ _),trivial,fun b hb => absurd (show b ∈ ([] : List Addr) from hb) (by simp),ay,.of_eq hg⟩
    refine codeAny_mono ((F _ Jw (ua g9)).run callerA [] bf H ⟨[.ref a],[]⟩ [.ref a] [.ref a] _ _ hr e0 (R1 bf (.ref a)) (.cons rfl .nil) (jZ H hO hS)) fun r s' h => ?_
    cases r with
    | error e => exact (zG H e s' h).elim
    | ok fl =>
      cases fl with
      | next => exact False.elim h
      | brk => exact False.elim h
      | cont => exact False.elim h
      | ret u =>
        obtain ⟨v,H',os,bare,un,SU,r',q⟩ := h
        have q' : v = .bl true := q
        subst q'
        obtain rfl : u = Value.bool true := r'
        refine ⟨rfl,OldK.of_keep fun b o e => ?_,os,bare⟩
        cases q : H b with
        | none => exact un.keep b o e q (by intro z; exact absurd (show b ∈ ([] : List Addr) from z) (by simp)) (by simp)
        | some u =>
          rcases hO b with z | ⟨ob,xs,z⟩
          · rw [q] at z; cases z
          · have z2 := un.gN b ob _ z
            obtain ⟨e1,_⟩ := ay b _ z
            obtain ⟨e2,_⟩ := SU b _ z2
            rw [e] at e1; cases e1
            exact e2
  cases hk : K.lookup a with
  | some o =>
    have e := KX a o hk
    rw [ha] at e
    cases e
    refine core (fun _ => none) (fun _ => .inl rfl) (.inr ⟨_,vs.toArray,_,hk,rfl,rfl,rfl,by rw [List.size_toArray,SR]; exact hl,by simpa using rv⟩) (fun b u z => by have z' : (none : Option HO) = some u := z; cases z') (fun b z => absurd rfl z) fun z => absurd rfl z
  | none =>
    refine core (fun b => if b = a then some (.dg { cls := .type "list",data := .seq vs.toArray } (.lst (ns.map V.int))) else none) (fun b => ?_) (.inl (.inr ⟨{ cls := .type "list",data := .seq vs.toArray },if_pos rfl⟩)) (fun b u z => ?_) (fun b z => ?_) fun _ => hk
    · by_cases hb : b = a
      · exact .inr ⟨_,_,if_pos hb⟩
      · exact .inl (if_neg hb)
    · by_cases hb : b = a
      · have z' := (if_pos hb).symm.trans z
        cases z'
        subst hb
        exact ⟨ha,by rw [List.length_map]; exact hl,vs,_,rv,ha⟩
      · have z' := (if_neg hb).symm.trans z
        cases z'
    · by_cases hb : b = a
      · exact hb
      · exact absurd (if_neg hb) z
end L2
namespace L2
open PySem PySem.Spec PyProof.Rows
theorem O9 {l : PySem.W.OpenLaw} {n k : Nat} {q : Program} {loose : List Str} {XP : (Str -> Option Value) -> Heap -> Prop} {YP : World -> Heap -> Prop} {d : DefRec} {K : Params -> PySem.W.Frag} {CX : World -> fk} {sp : World -> Sp} {x : Str}
    (hn : l.most = some n) (Xq : n <= sizeLine) (qV : d.params.defaults = []) (hr : cN k callerA)
    (hY : ∀ (w : World) (h : Heap),YP w h -> (K w.params).In h)
    (F : ∀ (w : World) (mg : Str -> Option Value) (fa : Addr) (h : Heap),(K w.params).In h -> h.Ns mainGlobals mg -> mg d.name = some (.ref fa) ->
      ∃ fd : FuncData,(∀ (s : Shared) (u : Value),BindsTo s fd ⟨[u],[]⟩ [(x,u)]) /\
        ∀ base : Heap,(K w.params).In base -> base.Ns mainGlobals mg -> aR l.prog w (K w.params) mg base (CX w) k fa fd [x] (sp w))
    (jZ : ∀ (w : World) (H : Hp) (a : Addr) (ns : List Int),ns.length <= n -> yW H -> aD (K w.params) H a (ns.map V.int) -> sp w [.ref a] H (fun v _ => v = .bl true) fun _ _ _ => False)
    (zG : ∀ (w : World) (H : Hp) (s : Shared) (e : Value) (s' : Shared),CX w [] H s (fun _ _ _ => False) e s' -> False) :
    PySem.W.WalkO q loose XP YP l.row.toRowW d [] (fun f vs => PySem.call f vs) := by
  refine Jv.Mk hn qV fun w cM bf mg mb fa o pm cd doc a vs ns G Y ho hd fj qW yV hints hlen hg => ?_
  have KX := hY w _ Y
  obtain ⟨fd,hb,hF⟩ := F w mg fa _ KX G.T.g qW
  exact N6 KX G.T.g G.T.b G.T.builtins G.T.nolimit hg yV hints (Nat.le_trans hlen Xq) hr hF hb (fun H hO hS => jZ w H a ns hlen hO hS) fun H e s' => zG w H bf e s'
end L2
namespace L2
open PySem PySem.Spec PyProof.Rows
def aV (s : Stmt) : Arguments := match s with
  | .FunctionDef _ a _ _ _ _ _ _ _ _ => a
  | _ => { posonlyargs := [],args := [],vararg := none,kwonlyargs := [],kw_defaults := [],kwarg := none,defaults := [] }
def aQ (s : Stmt) : List Stmt := match s with
  | .FunctionDef _ _ b _ _ _ _ _ _ _ => b
  | _ => []
def ag (s : Stmt) : Scope := match s with
  | .FunctionDef _ _ _ _ _ _ sc _ _ _ => sc
  | _ => { kind := .function,names := [],isGenerator := false,isCoroutine := false }
abbrev aq : fk := fun _ _ _ _ _ _ => False
abbrev E0 : XK := fun _ _ _ => False
theorem x9 {X : Cx} : Passes aq X E0 := fun _ _ _ _ _ _ _ h => h.elim
structure bu (K : PySem.W.Frag) (x qual : Str) (st : Stmt) (f : Addr) (fd : FuncData) : Prop where
  ex : ∃ (oc : Value) (od : Option Addr) (kV doc pm : Value) (an : Option Addr) (bD ct : Value) (fX : Array (Option Value)),
    fd = PySem.W.fnOf x qual (aV st) (aQ st) (ag st) .none kV doc pm an bD ct /\ K.lookup f = some ⟨oc,od,.func fd,fX⟩ /\ PySem.W.codeIn K bD qual = true
  kp : PySem.W.keepIn K (.ref f) = true
section
variable {P : Program} {w : World} {K : PySem.W.Frag} {mg : Str -> Option Value} {base : Heap}
theorem bu.binds {x qual : Str} {st : Stmt} {f : Addr} {fd : FuncData} {ps : List Str} (F : bu K x qual st f fd)
    (h : ∀ (kV doc pm : Value) (an : Option Addr) (bD ct : Value) (us : List Value),us.length = ps.length -> bindArgs (PySem.W.fnOf x qual (aV st) (aQ st) (ag st) .none kV doc pm an bD ct) ⟨us,[]⟩ = pure (ps.zip us)) : Binds K fd ps [] := by
  obtain ⟨oc,od,kV,doc,pm,an,bD,ct,fX,rfl,lk,fj⟩ := F.ex
  exact .all (h kV doc pm an bD ct)
theorem bM {x qual : Str} {st : Stmt} {f : Addr} {oc : Value} {od an : Option Addr} {fX : Array (Option Value)} {kV doc pm bD ct : Value} (l : K.lookup f = some ⟨oc,od,.func (PySem.W.fnOf x qual (aV st) (aQ st) (ag st) .none kV doc pm an bD ct),fX⟩)
    (c : PySem.W.codeIn K bD qual = true) (k : PySem.W.keepIn K (.ref f) = true) : bu K x qual st f (PySem.W.fnOf x qual (aV st) (aQ st) (ag st) .none kV doc pm an bD ct) := ⟨⟨oc,od,kV,doc,pm,an,bD,ct,fX,rfl,l,c⟩,k⟩
end
theorem ya {A : Around} {k : Nat} (hr : cN k A) : A.units + 1 < cLine := Nat.lt_of_le_of_lt (Nat.add_le_add_left (by decide : 1 <= 64) _) hr.units
section
variable {X : Cx}
theorem pv (i : Nat) {x : Str} {pos : Pos} (hN : X.N[i]? = some x := by rfl) (hv : gS X.env.scope x := by first | exact Or.inl rfl | exact Or.inr (Or.inl rfl) | exact Or.inr (Or.inr rfl)) (hd : (x == ("__debug__" : Str)) = false := by decide)
    (fj : (x == ("__classdict__" : Str)) = false := by decide) : PE X (.Name x pos) (bb i) := kC hN hv hd fj
end
theorem ja {A B : Prop} (h : B) : if false = true then A else B := by
  rw [if_neg Bool.false_ne_true]
  exact h
theorem jQ {A B : Prop} (h : A) : if true = true then A else B := by
  rw [if_pos rfl]
  exact h
def ai (H H' : Hp) : Prop := ∀ b o,H b = some o -> H' b = some o
theorem ai.refl (H : Hp) : ai H H := fun _ _ h => h
theorem ai.trans {H H1 H2 : Hp} (a : ai H H1) (b : ai H1 H2) : ai H H2 := fun c o h => b c o (a c o h)
theorem ai.free {H H' : Hp} (e : ai H H') {l : Addr} (h : H' l = Option.none) : H l = Option.none := by
  cases q : H l with
  | none => rfl
  | some o =>
    rw [e l o q] at h
    cases h
theorem ai.seq {K : PySem.W.Frag} {H H' : Hp} {a : Addr} {xs : List V} (e : ai H H') (h : aD K H a xs) : aD K H' a xs := by
  rcases h with (h | ⟨o,h⟩) | h
  · exact .inl (.inl (e _ _ h))
  · exact .inl (.inr ⟨o,e _ _ h⟩)
  · exact .inr h
end L2
namespace L2
open PySem PySem.Spec PyProof.Rows
abbrev cu : Value -> Shared -> Prop := fun _ _ => False
theorem zH {α : Type} {M : Model} {A : Around} {m : Sem α} {Q : α -> Shared -> Prop} {E : Value -> Shared -> Prop} {s : Shared} (h : wpAny M A m Q cu s) : wpAny M A m Q E s :=
  wpAny_mono h (fun _ _ q => q) fun _ _ z => z.elim
abbrev iT (ifs : List Expr) (env : Env) : Sem Bool :=
  forIn ifs true fun c r => if r = true then do let ok <- isTrue c env (eval c env); pure (ForInStep.yield ok) else pure (ForInStep.yield r)
theorem Fy {P : Program} {w : World} {A : Around} {R : Result -> Shared -> Prop} {s : Shared} {elt tg iter : Expr} {ifs : List Expr} {sc : Scope} {pos : Pos} {it acc : Value} {env : Env} (I : Nat -> Shared -> Prop)
    (turn : ∀ n s,I n s -> wpAny (model P w) A (pyNext it) (fun r s1 => match r with
      | none => R (.ok .next) s1
      | some v => wpAny (model P w) A (letOwnedTupleGo tg it v) (fun _ s2 => wpAny (model P w) A (assign tg env v) (fun _ s3 =>
          wpAny (model P w) A (iT ifs env) (fun ok s4 => if ok = true then wpAny (model P w) A (eval elt env) (fun x s5 =>
              wpAny (model P w) A (call (.builtin "list.append") [acc,x]) (fun _ s6 => ∃ m,m < n /\ I m s6) cu s5) cu s4
            else ∃ m,m < n /\ I m s4) cu s3) cu s2) cu s1) cu s)
    (n : Nat) (h : I n s) : codeAny (model P w) A (.compLoop (.ListComp elt [⟨tg,iter,ifs,0⟩] sc pos) 0 it acc env) R s := by
  refine codeAny_loop rfl I (fun n s hI => ?_) n h
  show wpAny (model P w) A ((compTurn (.ListComp elt [⟨tg,iter,ifs,0⟩] sc pos) 0 it acc env).onRaise (fun x => do noteFrame x env; theTreesLotGoes x)) _ _ s
  refine wpAny_noted (zH ?_)
  rw [compTurn_list]
  refine wpAny_bind (wpAny_standAt (wpAny_bind (ax (turn n s hI) fun r s1 h1 => ?_)))
  cases r with
  | none => exact wpAny_pure h1
  | some v =>
    refine wpAny_bind (ax h1 fun _ s2 h2 => wpAny_bind (ax h2 fun _ s3 h3 => wpAny_bind (ax h3 fun ok s4 h4 => ?_)))
    cases ok with
    | false => exact wpAny_pure ⟨rfl,h4⟩
    | true => exact wpAny_bind (wpAny_bind (ax h4 fun x s5 h5 => wpAny_bind (ax h5 fun _ s6 h6 => wpAny_pure (wpAny_pure ⟨rfl,h6⟩))))
theorem pD : ∀ (names : List (Str × NameKind)) (n : Nat) (acc : List (Str × Addr)) (y : Str),(∃ c,acc.lookup y = some c) -> ∃ c,(cellsFrom n names acc).lookup y = some c
  | [],_,_,_,h => h
  | (name,kind) :: r,n,acc,y,⟨c,h⟩ => by
    unfold cellsFrom
    split
    · refine pD r _ _ y ?_
      rw [List.lookup_cons]
      split
      · exact ⟨_,rfl⟩
      · exact ⟨c,h⟩
    · exact pD r _ _ y ⟨c,h⟩
theorem sP : ∀ (names : List (Str × NameKind)) (n : Nat) (acc : List (Str × Addr)) (y : Str),(y,NameKind.cell) ∈ names -> ∃ c,(cellsFrom n names acc).lookup y = some c
  | [],_,_,_,h => nomatch h
  | (name,kind) :: r,n,acc,y,h => by
    unfold cellsFrom
    rcases List.mem_cons.mp h with e | h
    · cases e
      rw [if_pos (by decide)]
      exact pD r _ _ _ ⟨n,by rw [List.lookup_cons_self]⟩
    · split
      · exact sP r _ _ y h
      · exact sP r _ _ y h
theorem oZ : ∀ (names : List (Str × NameKind)) (n : Nat) (acc : List (Str × Addr)) (y : Str) (c : Addr),(cellsFrom n names acc).lookup y = some c -> acc.lookup y = some c \/ (n <= c /\ (y,NameKind.cell) ∈ names)
  | [],_,_,_,_,h => .inl h
  | (name,kind) :: r,n,acc,y,c,h => by
    unfold cellsFrom at h
    split at h
    · rename_i hk
      rcases oZ r _ _ y c h with q | ⟨q1,q2⟩
      · rw [List.lookup_cons] at q
        split at q
        · rename_i hy
          cases q
          rw [beq_iff_eq.mp hy,<- beq_iff_eq.mp hk]
          exact .inr ⟨Nat.le_refl _,.head _⟩
        · exact .inl q
      · exact .inr ⟨Nat.le_of_succ_le q1,.tail _ q2⟩
    · rcases oZ r _ _ y c h with q | ⟨q1,q2⟩
      · exact .inl q
      · exact .inr ⟨q1,.tail _ q2⟩
theorem xG : ∀ (names : List (Str × NameKind)) (n : Nat) (acc : List (Str × Addr)) (y : Str),(y,NameKind.cell) ∉ names -> (cellsFrom n names acc).lookup y = acc.lookup y
  | [],_,_,_,_ => rfl
  | (name,kind) :: r,n,acc,y,h => by
    unfold cellsFrom
    have hr : (y,NameKind.cell) ∉ r := fun z => h (.tail _ z)
    split
    · rename_i hk
      rw [xG r _ _ y hr,List.lookup_cons]
      split
      · rename_i hy
        exact absurd (show (y,NameKind.cell) ∈ (name,kind) :: r by rw [beq_iff_eq.mp hy,<- beq_iff_eq.mp hk]; exact .head _) h
      · rfl
    · exact xG r _ _ y hr
theorem xH : ∀ (names : List (Str × NameKind)) (n : Nat) (acc : List (Str × Addr)),(∀ y c,acc.lookup y = some c -> c < n) -> (∀ y z c,acc.lookup y = some c -> acc.lookup z = some c -> y = z) ->
    ∀ y z c,(cellsFrom n names acc).lookup y = some c -> (cellsFrom n names acc).lookup z = some c -> y = z
  | [],_,_,_,h => h
  | (name,kind) :: r,n,acc,h1,h2 => by
    unfold cellsFrom
    split
    · refine xH r _ _ (fun y c e => ?_) fun y z c e e' => ?_
      · rw [List.lookup_cons] at e
        split at e
        · cases e; exact Nat.lt_succ_self _
        · exact Nat.lt_succ_of_lt (h1 y c e)
      · rw [List.lookup_cons] at e e'
        split at e
        · rename_i hy
          cases e
          split at e'
          · rename_i hz
            rw [beq_iff_eq.mp hy,beq_iff_eq.mp hz]
          · exact absurd (h1 z _ e') (Nat.lt_irrefl _)
        · split at e'
          · cases e'
            exact absurd (h1 y _ e) (Nat.lt_irrefl _)
          · exact h2 y z c e e'
    · exact xH r _ _ h1 h2
theorem sE : ∀ (names : List (Str × NameKind)) (h : Heap) (acc : List (Str × Addr)) (y : Str) (c : Addr),(cellsFrom h.objs.size names acc).lookup y = some c -> acc.lookup y = some c \/ (pushCells h names).IsCell c none
  | [],_,_,_,_,e => .inl e
  | (name,kind) :: r,h,acc,y,c,e => by
    unfold cellsFrom at e
    unfold pushCells
    split
    · rename_i hk
      rw [if_pos hk] at e
      rw [show h.objs.size + 1 = (h.push { cls := .type "cell",data := .cell none }).objs.size from (Heap.size_push ..).symm] at e
      rcases sE r _ _ y c e with q | q
      · rw [List.lookup_cons] at q
        split at q
        · cases q
          exact .inr (Heap.IsCell.keeps ⟨_,Heap.get?_push_size _ rfl,rfl⟩ (pushCells_keeps r _))
        · exact .inl q
      · exact .inr q
    · rename_i hk
      rw [if_neg hk] at e
      exact sE r _ _ y c e
theorem CW {M : Model} {A : Around} {E : Value -> Shared -> Prop} {s : Shared} {scope : Scope} {globals : Addr} {cl : List (Str × Addr)} {qual : Str} {func : Option Addr} {code : Value} {env : Env} {builtins : Addr} {Q : Env -> Shared -> Prop}
    (hQ : Q (newEnv scope s.heap.objs.size globals (cellsFrom (s.heap.objs.size + 1) scope.names cl) qual func code (some env) builtins) { s with heap := pushCells (s.heap.push { cls := .type "dict",data := .dict #[] }) scope.names }) :
    wpAny M A (newFunctionEnv scope globals cl [] qual func code (some env) builtins) Q E s := by
  simp only [newFunctionEnv,Option.isSome_some,if_true]
  refine wpAny_bind (wpAny_alloc ?_)
  refine wpAny_bind (wpAny_layCells _ (fun name kind cells => by cases Xr : kind == NameKind.cell <;> simp [Xr]) _ _ _ _ ?_)
  rw [show ({ s with heap := s.heap.push { cls := .type "dict",data := .dict #[] } } : Shared).heap.objs.size = s.heap.objs.size + 1 from Heap.size_push ..]
  rw [List.forIn_nil]
  exact wpAny_bind (wpAny_pure (wpAny_pure hQ))
def cD (X : Cx) (own : List Str) (fr : List Nat) (sc : Scope) (cl : List (Str × Addr)) (C : Addr) (s : Shared) (H : Hp) (ex : List Addr) (pn : List (Addr × Obj)) : Cx where
  prog := X.prog
  w := X.w
  K := X.K
  mg := X.mg
  base := X.base
  A := X.A
  N := own ++ fr.map fun j => X.N.getD j ""
  cM := s
  qw := H
  env := compEnvC sc (cellsFrom (C + 1) sc.names cl) C X.env
  outer := X.stack
  stack := X.stack
  ex := ex
  fn := fun y => (cl.lookup y).isNone
  calm := X.calm
  pn := pn
  xe := cu
def pE (own : List Str) (fr : List Nat) (σ : St) : St := own.map (fun _ => none) ++ fr.map fun j => (σ[j]?).join
structure gH (X : Cx) (sc : Scope) (cl : List (Str × Addr)) (fr : List Nat) : Prop where
  HR : closureFor sc X.env = pure cl
  kind : sc.kind = .function
  cells : ∀ y,(y,NameKind.cell) ∈ sc.names -> cl.lookup y = none
  names : ∀ y ∈ sc.names,y.2 = .local -> sc.names.lookup y.1 = some .local
  sub : ∀ y c,cl.lookup y = some c -> X.env.cells.lookup y = some c
  has : ∀ y,((relabel sc X.env).names.lookup y = some .cell \/ (relabel sc X.env).names.lookup y = some .free) -> (∃ c,cl.lookup y = some c) \/ (y,NameKind.cell) ∈ sc.names
  Xs : ∀ j ∈ fr,∃ y,X.N[j]? = some y /\ ((relabel sc X.env).names.lookup y = some .cell \/ (relabel sc X.env).names.lookup y = some .free) /\ gS X.env.scope y /\ X.env.scope.names.lookup y ≠ some .local /\ ∃ c,cl.lookup y = some c
def ub (wi : TI) (g : TG) (tt : TT) (te : TE) (own : List Str) (fr : List Nat) : TE := fun σ H Q => wi σ H fun J H1 => ∀ acc,H1 acc = none ->
  ∃ W : Nat -> Nat -> List V -> St -> Hp -> Prop,(∃ m,W 0 m [] (pE own fr σ) (upd H1 acc (.lst []))) /\ ∀ i m ys az H2,W i m ys az H2 -> H2 acc = some (.lst ys) /\ ys.length < sizeLine /\
    ((J.stop i H2 /\ Q (.ref acc) H2) \/ (J.go i H2 /\ ∃ N : List V -> St -> Hp -> Prop,(∀ zs bg H3,N zs bg H3 -> ∃ m',m' < m /\ W (i + 1) m' zs bg H3) /\
      ∀ x H3,J.lH i H2 x H3 -> g x az H3 fun bg H4 => tt bg H4 fun b H5 => if b = true then te bg H5 (fun y H6 => H6 acc = some (.lst ys) /\ N (ys ++ [y]) bg (upd H6 acc (.lst (ys ++ [y])))) else N ys bg H5))
theorem Pa {N : List Str} {j : Nat} {y : Str} (h : N[j]? = some y) : N.getD j "" = y := by rw [List.getD_eq_getElem?_getD,h]; rfl
theorem lcInv {X : Cx} {pins : List (Addr × Obj)} {σ : St} {H : Hp} {s : Shared} {sc : Scope} {cl : List (Str × Addr)} {own : List Str} {fr : List Nat} {fp : List Addr} {h4 : Heap} {tk : Nat}
    (L : gH X sc cl fr) (I : Inv X pins σ H s) (uc : ∀ b ∈ fp,fT X pins H b) (aS : ∀ b ∈ fp,b < s.heap.objs.size) (g9 : h4.Ns s.heap.objs.size fun _ => none)
    (kp : ∀ b o,s.heap.get? b = some o -> h4.get? b = some o) (lK : ∀ y c,(cellsFrom (s.heap.objs.size + 1) sc.names cl).lookup y = some c -> cl.lookup y = some c \/ h4.IsCell c none) : Inv (cD X own fr sc cl s.heap.objs.size s H fp (X.pn ++ pins)) [] (pE own fr σ) H { s with heap := h4,toks := tk } := by
  have Xu : ∀ {b : Addr} {o : Obj},s.heap.get? b = some o -> b ≠ s.heap.objs.size := fun e => Nat.ne_of_lt (Heap.lt_size e)
  have hex : ∀ b ∈ (cD X own fr sc cl s.heap.objs.size s H fp (X.pn ++ pins)).ex,b ∈ fp := fun b z => z
  have lC : ∀ b,b ≠ X.env.locals -> b ∉ X.fs -> b ∉ cW X.stack := fun b h1 h2 z => (List.mem_cons.mp (I.pR b z)).elim h1 h2
  have Fz : ∀ y c,cl.lookup y = some c -> ∃ v,s.heap.IsCell c v := fun y c e => I.cell y c (L.sub y c e)
  have split : ∀ y c,(cellsFrom (s.heap.objs.size + 1) sc.names cl).lookup y = some c -> cl.lookup y = some c \/ s.heap.objs.size + 1 <= c := fun y c e => (oZ _ _ _ y c e).imp id And.left
  refine ⟨⟨I.ok.mod,L.kind,I.ok.glob,I.ok.blt,Nat.le_refl _,xH _ _ _ (fun y c e => by obtain ⟨v,q⟩ := Fz y c e; exact Nat.lt_succ_of_lt q.lt) (fun y z c h1 h2 => I.ok.inj y z c (L.sub y c h1) (L.sub z c h2)),fun y hy => (L.has y hy).elim (pD _ _ _ y) (sP _ _ _ y),fun y c hy e => ?_,I.ok.hd,I.ok.frames,.inl rfl,
      fun b hb => ⟨Nat.ne_of_lt (aS b (hex b hb)),fun y c e => (split y c e).elim (fun q => (uc b (hex b hb)).2.2.2.2.1 y c (L.sub y c q)) fun q => Nat.ne_of_gt (Nat.lt_of_lt_of_le (aS b (hex b hb)) (Nat.le_of_succ_le q))⟩,I.bs,Nat.le_trans I.ok.lD I.sz,fun b o e z => ?_,fun b z => ?_,I.stack,I.Es⟩,
    rfl,I.bare,Un.kept kp,⟨_,g9,fun i y v h1 h2 h3 => ?_⟩,fun y c e => ?_,I.ay.fresh (Nat.le_refl _),fun y c e => (split y c e).elim (fun q => I.iB y c (L.sub y c q)) fun q => I.ay.fresh (Nat.le_of_succ_le q),fun p hp => ?_,I.ay.kept kp,?_⟩
  · have cF : (cl.lookup y).isNone = true := hy
    rcases split y c e with q | q
    · rw [q] at cF
      cases cF
    · exact Nat.le_of_succ_le q
  · rcases (uc b (hex b z)).2.2.2.1 with q | q
    · exact I.ok.qA b o e q
    · exact absurd (Nat.lt_of_lt_of_le (Heap.lt_size (I.ok.bs b o e).1) q) (Nat.lt_irrefl _)
  · exact lC b (uc b (hex b z)).2.1 (uc b (hex b z)).2.2.1
  · have ou : (own ++ fr.map fun j => X.N.getD j "")[i]? = some y := h1
    have hC : (own.map (fun _ => none) ++ fr.map fun j => (σ[j]?).join)[i]? = some (some v) := h2
    by_cases hi : i < own.length
    · rw [List.getElem?_append_left (by simpa using hi),List.getElem?_map] at hC
      cases q : own[i]? with
      | none => rw [q] at hC; cases hC
      | some z => rw [q] at hC; cases hC
    · rw [List.getElem?_append_right (by omega),List.getElem?_map] at ou
      rw [List.getElem?_append_right (by simpa using hi),List.getElem?_map,List.length_map] at hC
      cases q : fr[i - own.length]? with
      | none => rw [q] at ou; cases ou
      | some j =>
        rw [q] at ou hC
        obtain ⟨y',n1,n2,n3,n4,c',e'⟩ := L.Xs j (List.mem_of_getElem? q)
        have ey : y' = y := by
          have this : X.N.getD j "" = y := Option.some.inj ou
          rw [Pa n1] at this
          exact this
        subst ey
        have ev : σ[j]? = some (some v) := by
          have z : (σ[j]?).join = some v := Option.some.inj hC
          cases q2 : σ[j]? with
          | none => rw [q2] at z; cases z
          | some o => rw [q2] at z; exact congrArg some z
        obtain ⟨m,_,hl⟩ := I.loc
        obtain ⟨u,r,l⟩ := hl j y' v n1 ev n3
        refine ⟨u,r,.inr ⟨n2,?_⟩⟩
        rcases l with ⟨k,_⟩ | ⟨_,c,e,z⟩
        · exact absurd k n4
        · have := L.sub y' c' e'
          rw [e] at this
          cases this
          obtain ⟨o,ho,hd⟩ := z
          exact ⟨_,(xG _ _ _ y' fun z => by rw [L.cells y' z] at e'; cases e').trans e',o,kp _ o ho,hd⟩
  · rcases lK y c e with q | q
    · obtain ⟨v,o,ho,hd⟩ := Fz y c q
      exact ⟨v,o,kp c o ho,hd⟩
    · exact ⟨none,q⟩
  · have qX : p ∈ X.pn ++ pins := by
      have z : p ∈ (X.pn ++ pins) ++ [] := hp
      simpa using z
    obtain ⟨e,n,ne,nf,d⟩ := I.pin p qX
    exact ⟨kp _ _ e,n,Xu e,lC _ ne nf,d⟩
  · show (own.map (fun _ => (none : Option V)) ++ fr.map fun j => (σ[j]?).join).length = (own ++ fr.map fun j => X.N.getD j "").length
    simp
theorem Hd {X : Cx} {elt tg iter : Expr} {ifs : List Expr} {sc : Scope} {cl : List (Str × Addr)} {own : List Str} {fr : List Nat} {pos : Pos} {wi : TI} {g : TG} {tt : TT} {te : TE}
    (L : gH X sc cl fr) (hc : X.calm = true) (hi : PI X tg iter wi)
    (hg : ∀ C s H ex pn,PG (cD X own fr sc cl C s H ex pn) tg g)
    (ht : ∀ C s H ex pn (pins : List (Addr × Obj)) (s1 : Shared) (az : St) (H1 : Hp) (Q : Bool -> Hp -> Prop),Inv (cD X own fr sc cl C s H ex pn) pins az H1 s1 -> tt az H1 Q ->
      wpAny (model X.prog X.w) X.A (iT ifs (compEnvC sc (cellsFrom (C + 1) sc.names cl) C X.env)) (TP (cD X own fr sc cl C s H ex pn) pins az Q) cu s1)
    (he : ∀ C s H ex pn,PE (cD X own fr sc cl C s H ex pn) elt te) (hs : ∀ x,foldedSetIterable iter X.env x = pure x := by intro _; rfl) :
    PE X (.ListComp elt [⟨tg,iter,ifs,0⟩] sc pos) (ub wi g tt te own fr) := by
  intro pins s σ H Q I h
  rw [eval_ListComp]
  refine wpAny_comprehension_free (use := none) rfl hs L.HR L.kind L.names (ax (hi pins s σ H _ I h) fun v s1 h1 => ax h1 fun t7 s2 h2 => ?_)
  obtain ⟨it,fp,tn,J,H2,e,I2,T,aA,f2,h2⟩ := h2
  subst e
  refine wpAny_newObj_type ?_
  have I3 : Inv X pins σ (upd H2 s2.heap.objs.size (.lst [])) { s2 with heap := s2.heap.push { cls := .type "list",data := .seq ([] : List Value).toArray } } := I2.yU (t' := s2.toks) .nil (Nat.zero_le _)
  have n2 : H2 s2.heap.objs.size = none := I2.fresh
  obtain ⟨W,⟨m0,w0⟩,turn⟩ := h2 _ n2
  have qY : ∀ b ∈ fp,b < s2.heap.objs.size := fun b hb => by
    obtain ⟨o,eo,_⟩ := T.obj 0 _ aA b hb
    exact Heap.lt_size eo
  have cR : ∀ b ∈ fp,fT X pins (upd H2 s2.heap.objs.size (.lst [])) b := fun b hb => ⟨by rw [aP (Nat.ne_of_lt (qY b hb))]; exact (f2 b hb).1,(f2 b hb).2⟩
  generalize gf : ({ s2 with heap := s2.heap.push { cls := .type "list",data := .seq ([] : List Value).toArray } } : Shared) = s3 at I3
  have dk : tn 0 s3.heap := by
    rw [<- gf]
    exact T.keep 0 _ _ aA fun b hb o eo => Heap.get?_push_of_some _ eo
  have lL : ∀ b ∈ fp,b < s3.heap.objs.size := fun b hb => by
    obtain ⟨o,eo,_⟩ := T.obj 0 _ dk b hb
    exact Heap.lt_size eo
  generalize zI : upd H2 s2.heap.objs.size (.lst []) = H3 at I3 cR w0
  generalize s2.heap.objs.size = acc at turn w0 zI ⊢
  refine CW ?_
  have g9 : (pushCells (s3.heap.push { cls := .type "dict",data := .dict #[] }) sc.names).Ns s3.heap.objs.size fun _ => none := (Heap.Ns.new s3.heap (.type "dict")).keeps (pushCells_keeps _ _)
  have kp : ∀ b o,s3.heap.get? b = some o -> (pushCells (s3.heap.push { cls := .type "dict",data := .dict #[] }) sc.names).get? b = some o := fun b o eo => pushCells_keeps _ _ b o (Heap.get?_push_of_some _ eo)
  have lK : ∀ y c,(cellsFrom (s3.heap.objs.size + 1) sc.names cl).lookup y = some c -> cl.lookup y = some c \/ (pushCells (s3.heap.push { cls := .type "dict",data := .dict #[] }) sc.names).IsCell c none := fun y c e =>
    sE sc.names (s3.heap.push { cls := .type "dict",data := .dict #[] }) cl y c (by rw [Heap.size_push]; exact e)
  generalize Xv : pushCells (s3.heap.push { cls := .type "dict",data := .dict #[] }) sc.names = h4 at g9 kp lK
  have I4 := lcInv (own := own) (tk := s3.toks) L I3 cR lL g9 kp lK
  have qZ : tn 0 h4 := T.keep 0 _ _ dk fun b hb o eo => kp b o eo
  have stat : ∀ {H' : Hp},(∀ b ∈ fp,H' b = none) -> ∀ b ∈ fp,fT (cD X own fr sc cl s3.heap.objs.size s3 H3 fp (X.pn ++ pins)) [] H' b := fun {H'} hn b hb =>
    ⟨hn b hb,Nat.ne_of_lt (lL b hb),fun z => (List.mem_cons.mp (I3.pR b z)).elim (cR b hb).2.1 (cR b hb).2.2.1,.inl hb,fun y c e => (oZ _ _ _ y c e).elim (fun q => (cR b hb).2.2.2.2.1 y c (L.sub y c q)) fun q => Nat.ne_of_gt (Nat.lt_of_lt_of_le (lL b hb) (Nat.le_of_succ_le q.1)),fun p hp => (cR b hb).2.2.2.2.2 p (by
      have z : p ∈ (X.pn ++ pins) ++ [] := hp
      simpa using z)⟩
  have loop : codeAny (model X.prog X.w) X.A (.compLoop (.ListComp elt [⟨tg,iter,ifs,0⟩] sc pos) 0 (.ref it) (.ref acc) (compEnvC sc (cellsFrom (s3.heap.objs.size + 1) sc.names cl) s3.heap.objs.size X.env))
      (compPost (model X.prog X.w) X.A X.xe none (EP X pins σ Q) (.ref acc) s3.heap.objs.size) { s3 with heap := h4,toks := s3.toks } := by
    refine Fy (fun n s' => ∃ i ys az H1,Inv (cD X own fr sc cl s3.heap.objs.size s3 H3 fp (X.pn ++ pins)) [] az H1 s' /\ tn i s'.heap /\ (∀ b ∈ fp,H1 b = none) /\ W i n ys az H1) ?_ m0 ⟨0,[],_,H3,I4,qZ,fun b hb => (cR b hb).1,w0⟩
    rintro n s5 ⟨i,ys,jh,H5,I5,jg,lJ,w5⟩
    obtain ⟨eK,hlen,hh⟩ := turn i n ys jh H5 w5
    rcases hh with ⟨stop,qn⟩ | ⟨go,N,hN,step⟩
    · refine ax (T.done (cD X own fr sc cl s3.heap.objs.size s3 H3 fp (X.pn ++ pins)) rfl rfl rfl hc i [] s5 jh H5 cu I5 (stat lJ) jg stop) fun r s6 ⟨hr,I6⟩ => ?_
      subst hr
      obtain ⟨m6,zJ,_⟩ := id I6.loc
      refine ⟨m6,zJ,fun h7 ji => ⟨.ref acc,H5,?_,rfl,qn⟩⟩
      have old : ∀ b o,s3.heap.get? b = some o -> b ≠ s3.heap.objs.size := fun b o eo => Nat.ne_of_lt (Heap.lt_size eo)
      have u6 : Un (cW X.stack) fp H3 H5 s3.heap s6.heap := I6.base
      have u7 : Un (cW X.stack) fp H3 H5 s3.heap h7 :=
        ⟨fun b o eo nn hb hx => (ji.2 b (old b o eo)).trans (u6.keep b o eo nn hb hx),fun b o eo nn hb hx => by
          obtain ⟨sl,q⟩ := u6.slot b o eo nn hb hx
          exact ⟨sl,(ji.2 b (old b o eo)).trans q⟩,u6.free,fun b o eo hx => by
          obtain ⟨o',q⟩ := u6.there b o eo hx
          exact ⟨o',(ji.2 b (old b o eo)).trans q⟩,u6.iE,u6.gN,u6.iF⟩
      have fC : H5 s3.heap.objs.size = none := I6.free
      have yX : bV X.prog X.w H5 h7 := fun b ob eb => by
        refine (I6.ay b ob eb).i6 (fun c w' gF q => (ji.2 c ?_).trans q) (fun _ q => q) fun _ _ q => q
        rintro rfl
        rcases gF with z | z
        · rw [<- z,fC] at eb; cases eb
        · rw [fC] at z; cases z
      exact I3.GL (s' := { s6 with heap := h7 }) I6.os u7 yX I6.bare fun b hb => ⟨(cR b hb).2.2.2.1,(cR b hb).2.1,(cR b hb).2.2.2.2.1,(cR b hb).2.2.2.2.2⟩
    · refine ax (T.item (cD X own fr sc cl s3.heap.objs.size s3 H3 fp (X.pn ++ pins)) rfl rfl rfl hc i [] s5 jh H5 cu I5 (stat lJ) jg go) fun r s6 ⟨u,hr,h6⟩ => ?_
      subst hr
      refine ax h6 fun _ s7 ⟨x,H7,I7,r7,y7,lM,zK⟩ => ?_
      have zM := I7.pinned (stat zK) (T.obj _ _ lM)
      refine ax (hg _ _ _ _ _ _ s7 jh H7 x u _ zM r7 (step x H7 y7)) fun _ s8 ⟨jk,H8,I8,q8⟩ => ?_
      have again : ∀ {zs : List V} {hJ : St} {H9 : Hp} {s9 : Shared},Inv (cD X own fr sc cl s3.heap.objs.size s3 H3 fp (X.pn ++ pins)) ([] ++ nA fp s7.heap) hJ H9 s9 -> N zs hJ H9 ->
          ∃ m,m < n /\ ∃ i ys az H1,Inv (cD X own fr sc cl s3.heap.objs.size s3 H3 fp (X.pn ++ pins)) [] az H1 s9 /\ tn i s9.heap /\ (∀ b ∈ fp,H1 b = none) /\ W i m ys az H1 := fun {zs hJ H9 s9} I9 n9 => by
        obtain ⟨m',hm,w9⟩ := hN zs hJ H9 n9
        refine ⟨m',hm,i + 1,zs,hJ,H9,I9.pd,T.keep _ _ _ lM fun b hb o e => (I9.pin (b,o) (List.mem_append_right _ (List.mem_append_right _ (mR hb e)))).1,fun b hb => ?_,w9⟩
        obtain ⟨o,e,d⟩ := T.obj _ _ lM b hb
        exact (I9.pin (b,o) (List.mem_append_right _ (List.mem_append_right _ (mR hb e)))).2.1
      refine ax (ht _ _ _ _ _ _ s8 jk H8 _ I8 q8) fun ok s9 ⟨H9,I9,q9⟩ => ?_
      cases ok with
      | false => exact again I9 (by simpa using q9)
      | true =>
        refine ax (he _ _ _ _ _ _ s9 jk H9 _ I9 q9) fun z zN ⟨y,zO,zP,zQ,lN,zR⟩ => ?_
        refine ax (mY _ zN jk zO (.ref acc) [y] (.ref acc) [z] (fun _ H' => N (ys ++ [y]) jk H') zP rfl (.cons zQ .nil) ⟨acc,ys,y,rfl,rfl,lN,hlen,zR⟩) fun _ Xw ⟨_,Xx,zS,_,zT⟩ => again zS zT
  rw [<- gf] at loop ⊢
  exact codeAny_compStart_list loop (zH (T.self _ 0 _ _ _ qZ (by rw [gf]; rw [gf] at loop; exact loop)))
end L2
namespace L2
open PySem PySem.Spec PyProof.Rows
theorem Pb {n : Int} {k : Nat} (h : n.natAbs < 2 ^ k) (hk : 0 < k) : n.natAbs.log2 < k := by
  by_cases z : n.natAbs = 0
  · rw [z]
    show Nat.log2 0 < k
    rw [Nat.log2_zero]
    exact hk
  · exact (Nat.log2_lt z).mpr h
section
variable {X : Cx}
def He (i j : Int) : Prop := i.natAbs < 2 ^ 8000 /\ j.natAbs < 2 ^ 8000
theorem Pg : cQ X (binaryOp .Mult) (rI He fun i j => .int (i * j)) := zu fun _ _ _ _ _ _ _ hc q =>
  mul_int q (IntMulOk.of_le (intBits_le_iff.mpr hc.1) (intBits_le_iff.mpr hc.2) (by decide))
def qh (_ j : Int) : Prop := 0 < j /\ j.natAbs < 2 ^ 8000
theorem N7 : cQ X (binaryOp .FloorDiv) (rI qh fun i j => .int (i / j)) := zu fun i j _ _ _ _ _ hc q => by
  have h1 : (0 : Int) < j := hc.1
  refine floordiv_int (by omega) (by rw [Int.fdiv_eq_ediv_of_nonneg i (by omega)]; exact q) (.inl (PyProof.noPylong_of_log2 ?_))
  exact Nat.lt_trans (Pb hc.2 (by decide)) (by decide)
theorem MK {hi c : Int} (h0 : 0 <= hi) (h1 : hi < 2 ^ 30) (c0 : 0 < c) (c1 : c < 2 ^ 30) : Builtin.Range.small 0 hi c = true := by
  unfold Builtin.Range.small
  rw [rangeSize_pos (by omega) h0]
  have a0 : 0 <= (hi + c - 1) / c := Int.ediv_nonneg (by omega) (by omega)
  have a1 : (hi + c - 1) / c * c <= hi + c - 1 := Int.ediv_mul_le _ (by omega)
  have a2 : (hi + c - 1) / c <= hi + c - 1 := Int.ediv_le_self _ (by omega)
  have a3 : (0 : Int) <= (hi + c - 1) / c * c := Int.mul_nonneg a0 (by omega)
  have cc : c > 0 := c0
  simp only [Builtin.Range.rangeFitsLong,Bool.and_eq_true,Bool.or_eq_true,decide_eq_true_eq,beq_iff_eq,cc,if_true]
  generalize (hi + c - 1) / c * c = p at *
  generalize (hi + c - 1) / c = q at *
  omega
end
end L2
namespace L2
open PySem PySem.Spec PyProof.Rows
inductive Dv where
  | fl (v : V)
  | lst (ds : List Dv)
  | tup (ds : List Dv)
mutual
def bR : Dv -> Dv -> Bool
  | .fl x,.fl y => cX x y
  | .lst a,.lst b => d9 a b
  | .tup a,.tup b => d9 a b
  | _,_ => false
def d9 : List Dv -> List Dv -> Bool
  | [],[] => true
  | x :: r,y :: q => bR x y && d9 r q
  | _,_ => false
end
mutual
def cS : Dv -> Nat
  | .fl _ => 0
  | .lst a => cO a + 1
  | .tup a => cO a + 1
def cO : List Dv -> Nat
  | [] => 0
  | x :: r => max (cS x) (cO r)
end
mutual
def Hv (K : PySem.W.Frag) (H : Hp) : Dv -> V -> Prop
  | .fl v,x => x = v /\ dY v = true
  | .lst ds,x => ∃ a xs,x = .ref a /\ aD K H a xs /\ aI K H ds xs
  | .tup ds,x => ∃ a xs,x = .ref a /\ cE K H a xs /\ aI K H ds xs
def aI (K : PySem.W.Frag) (H : Hp) : List Dv -> List V -> Prop
  | [],xs => xs = []
  | d :: ds,xs => ∃ x r,xs = x :: r /\ Hv K H d x /\ aI K H ds r
end
theorem DM {v : V} (h : dY v = true) : cX v v = true := by
  cases v <;> first | rfl | (simp [cX]; done) | (exact absurd h (by decide)) | (cases h)
section
variable {X : Cx} {pins : List (Addr × Obj)} {σ : St} {H : Hp} {s : Shared}
theorem DN (I : Inv X pins σ H s) {a : Addr} {xs ys : List V} (h1 : aD X.K H a xs) (h2 : cE X.K H a ys) : False := by
  obtain ⟨i1,_,p1,_⟩ := I.list h1
  obtain ⟨i2,_,p2,_⟩ := I.tuple h2
  exact SeqAt.ne_of_list_tuple p1.isList p2 rfl
mutual
theorem wY (I : Inv X pins σ H s) : ∀ (d e : Dv) (x : V),Hv X.K H d x -> Hv X.K H e x -> bR d e = true
  | .fl v,.fl w,x,h1,h2 => by
    obtain ⟨rfl,f⟩ := h1
    obtain ⟨rfl,_⟩ := h2
    exact DM f
  | .fl v,.lst es,x,h1,h2 => by
    obtain ⟨rfl,f⟩ := h1
    obtain ⟨a,xs,rfl,_⟩ := h2
    cases f
  | .fl v,.tup es,x,h1,h2 => by
    obtain ⟨rfl,f⟩ := h1
    obtain ⟨a,xs,rfl,_⟩ := h2
    cases f
  | .lst ds,.fl v,x,h2,h1 => by
    obtain ⟨rfl,f⟩ := h1
    obtain ⟨a,xs,rfl,_⟩ := h2
    cases f
  | .tup ds,.fl v,x,h2,h1 => by
    obtain ⟨rfl,f⟩ := h1
    obtain ⟨a,xs,rfl,_⟩ := h2
    cases f
  | .lst ds,.lst es,x,h1,h2 => by
    obtain ⟨a,xs,rfl,q,r⟩ := h1
    obtain ⟨b,ys,e,q',r'⟩ := h2
    cases e
    have := I.DL q q'
    subst this
    exact wz I ds es xs r r'
  | .tup ds,.tup es,x,h1,h2 => by
    obtain ⟨a,xs,rfl,q,r⟩ := h1
    obtain ⟨b,ys,e,q',r'⟩ := h2
    cases e
    have := I.M6 q q'
    subst this
    exact wz I ds es xs r r'
  | .lst ds,.tup es,x,h1,h2 => by
    obtain ⟨a,xs,rfl,q,r⟩ := h1
    obtain ⟨b,ys,e,q',r'⟩ := h2
    cases e
    exact (DN I q q').elim
  | .tup ds,.lst es,x,h1,h2 => by
    obtain ⟨a,xs,rfl,q,r⟩ := h1
    obtain ⟨b,ys,e,q',r'⟩ := h2
    cases e
    exact (DN I q' q).elim
theorem wz (I : Inv X pins σ H s) : ∀ (ds es : List Dv) (xs : List V),aI X.K H ds xs -> aI X.K H es xs -> d9 ds es = true
  | [],[],_,_,_ => rfl
  | [],e :: es,xs,h1,h2 => by
    obtain rfl : xs = [] := h1
    obtain ⟨x,r,z,_⟩ := h2
    cases z
  | d :: ds,[],xs,h1,h2 => by
    obtain rfl : xs = [] := h2
    obtain ⟨x,r,z,_⟩ := h1
    cases z
  | d :: ds,e :: es,xs,h1,h2 => by
    obtain ⟨x,r,rfl,a,b⟩ := h1
    obtain ⟨x',r',z,a',b'⟩ := h2
    cases z
    show (bR d e && d9 ds es) = true
    rw [wY I d e x a a',wz I ds es r b b']
    rfl
end
theorem aI.length {K : PySem.W.Frag} {H : Hp} : ∀ {ds : List Dv} {xs : List V},aI K H ds xs -> ds.length = xs.length
  | [],xs,h => by
    obtain rfl : xs = [] := h
    rfl
  | d :: ds,xs,h => by
    obtain ⟨x,r,rfl,_,b⟩ := h
    rw [List.length_cons,List.length_cons,aI.length b]
theorem km : ∀ {ds es : List Dv},ds.length ≠ es.length -> d9 ds es = false
  | [],[],h => absurd rfl h
  | [],_ :: _,_ => rfl
  | _ :: _,[],_ => rfl
  | d :: ds,e :: es,h => by
    show (bR d e && d9 ds es) = false
    rw [km (ds := ds) (es := es) (by simpa using h),Bool.and_false]
def gn (ds es : List Dv) (j : Nat) : Bool := match ds[j]?,es[j]? with
  | some d,some e => bR d e
  | _,_ => false
theorem ki : ∀ {ds es : List Dv},ds.length = es.length -> (List.range ds.length).all (gn ds es) = d9 ds es
  | [],[],_ => rfl
  | [],_ :: _,h => by cases h
  | _ :: _,[],h => by cases h
  | d :: ds,e :: es,h => by
    rw [List.length_cons,List.range_succ_eq_map,List.all_cons,List.all_map]
    show (bR d e && (List.range ds.length).all (gn (d :: ds) (e :: es) ∘ Nat.succ)) = (bR d e && d9 ds es)
    congr 1
    exact ki (ds := ds) (es := es) (by simpa using h)
mutual
theorem Q0 (I : Inv X pins σ H s) : ∀ (d e : Dv) (A : Around) (x y : V) (u v : Value),A.units + cS d < cLine -> Hv X.K H d x -> Hv X.K H e y -> RelV x u -> RelV y v -> SeqAt.EqAt A s u v (bR d e)
  | .fl a,.fl b,A,x,y,u,v,hu,h1,h2,rx,ry => by
    obtain ⟨rfl,f1⟩ := h1
    obtain ⟨rfl,f2⟩ := h2
    exact Fw rx ry f1 f2
  | .fl a,.lst es,A,x,y,u,v,hu,h1,h2,rx,ry => by
    obtain ⟨rfl,f1⟩ := h1
    obtain ⟨b,ys,rfl,q,r⟩ := h2
    cases ry
    obtain ⟨its,_,pl,_⟩ := I.list q
    have aT : A.units < cLine := hu
    cases x with
    | aF => cases rx; exact SeqAt.EqAt.none_list pl.isList aT
    | bl c => cases rx; exact SeqAt.EqAt.bool_list c pl.isList aT
    | int c => obtain ⟨t,rfl⟩ := rx; exact SeqAt.EqAt.int_list c t pl.isList aT
    | str c => obtain ⟨t,rfl⟩ := rx; exact SeqAt.EqAt.str_list c t pl.isList aT
    | _ => cases f1
  | .fl a,.tup es,A,x,y,u,v,hu,h1,h2,rx,ry => by
    obtain ⟨rfl,f1⟩ := h1
    obtain ⟨b,ys,rfl,q,r⟩ := h2
    cases ry
    obtain ⟨its,_,pl,_⟩ := I.tuple q
    have aT : A.units < cLine := hu
    cases x with
    | aF => cases rx; exact SeqAt.EqAt.none_tuple pl aT
    | bl c => cases rx; exact SeqAt.EqAt.bool_tuple c pl aT
    | int c => obtain ⟨t,rfl⟩ := rx; exact SeqAt.EqAt.int_tuple c t pl aT
    | str c => obtain ⟨t,rfl⟩ := rx; exact SeqAt.EqAt.str_tuple c t pl aT
    | _ => cases f1
  | .lst ds,.fl b,A,x,y,u,v,hu,h1,h2,rx,ry => by
    obtain ⟨rfl,f2⟩ := h2
    obtain ⟨a,xs,rfl,q,r⟩ := h1
    cases rx
    obtain ⟨its,_,pl,_⟩ := I.list q
    have aT : A.units < cLine := Nat.lt_of_le_of_lt (Nat.le_add_right _ _) hu
    cases y with
    | aF => cases ry; exact SeqAt.EqAt.list_none pl.isList aT
    | bl c => cases ry; exact SeqAt.EqAt.list_bool c pl.isList aT
    | int c => obtain ⟨t,rfl⟩ := ry; exact SeqAt.EqAt.list_int c t pl.isList aT
    | str c => obtain ⟨t,rfl⟩ := ry; exact SeqAt.EqAt.list_str c t pl.isList aT
    | _ => cases f2
  | .tup ds,.fl b,A,x,y,u,v,hu,h1,h2,rx,ry => by
    obtain ⟨rfl,f2⟩ := h2
    obtain ⟨a,xs,rfl,q,r⟩ := h1
    cases rx
    obtain ⟨its,_,pl,_⟩ := I.tuple q
    have aT : A.units < cLine := Nat.lt_of_le_of_lt (Nat.le_add_right _ _) hu
    cases y with
    | aF => cases ry; exact SeqAt.EqAt.tuple_none pl aT
    | bl c => cases ry; exact SeqAt.EqAt.tuple_bool c pl aT
    | int c => obtain ⟨t,rfl⟩ := ry; exact SeqAt.EqAt.tuple_int c t pl aT
    | str c => obtain ⟨t,rfl⟩ := ry; exact SeqAt.EqAt.tuple_str c t pl aT
    | _ => cases f2
  | .lst ds,.tup es,A,x,y,u,v,hu,h1,h2,rx,ry => by
    obtain ⟨a,xs,rfl,q,r⟩ := h1
    obtain ⟨b,ys,rfl,q',r'⟩ := h2
    cases rx
    cases ry
    obtain ⟨_,_,p1,_⟩ := I.list q
    obtain ⟨_,_,p2,_⟩ := I.tuple q'
    exact SeqAt.EqAt.list_tuple p1.isList p2 (Nat.lt_of_le_of_lt (Nat.le_add_right _ _) hu)
  | .tup ds,.lst es,A,x,y,u,v,hu,h1,h2,rx,ry => by
    obtain ⟨a,xs,rfl,q,r⟩ := h1
    obtain ⟨b,ys,rfl,q',r'⟩ := h2
    cases rx
    cases ry
    obtain ⟨_,_,p1,_⟩ := I.tuple q
    obtain ⟨_,_,p2,_⟩ := I.list q'
    exact SeqAt.EqAt.tuple_list p1 p2.isList (Nat.lt_of_le_of_lt (Nat.le_add_right _ _) hu)
  | .lst ds,.lst es,A,x,y,u,v,hu,h1,h2,rx,ry => by
    obtain ⟨a,xs,rfl,q,r⟩ := id h1
    obtain ⟨b,ys,rfl,q',r'⟩ := id h2
    cases rx
    cases ry
    by_cases ox : a = b
    · subst ox
      rw [wY I _ _ _ h1 h2]
      exact SeqAt.EqAt.same _
    obtain ⟨i1,v1,p1,_⟩ := I.list q
    obtain ⟨i2,v2,p2,_⟩ := I.list q'
    have aT : A.units < cLine := Nat.lt_of_le_of_lt (Nat.le_add_right _ _) hu
    have l1 := r.length
    have l2 := r'.length
    have m1 := v1.length
    have m2 := v2.length
    refine .of_refs ox ?_
    show SeqAt.RcAt A s (.ref a) (.ref b) (d9 ds es)
    by_cases hl : ds.length = es.length
    · have z := SeqAt.RcAt.lists (e := gn ds es) p1.isList p2.isList (by simp; omega) aT (fun j g1 g2 => kz I ds es A.in1 xs ys i1 i2 (by show A.units + 1 + cO ds < cLine; have : A.units + (cO ds + 1) < cLine := hu; omega) r r' v1 v2 j (by simpa using g1) (by simpa using g2))
      rw [List.size_toArray,<- m1,<- l1,ki hl] at z
      exact z
    · rw [km hl]
      exact .lists_lengths p1.isList p2.isList (by simp; omega) aT
  | .tup ds,.tup es,A,x,y,u,v,hu,h1,h2,rx,ry => by
    obtain ⟨a,xs,rfl,q,r⟩ := id h1
    obtain ⟨b,ys,rfl,q',r'⟩ := id h2
    cases rx
    cases ry
    by_cases ox : a = b
    · subst ox
      rw [wY I _ _ _ h1 h2]
      exact SeqAt.EqAt.same _
    obtain ⟨i1,v1,p1,_⟩ := I.tuple q
    obtain ⟨i2,v2,p2,_⟩ := I.tuple q'
    have aT : A.units < cLine := Nat.lt_of_le_of_lt (Nat.le_add_right _ _) hu
    have l1 := r.length
    have l2 := r'.length
    have m1 := v1.length
    have m2 := v2.length
    refine .of_refs ox ?_
    show SeqAt.RcAt A s (.ref a) (.ref b) (d9 ds es)
    have z := SeqAt.RcAt.tuples (e := gn ds es) p1 p2 aT (fun j g1 g2 => kz I ds es A.in1 xs ys i1 i2 (by show A.units + 1 + cO ds < cLine; have : A.units + (cO ds + 1) < cLine := hu; omega) r r' v1 v2 j (by simpa using g1) (by simpa using g2))
    have zz : ((List.range (min i1.toArray.size i2.toArray.size)).all (gn ds es) && i1.toArray.size == i2.toArray.size) = d9 ds es := by
      rw [List.size_toArray,List.size_toArray,<- m1,<- m2,<- l1,<- l2]
      by_cases hl : ds.length = es.length
      · rw [hl,Nat.min_self,<- hl,ki hl]; simp [hl]
      · rw [km hl,beq_eq_false_iff_ne.mpr hl,Bool.and_false]
    rw [zz] at z
    exact z
theorem kz (I : Inv X pins σ H s) : ∀ (ds es : List Dv) (A : Around) (xs ys : List V) (us vs : List Value),A.units + cO ds < cLine -> aI X.K H ds xs -> aI X.K H es ys -> Vals xs us -> Vals ys vs ->
    ∀ (j : Nat) (h1 : j < us.length) (h2 : j < vs.length),SeqAt.EqAt A s us[j] vs[j] (gn ds es j)
  | [],es,A,xs,ys,us,vs,hu,h1,h2,r1,r2,j,g1,g2 => by
    obtain rfl : xs = [] := h1
    cases r1
    exact absurd g1 (Nat.not_lt_zero _)
  | d :: ds,[],A,xs,ys,us,vs,hu,h1,h2,r1,r2,j,g1,g2 => by
    obtain rfl : ys = [] := h2
    cases r2
    exact absurd g2 (Nat.not_lt_zero _)
  | d :: ds,e :: es,A,xs,ys,us,vs,hu,h1,h2,r1,r2,j,g1,g2 => by
    obtain ⟨x,r,rfl,a,b⟩ := h1
    obtain ⟨y,q,rfl,a',b'⟩ := h2
    cases r1 with
    | cons c1 t1 => cases r2 with
      | cons c2 t2 =>
        have hm : cO (d :: ds) = max (cS d) (cO ds) := rfl
        rw [hm] at hu
        cases j with
        | zero => exact Q0 I d e A x y _ _ (Nat.lt_of_le_of_lt (Nat.add_le_add_left (Nat.le_max_left _ _) _) hu) a a' c1 c2
        | succ j => exact kz I ds es A r q _ _ (Nat.lt_of_le_of_lt (Nat.add_le_add_left (Nat.le_max_right _ _) _) hu) b b' t1 t2 j (by simpa using g1) (by simpa using g2)
end
def qC (K : PySem.W.Frag) (neg : Bool) : R2 := fun x y H Q => ∃ d e,((∃ ds es,d = .lst ds /\ e = .lst es) \/ ∃ ds es,d = .tup ds /\ e = .tup es) /\ Hv K H d x /\ Hv K H e y /\ cS d <= 50 /\ Q (.bl (if neg then !bR d e else bR d e)) H
theorem FA (hr : X.A.units + 64 < cLine) : cQ X (compareOp .Eq) (qC X.K false) := by
  intro pins s σ H x y v u Q I rx ry h
  obtain ⟨d,e,hk,h1,h2,hd,q⟩ := h
  have aT : X.A.units < cLine := by omega
  rcases hk with ⟨ds,es,rfl,rfl⟩ | ⟨ds,es,rfl,rfl⟩
  · obtain ⟨a,xs,rfl,q1,r⟩ := h1
    obtain ⟨b,ys,rfl,q2,r'⟩ := h2
    cases rx
    cases ry
    obtain ⟨i1,v1,p1,_⟩ := I.list q1
    obtain ⟨i2,v2,p2,_⟩ := I.list q2
    have l1 := r.length
    have l2 := r'.length
    have m1 := v1.length
    have m2 := v2.length
    have qO : cO ds + 1 <= 50 := hd
    by_cases hl : ds.length = es.length
    · refine SeqAt.eq_listAt (e := gn ds es) p1.isList p2.isList (by simp; omega) aT (fun j g1 g2 => kz I ds es X.A.in1 xs ys i1 i2 (by show X.A.units + 1 + cO ds < cLine; omega) r r' v1 v2 j (by simpa using g1) (by simpa using g2)) ?_
      rw [List.size_toArray,<- m1,<- l1,ki hl]
      exact ⟨.bl _,H,I,rfl,q⟩
    · refine SeqAt.eq_list_lengthsAt p1.isList p2.isList (by simp; omega) aT ⟨.bl _,H,I,rfl,?_⟩
      have z : bR (.lst ds) (.lst es) = false := km hl
      rw [z] at q
      exact q
  · obtain ⟨a,xs,rfl,q1,r⟩ := h1
    obtain ⟨b,ys,rfl,q2,r'⟩ := h2
    cases rx
    cases ry
    obtain ⟨i1,v1,p1,_⟩ := I.tuple q1
    obtain ⟨i2,v2,p2,_⟩ := I.tuple q2
    have l1 := r.length
    have l2 := r'.length
    have m1 := v1.length
    have m2 := v2.length
    have qO : cO ds + 1 <= 50 := hd
    refine SeqAt.eq_tupleAt (e := gn ds es) p1 p2 aT (fun j g1 g2 => kz I ds es X.A.in1 xs ys i1 i2 (by show X.A.units + 1 + cO ds < cLine; omega) r r' v1 v2 j (by simpa using g1) (by simpa using g2)) ⟨.bl _,H,I,rfl,?_⟩
    have zz : ((List.range (min i1.toArray.size i2.toArray.size)).all (gn ds es) && i1.toArray.size == i2.toArray.size) = d9 ds es := by
      rw [List.size_toArray,List.size_toArray,<- m1,<- m2,<- l1,<- l2]
      by_cases hl : ds.length = es.length
      · rw [hl,Nat.min_self,<- hl,ki hl]; simp [hl]
      · rw [km hl,beq_eq_false_iff_ne.mpr hl,Bool.and_false]
    rw [zz]
    exact q
theorem Q1 (hr : X.A.units + 64 < cLine) : cQ X (compareOp .NotEq) (qC X.K true) := by
  intro pins s σ H x y v u Q I rx ry h
  obtain ⟨d,e,hk,h1,h2,hd,q⟩ := h
  have aT : X.A.units < cLine := by omega
  rcases hk with ⟨ds,es,rfl,rfl⟩ | ⟨ds,es,rfl,rfl⟩
  · obtain ⟨a,xs,rfl,q1,r⟩ := h1
    obtain ⟨b,ys,rfl,q2,r'⟩ := h2
    cases rx
    cases ry
    obtain ⟨i1,v1,p1,_⟩ := I.list q1
    obtain ⟨i2,v2,p2,_⟩ := I.list q2
    have l1 := r.length
    have l2 := r'.length
    have m1 := v1.length
    have m2 := v2.length
    have qO : cO ds + 1 <= 50 := hd
    by_cases hl : ds.length = es.length
    · refine SeqAt.RcNeAt.lists (e := gn ds es) p1.isList p2.isList (by simp; omega) aT (fun j g1 g2 => kz I ds es X.A.in1 xs ys i1 i2 (by show X.A.units + 1 + cO ds < cLine; omega) r r' v1 v2 j (by simpa using g1) (by simpa using g2)) _ _ _ _ ?_
      rw [List.size_toArray,<- m1,<- l1,ki hl]
      exact ⟨.bl _,H,I,rfl,q⟩
    · refine SeqAt.RcNeAt.lists_lengths p1.isList p2.isList (by simp; omega) aT _ _ _ _ ⟨.bl _,H,I,rfl,?_⟩
      have z : bR (.lst ds) (.lst es) = false := km hl
      rw [z] at q
      exact q
  · obtain ⟨a,xs,rfl,q1,r⟩ := h1
    obtain ⟨b,ys,rfl,q2,r'⟩ := h2
    cases rx
    cases ry
    obtain ⟨i1,v1,p1,_⟩ := I.tuple q1
    obtain ⟨i2,v2,p2,_⟩ := I.tuple q2
    have l1 := r.length
    have l2 := r'.length
    have m1 := v1.length
    have m2 := v2.length
    have qO : cO ds + 1 <= 50 := hd
    refine SeqAt.RcNeAt.tuples (e := gn ds es) p1 p2 aT (fun j g1 g2 => kz I ds es X.A.in1 xs ys i1 i2 (by show X.A.units + 1 + cO ds < cLine; omega) r r' v1 v2 j (by simpa using g1) (by simpa using g2)) _ _ _ _ ⟨.bl _,H,I,rfl,?_⟩
    have zz : ((List.range (min i1.toArray.size i2.toArray.size)).all (gn ds es) && i1.toArray.size == i2.toArray.size) = d9 ds es := by
      rw [List.size_toArray,List.size_toArray,<- m1,<- m2,<- l1,<- l2]
      by_cases hl : ds.length = es.length
      · rw [hl,Nat.min_self,<- hl,ki hl]; simp [hl]
      · rw [km hl,beq_eq_false_iff_ne.mpr hl,Bool.and_false]
    rw [zz]
    exact q
end
end L2
namespace L2
open PySem PySem.Spec PyProof.Rows
structure kU (K : PySem.W.Frag) (x qual : Str) (st : Stmt) (dV : Value) (f : Addr) (fd : FuncData) : Prop where
  ex : ∃ (oc : Value) (od : Option Addr) (kV doc pm : Value) (an : Option Addr) (bD ct : Value) (fX : Array (Option Value)),
    fd = PySem.W.fnOf x qual (aV st) (aQ st) (ag st) dV kV doc pm an bD ct /\ K.lookup f = some ⟨oc,od,.func fd,fX⟩ /\ PySem.W.codeIn K bD qual = true
  kp : PySem.W.keepIn K (.ref f) = true
structure Kn (P : Program) (w : World) (K : PySem.W.Frag) (mg : Str -> Option Value) (base : Heap) (CX : fk) (k : Nat) (x : Str) (f : Addr) (fd : FuncData) (ps : List Str) (sp : Sp) : Prop where
  ok : aR P w K mg base CX k f fd ps sp
  zU : mg x = some (.ref f)
  kp : PySem.W.keepIn K (.ref f) = true
  bd : Binds K fd ps []
section
variable {P : Program} {w : World} {K : PySem.W.Frag} {mg : Str -> Option Value} {base : Heap}
theorem kU.ok {x qual : Str} {st : Stmt} {dV : Value} {f : Addr} {fd : FuncData} {N ps : List Str} {k : Nat} {sp : Sp} (F : kU K x qual st dV f fd) (S : bh N ps (ag st)) (len : ∀ vs H Q E,sp vs H Q E -> vs.length = ps.length)
    (x6 : ∀ (bD : Value) (A : Around) (outer : List Env) (s : Shared) (H : Hp) (vs : List V) (Q : VK) (E : XK),cN k (A.deeper (envOfC qual (ag st) s.heap.objs.size f bD)) -> sp vs H Q E ->
      ∃ t,eM (i9 aq P w K mg base N qual (ag st) f bD A outer s H E).qR (aQ st) t /\ t { nx := fun _ H' => Q .aF H',rt := Q } (start N vs) H) : aR P w K mg base aq (k + 1) f fd ps sp := by
  obtain ⟨oc,od,kV,doc,pm,an,bD,ct,fX,rfl,lk,fj⟩ := F.ex
  refine RY lk fj S len fun A outer s H vs Q E hr jZ => ?_
  obtain ⟨t,h,q⟩ := x6 bD A outer s H vs Q E hr jZ
  exact ⟨t,h.qR,q⟩
theorem EG {x qual : Str} {st : Stmt} {dV : Value} {f : Addr} {oc : Value} {od an : Option Addr} {fX : Array (Option Value)} {kV doc pm bD ct : Value} (l : K.lookup f = some ⟨oc,od,.func (PySem.W.fnOf x qual (aV st) (aQ st) (ag st) dV kV doc pm an bD ct),fX⟩)
    (c : PySem.W.codeIn K bD qual = true) (k : PySem.W.keepIn K (.ref f) = true) : kU K x qual st dV f (PySem.W.fnOf x qual (aV st) (aQ st) (ag st) dV kV doc pm an bD ct) := ⟨⟨oc,od,kV,doc,pm,an,bD,ct,fX,rfl,l,c⟩,k⟩
end
section
variable {X : Cx} {CX : fk} {k : Nat} {f : Addr} {fd : FuncData} {ps : List Str} {sp : Sp} {E : XK} {x : Str} {p pos : Pos} {e : Expr} {es : List Expr} {t : TA}
theorem nQ (F : Kn X.prog X.w X.K X.mg X.base aq k x f fd ps sp) (hr : cN k X.A) (hg : Gl X x) (ha : PA X (e :: es) t) (dQ : (x == ("__debug__" : Str)) = false := by decide)
    (he : starEach (e :: es) X.env = (false,eval e X.env) :: starEach es X.env := by rfl) (dD : (backTo pos (starEach es X.env)).any (·.1) = false := by rfl) :
    PE X (.Call (.Name x p) (e :: es) [] pos) (iC sp [] E0 t) := EC F.ok hr hg F.zU F.kp F.bd .nil x9 ha dQ he dD
end
section
variable {K : PySem.W.Frag} {g : TG} {tb : TS} {D : Ends} {σ : St} {H : Hp}
theorem Ni {j : Nat} {a : Addr} {xs : List V} (hj : σ[j]? = some (some (.ref a))) (hx : aD K H a xs) (Pv : Nat -> St -> Hp -> Prop) (h0 : Pv 0 σ H) (hk : ∀ i σ H,i <= xs.length -> Pv i σ H -> aD K H a xs)
    (hs : ∀ i x σ H,xs[i]? = some x -> Pv i σ H -> g x σ H fun bg H2 => tb { D with nx := Pv (i + 1),ct := Pv (i + 1),bk := D.nx } bg H2) (hd : ∀ σ H,Pv xs.length σ H -> D.nx σ H) : jP (kK K (bb j)) g tb D σ H :=
  ⟨_,hj,a,rfl,⟨xs,hx⟩,wt Pv h0 hk hs hd⟩
end
def Hf (K : PySem.W.Frag) : R2 := fun x y H Q => ∃ l b xs zs,x = .ref l /\ y = .ref b /\ aD K H l xs /\ aD K H b zs /\ xs.length + zs.length <= sizeLine /\ ∀ p,H p = none -> Q (.ref p) (upd H p (.lst (xs ++ zs)))
end L2
namespace L2
open PySem PySem.Spec PyProof.Rows
section
variable {Y : Cx} {c : Expr} {tt : TT}
theorem Hg (pins : List (Addr × Obj)) (s1 : Shared) (az : St) (H1 : Hp) (Q : Bool -> Hp -> Prop) (I : Inv Y pins az H1 s1) (h : Q true H1) : wpAny (model Y.prog Y.w) Y.A (iT [] Y.env) (TP Y pins az Q) cu s1 :=
  wpAny_pure ⟨H1,I,h⟩
theorem R3 (ht : PT Y c tt) (hx : Y.xe = cu) (pins : List (Addr × Obj)) (s1 : Shared) (az : St) (H1 : Hp) (Q : Bool -> Hp -> Prop) (I : Inv Y pins az H1 s1) (h : tt az H1 Q) : wpAny (model Y.prog Y.w) Y.A (iT [c] Y.env) (TP Y pins az Q) cu s1 := by
  have z := ht pins s1 az H1 Q I h
  rw [hx] at z
  unfold iT
  rw [List.forIn_cons]
  simp only [if_true]
  refine wpAny_bind (wpAny_bind (ax z fun b s2 q => wpAny_pure ?_))
  exact wpAny_pure q
end
def sF : TT := fun _ H Q => Q true H
section
variable {X : Cx}
theorem Ph : cQ X (binaryOp .Add) (Hf X.K) := by
  intro pins s σ H x y v u Q I rx ry h
  obtain ⟨l,b,xs,zs,rfl,rfl,hH,hB,hz,q⟩ := h
  cases rx
  cases ry
  obtain ⟨its,r,⟨⟨cl,dd,da,sl⟩,n,e,c1,c2,d1⟩,z⟩ := I.list hH
  obtain ⟨fh,r2,⟨⟨cl2,Xy,da2,zV⟩,n2,e2,c3,c4,d2⟩,z2⟩ := I.list hB
  simp only at c1 d1 c3 d2
  subst c1 d1 c3 d2
  have l1 := r.length
  have l2 := r2.length
  refine concat_meets ⟨_,e,rfl⟩ ⟨_,e2,rfl⟩ noFill_list_add seq_list_add PySem.F.slot_list_add PySem.F.entry_list_add (PySem.F.args_list_add_2 _ _) (list_addW l b its.toArray fh.toArray n n2 dd Xy sl zV (by simp; omega)) ⟨e,e2,?_⟩
  have ea : its.toArray ++ fh.toArray = (its ++ fh).toArray := by simp
  rw [ea]
  exact ⟨.ref _,_,I.yU (t' := s.toks) (r.append r2) (by rw [List.length_append]; omega),rfl,q _ I.fresh⟩
end
end L2
namespace L2
open PySem
theorem Lr : bootBuiltins "isinstance" = some (.builtin "isinstance") := by decide +kernel
theorem Q2 : bootBuiltins "abs" = some (.builtin "abs") := by decide +kernel
theorem xI : bootBuiltins "len" = some (.builtin "len") := by decide +kernel
theorem Dn : bootBuiltins "sorted" = some (.builtin "sorted") := by decide +kernel
theorem Q3 : bootBuiltins "any" = some (.builtin "any") := by decide +kernel
theorem FC : bootBuiltins "int" = some (.type "int") := by decide +kernel
theorem Pj : bootBuiltins "bool" = some (.type "bool") := by decide +kernel
theorem Q4 : bootBuiltins "str" = some (.type "str") := by decide +kernel
theorem pF : bootBuiltins "list" = some (.type "list") := by decide +kernel
theorem N8 : bootBuiltins "tuple" = some (.type "tuple") := by decide +kernel
theorem Q5 : bootBuiltins "zip" = some (.type "zip") := by decide +kernel
theorem LR : bootBuiltins "enumerate" = some (.type "enumerate") := by decide +kernel
end L2
namespace L2
open PySem PySem.Spec PyProof.Rows
def eJ (cells : List (Str × Addr)) : List (Str × NameKind) -> List (Str × Addr) -> List (Str × Addr)
  | [],cs => cs
  | (n,k) :: r,cs => eJ cells r (if k == .free then (n,(cells.lookup n).getD 0) :: cs else cs)
theorem EH {sc : Scope} {env : Env} (h : ∀ p ∈ sc.names,p.2 = .free -> ∃ c,env.cells.lookup p.1 = some c) : closureFor sc env = pure (eJ env.cells sc.names []) := by
  have key : ∀ (names : List (Str × NameKind)) (cs : List (Str × Addr)),(∀ p ∈ names,p.2 = .free -> ∃ c,env.cells.lookup p.1 = some c) ->
      (forIn names cs fun x t => match x with
        | (name,kind) => if (kind == NameKind.free) = true then do
              let a <- cellOf env name
              pure (ForInStep.yield ((name,a) :: t))
            else pure (ForInStep.yield t)) = (pure (eJ env.cells names cs) : Sem (List (Str × Addr))) := by
    intro names
    induction names with
    | nil => intro cs _; rfl
    | cons p r ih =>
      intro cs hp
      obtain ⟨n,k⟩ := p
      rw [List.forIn_cons]
      cases hk : k == NameKind.free with
      | true =>
        obtain ⟨c,hc⟩ := hp (n,k) (.head _) (beq_iff_eq.mp hk)
        have gF : env.cells.lookup n = some c := hc
        have e1 : cellOf env n = pure c := by unfold cellOf; rw [gF]
        have e2 : eJ env.cells ((n,k) :: r) cs = eJ env.cells r ((n,c) :: cs) := by
          show eJ env.cells r (if (k == NameKind.free) = true then _ else _) = _
          rw [hk,gF,if_pos rfl]
          rfl
        rw [e2,<- ih ((n,c) :: cs) fun q hq => hp q (.tail _ hq)]
        simp only [hk,if_true,e1]
        rfl
      | false =>
        have e2 : eJ env.cells ((n,k) :: r) cs = eJ env.cells r cs := by
          show eJ env.cells r (if (k == NameKind.free) = true then _ else _) = _
          rw [hk,if_neg (by decide)]
        rw [e2,<- ih cs fun q hq => hp q (.tail _ hq)]
        simp only [hk,Bool.false_eq_true,if_false]
        rfl
  simp only [closureFor]
  rw [key sc.names [] h]
  rfl
theorem vY {cells : List (Str × Addr)} : ∀ (names : List (Str × NameKind)) (cs : List (Str × Addr)),(∀ p ∈ names,p.2 = .free -> ∃ c,cells.lookup p.1 = some c) -> (∀ y c,cs.lookup y = some c -> cells.lookup y = some c) ->
    ∀ y c,(eJ cells names cs).lookup y = some c -> cells.lookup y = some c
  | [],_,_,h => h
  | (n,k) :: r,cs,hp,h => by
    refine vY r _ (fun q hq => hp q (.tail _ hq)) fun y c e => ?_
    split at e
    · rename_i hk
      obtain ⟨c0,hc⟩ := hp (n,k) (.head _) (beq_iff_eq.mp hk)
      have gF : cells.lookup n = some c0 := hc
      rw [List.lookup_cons] at e
      split at e
      · rename_i hy
        have : y = n := beq_iff_eq.mp hy
        subst this
        rw [gF] at e
        cases e
        exact gF
      · exact h y c e
    · exact h y c e
theorem C6 {cells : List (Str × Addr)} : ∀ (names : List (Str × NameKind)) (cs : List (Str × Addr)) (y : Str),(∃ c,cs.lookup y = some c) -> ∃ c,(eJ cells names cs).lookup y = some c
  | [],_,_,h => h
  | (n,k) :: r,cs,y,⟨c,h⟩ => by
    refine C6 r _ y ?_
    split
    · rw [List.lookup_cons]
      split
      · exact ⟨_,rfl⟩
      · exact ⟨c,h⟩
    · exact ⟨c,h⟩
theorem mZ {cells : List (Str × Addr)} : ∀ (names : List (Str × NameKind)) (cs : List (Str × Addr)) (y : Str),(y,NameKind.free) ∈ names -> ∃ c,(eJ cells names cs).lookup y = some c
  | [],_,_,h => nomatch h
  | (n,k) :: r,cs,y,h => by
    rcases List.mem_cons.mp h with e | h
    · have e1 : y = n := congrArg (·.1) e
      have e2 : NameKind.free = k := congrArg (·.2) e
      subst e1 e2
      refine C6 r _ _ ?_
      rw [if_pos (by decide),List.lookup_cons_self]
      exact ⟨_,rfl⟩
    · exact mZ r _ y h
theorem mem_of_lookup {κ β : Type} [BEq κ] [LawfulBEq κ] {l : List (κ × β)} {y : κ} {k : β} (h : l.lookup y = some k) : (y,k) ∈ l := by
  induction l with
  | nil => cases h
  | cons p r ih =>
    obtain ⟨n,b⟩ := p
    rw [List.lookup_cons] at h
    split at h
    · rename_i hy
      have : y = n := beq_iff_eq.mp hy
      subst this
      cases h
      exact .head _
    · exact .tail _ (ih h)
section
variable {CX : fk} {P : Program} {w : World} {K : PySem.W.Frag} {mg : Str -> Option Value} {base : Heap} {N : List Str} {qual : Str} {bW : Scope} {f : Addr} {cd : Value} {A : Around} {outer : List Env} {s : Shared} {H : Hp} {E : XK} {XE : Value -> Shared -> Prop}
structure Pk (N : List Str) (bW sc : Scope) (fr : List Nat) : Prop where
  kind : sc.kind = .function
  Hh : bW.kind = .function
  Q6 : ∀ y ∈ sc.names,y.2 ≠ .cell
  loc : ∀ y ∈ sc.names,y.2 = .local -> sc.names.lookup y.1 = some .local
  lO : ∀ y ∈ sc.names,y.2 = .free -> bW.names.lookup y.1 = some .cell
  cW : ∀ j ∈ fr,sc.names.lookup (N.getD j "") = some .free /\ j < N.length
theorem mj {env : Env} : ∀ {names : List (Str × NameKind)} {y : Str} {k : NameKind},(names.map fun (n,k) => if (k == NameKind.free && env.scope.kind == .function && env.kindOf n == some .cell) then (n,NameKind.cell) else (n,k)).lookup y = some k ->
    ∃ k0,names.lookup y = some k0 /\ (k = k0 \/ (k = .cell /\ k0 = .free))
  | [],_,_,h => by cases h
  | (n,k0) :: r,y,k,h => by
    rw [List.map_cons] at h
    simp only at h
    split at h
    · rename_i hc
      rw [List.lookup_cons] at h ⊢
      split at h
      · cases h
        simp only [Bool.and_eq_true,beq_iff_eq] at hc
        exact ⟨k0,rfl,.inr ⟨rfl,hc.1.1⟩⟩
      · exact mj h
    · rw [List.lookup_cons] at h ⊢
      split at h
      · cases h
        exact ⟨k0,rfl,.inl rfl⟩
      · exact mj h
theorem oJ {env : Env} : ∀ {names : List (Str × NameKind)} {y : Str},names.lookup y = some .free ->
    (names.map fun (n,k) => if (k == NameKind.free && env.scope.kind == .function && env.kindOf n == some .cell) then (n,NameKind.cell) else (n,k)).lookup y = some .cell \/
    (names.map fun (n,k) => if (k == NameKind.free && env.scope.kind == .function && env.kindOf n == some .cell) then (n,NameKind.cell) else (n,k)).lookup y = some .free
  | [],_,h => by cases h
  | (n,k0) :: r,y,h => by
    rw [List.map_cons]
    rw [List.lookup_cons] at h
    simp only
    split at h
    · rename_i hy
      cases h
      split
      · left; rw [List.lookup_cons,hy]
      · right; rw [List.lookup_cons,hy]
    · rename_i hy
      split
      · rw [List.lookup_cons,hy]; exact oJ h
      · rw [List.lookup_cons,hy]; exact oJ h
structure N9 (N : List Str) (bW sc : Scope) (fr : List Nat) : Prop where
  kind : sc.kind = .function
  Hh : bW.kind = .function
  own : ∀ y ∈ sc.names,y.2 = .cell -> ∀ z ∈ sc.names,z.2 = .free -> z.1 ≠ y.1
  loc : ∀ y ∈ sc.names,y.2 = .local -> sc.names.lookup y.1 = some .local
  lO : ∀ y ∈ sc.names,y.2 = .free -> bW.names.lookup y.1 = some .cell
  cW : ∀ j ∈ fr,sc.names.lookup (N.getD j "") = some .free /\ j < N.length
theorem vQ {cells : List (Str × Addr)} : ∀ (names : List (Str × NameKind)) (cs : List (Str × Addr)) (y : Str),(∀ z ∈ names,z.2 = .free -> z.1 ≠ y) -> cs.lookup y = none -> (eJ cells names cs).lookup y = none
  | [],_,_,_,h => h
  | (n,k) :: r,cs,y,hn,h => by
    refine vQ r _ y (fun z hz => hn z (.tail _ hz)) ?_
    split
    · rename_i hk
      have rh : n ≠ y := hn (n,k) (.head _) (beq_iff_eq.mp hk)
      have hb : (y == n) = false := beq_eq_false_iff_ne.mpr fun e => rh e.symm
      rw [List.lookup_cons,hb]
      exact h
    · exact h
theorem vB {env : Env} : ∀ {names : List (Str × NameKind)} {y : Str},names.lookup y = some .cell ->
    (names.map fun (n,k) => if (k == NameKind.free && env.scope.kind == .function && env.kindOf n == some .cell) then (n,NameKind.cell) else (n,k)).lookup y = some .cell
  | [],_,h => by cases h
  | (n,k0) :: r,y,h => by
    rw [List.map_cons]
    rw [List.lookup_cons] at h
    simp only
    split at h
    · rename_i hy
      cases h
      rw [if_neg (by intro z; rw [Bool.and_eq_true,Bool.and_eq_true] at z; exact absurd z.1.1 (by decide)),List.lookup_cons,hy]
    · rename_i hy
      split
      · rw [List.lookup_cons,hy]; exact vB h
      · rw [List.lookup_cons,hy]; exact vB h
theorem HS {sc : Scope} {fr : List Nat} (L : N9 N bW sc fr) : gH ((i9 CX P w K mg base N qual bW f cd A outer s H E).gw XE) sc (eJ (cellsFrom (s.heap.objs.size + 1) bW.names []) sc.names []) fr := by
  have jK : ∀ p ∈ sc.names,p.2 = .free -> ∃ c,(cellsFrom (s.heap.objs.size + 1) bW.names []).lookup p.1 = some c := fun p hp e => wu (L.lO p hp e)
  refine ⟨EH jK,L.kind,fun y hy => vQ _ _ y (L.own _ hy rfl) rfl,L.loc,vY _ _ jK (fun _ _ e => nomatch e),fun y hy => ?_,fun j hj => ?_⟩
  · have hk : sc.names.lookup y = some .free \/ sc.names.lookup y = some .cell := by
      rcases hy with hy | hy
      · obtain ⟨k0,h1,h2⟩ := mj hy
        rcases h2 with h2 | ⟨_,h2⟩
        · rw [<- h2] at h1; exact .inr h1
        · rw [h2] at h1; exact .inl h1
      · obtain ⟨k0,h1,h2⟩ := mj hy
        rcases h2 with h2 | ⟨h2,_⟩
        · rw [<- h2] at h1; exact .inl h1
        · cases h2
    exact hk.imp (fun q => mZ _ _ y (mem_of_lookup q)) mem_of_lookup
  · obtain ⟨h1,h2⟩ := L.cW j hj
    have hm := mem_of_lookup h1
    have h3 := L.lO _ hm rfl
    refine ⟨N.getD j "",?_,?_,.inr (.inl h3),?_,mZ _ _ _ hm⟩
    · show N[j]? = some (N.getD j "")
      rw [List.getD_eq_getElem?_getD,List.getElem?_eq_getElem h2]
      rfl
    · exact oJ h1
    · intro z
      have z' : bW.names.lookup (N.getD j "") = some .local := z
      have rj : bW.names.lookup (N.getD j "") = some .cell := h3
      rw [rj] at z'
      cases z'
theorem lcs {sc : Scope} {fr : List Nat} (L : Pk N bW sc fr) : gH ((i9 CX P w K mg base N qual bW f cd A outer s H E).gw XE) sc (eJ (cellsFrom (s.heap.objs.size + 1) bW.names []) sc.names []) fr :=
  HS ⟨L.kind,L.Hh,fun y hy e => absurd e (L.Q6 y hy),L.loc,L.lO,L.cW⟩
end
structure DP (N : List Str) (bW sc : Scope) (fr : List Nat) : Prop where
  kind : sc.kind = .function
  own : ∀ y ∈ sc.names,y.2 = .cell -> ∀ z ∈ sc.names,z.2 = .free -> z.1 ≠ y.1
  loc : ∀ y ∈ sc.names,y.2 = .local -> sc.names.lookup y.1 = some .local
  lO : ∀ y ∈ sc.names,y.2 = .free -> bW.names.lookup y.1 = some .cell \/ bW.names.lookup y.1 = some .free
  cW : ∀ j ∈ fr,sc.names.lookup (N.getD j "") = some .free /\ j < N.length
theorem SV {X : Cx} {jb : List Str} {jm : List Nat} {bW : Scope} {j4 : List (Str × Addr)} {C : Addr} {s : Shared} {H : Hp} {ex : List Addr} {pn : List (Addr × Obj)} {sc : Scope} {fr : List Nat}
    (L : DP (jb ++ jm.map fun j => X.N.getD j "") bW sc fr) (zW : ∀ y,(y,NameKind.free) ∈ bW.names -> ∃ c,j4.lookup y = some c) :
    gH (cD X jb jm bW j4 C s H ex pn) sc (eJ (cellsFrom (C + 1) bW.names j4) sc.names []) fr := by
  have jK : ∀ p ∈ sc.names,p.2 = .free -> ∃ c,(cellsFrom (C + 1) bW.names j4).lookup p.1 = some c := fun p hp e => by
    rcases L.lO p hp e with q | q
    · exact sP _ _ _ _ (mem_of_lookup q)
    · exact pD _ _ _ _ (zW _ (mem_of_lookup q))
  refine ⟨EH jK,L.kind,fun y hy => vQ _ _ y (L.own _ hy rfl) rfl,L.loc,vY _ _ jK (fun _ _ e => nomatch e),fun y hy => ?_,fun j hj => ?_⟩
  · have hk : sc.names.lookup y = some .free \/ sc.names.lookup y = some .cell := by
      rcases hy with hy | hy
      · obtain ⟨k0,h1,h2⟩ := mj hy
        rcases h2 with h2 | ⟨_,h2⟩
        · rw [<- h2] at h1; exact .inr h1
        · rw [h2] at h1; exact .inl h1
      · obtain ⟨k0,h1,h2⟩ := mj hy
        rcases h2 with h2 | ⟨h2,_⟩
        · rw [<- h2] at h1; exact .inl h1
        · cases h2
    exact hk.imp (fun q => mZ _ _ y (mem_of_lookup q)) mem_of_lookup
  · obtain ⟨h1,h2⟩ := L.cW j hj
    have hm := mem_of_lookup h1
    have hv : (relabel bW X.env).names.lookup ((jb ++ jm.map fun j => X.N.getD j "").getD j "") = some .cell \/ (relabel bW X.env).names.lookup ((jb ++ jm.map fun j => X.N.getD j "").getD j "") = some .free := by
      rcases L.lO _ hm rfl with q | q
      · exact .inl (vB q)
      · exact oJ q
    refine ⟨_,?_,oJ h1,.inr hv,fun z => ?_,mZ _ _ _ hm⟩
    · show (jb ++ jm.map fun j => X.N.getD j "")[j]? = some _
      rw [List.getD_eq_getElem?_getD,List.getElem?_eq_getElem h2]
      rfl
    · have z' : (relabel bW X.env).names.lookup ((jb ++ jm.map fun j => X.N.getD j "").getD j "") = some .local := z
      rcases hv with q | q <;> rw [q] at z' <;> cases z'
section
variable {g : TG} {tb : TS} {D : Ends} {σ : St} {H : Hp} {ta : TA}
theorem Pl {hi : Int} (n : Nat) (h : ∀ R : List V -> Hp -> Prop,R [.int hi] H -> ta σ H R) (b : -(2 ^ 62) <= hi /\ hi < 2 ^ 62) (hn : hi.toNat = n) (Pv : Nat -> St -> Hp -> Prop) (hp : Pv 0 σ H)
    (hs : ∀ i σ H,i < n -> Pv i σ H -> g (.int (0 + i)) σ H fun bg H2 => tb { D with nx := Pv (i + 1),ct := Pv (i + 1),bk := D.nx } bg H2) (hd : ∀ σ H,Pv n σ H -> D.nx σ H) : jP (tf ta) g tb D σ H :=
  h _ ⟨hi,rfl,b.1,b.2,by rw [hn]; exact M9 Pv hp hs hd⟩
end
section
variable {X : Cx} {K : PySem.W.Frag}
theorem Pm (h : X.K = K) : qU X (yS K) := h ▸ QX
theorem Oa (h : X.K = K) : qU X (yR K) := h ▸ O7
theorem Nj (h : X.K = K) : eI X (.builtin "len") (fun xs H Q => ∃ p ys,xs = [.ref p] /\ (aD K H p ys \/ cE K H p ys) /\ Q (.int ys.length) H) := h ▸ CU
end
end L2
namespace L2
open PySem PySem.Spec PyProof.Rows
theorem ai.tup {K : PySem.W.Frag} {H H' : Hp} {a : Addr} {xs : List V} (e : ai H H') (h : cE K H a xs) : cE K H' a xs := by
  rcases h with (h | ⟨o,h⟩) | h
  · exact .inl (.inl (e _ _ h))
  · exact .inl (.inr ⟨o,e _ _ h⟩)
  · exact .inr h
theorem ai.upd {H H' : Hp} {p : Addr} {o : HO} (e : ai H H') (hp : H p = none) : ai H (L2.upd H' p o) := fun b u h => by
  rw [aP (gG h hp)]; exact e b u h
theorem ai.new {H : Hp} {p : Addr} {o : HO} (hp : H p = none) : ai H (L2.upd H p o) := (ai.refl H).upd hp
theorem ip {a : Int} (h0 : 0 <= a) (h : a < 2 ^ 60) : a.natAbs < 2 ^ 8000 := by
  have big : (2 : Nat) ^ 60 < 2 ^ 8000 := Nat.pow_lt_pow_right (by decide) (by decide)
  omega
section
variable {P : Program} {w : World} {K : PySem.W.Frag} {mg : Str -> Option Value} {base : Heap}
theorem bu.d {x qual : Str} {st : Stmt} {f : Addr} {fd : FuncData} (F : bu K x qual st f fd) : kU K x qual st .none f fd := ⟨F.ex,F.kp⟩
end
end L2
namespace L2
open PySem PySem.Spec PyProof.Rows
section
variable {X : Cx} {tg : Expr}
theorem Ob {bs : List Bool} {its : List Value} (r : Vals (bs.map V.bl) its) : PyProof.Rows.LSm.BoolsAre its bs := by
  induction bs generalizing its with
  | nil => cases r; exact .nil
  | cons y ys ih =>
    cases r with
    | cons r1 rr =>
      cases r1
      exact .cons _ (ih rr)
end
end L2
namespace L2
open PySem PySem.Spec PyProof.Rows
inductive Tr where
  | fz (d : Dv)
  | ow (ts : List Tr)
  | tp (ts : List Tr)
mutual
def Ow (K : PySem.W.Frag) (G H : Hp) : Tr -> V -> List Addr -> Prop
  | .fz d,v,fp => fp = [] /\ Hv K G d v
  | .ow ts,v,fp => ∃ a vs fq,v = .ref a /\ H a = some (.lst vs) /\ aB K G H ts vs fq /\ fp = a :: fq
  | .tp ts,v,fp => ∃ a vs fq,v = .ref a /\ H a = some (.tup vs) /\ aB K G H ts vs fq /\ fp = a :: fq
def aB (K : PySem.W.Frag) (G H : Hp) : List Tr -> List V -> List Addr -> Prop
  | [],vs,fp => vs = [] /\ fp = []
  | t :: ts,vs,fp => ∃ v r f1 f2,vs = v :: r /\ fp = f1 ++ f2 /\ Ow K G H t v f1 /\ aB K G H ts r f2
end
mutual
def er : Tr -> Dv
  | .fz d => d
  | .ow ts => .lst (cJ ts)
  | .tp ts => .tup (cJ ts)
def cJ : List Tr -> List Dv
  | [] => []
  | t :: ts => er t :: cJ ts
end
theorem iq : ∀ ts : List Tr,cJ ts = ts.map er
  | [] => rfl
  | t :: ts => by rw [cJ,iq ts]; rfl
mutual
theorem Hv.mono {K : PySem.W.Frag} {G G' : Hp} (e : ai G G') : ∀ {d : Dv} {v : V},Hv K G d v -> Hv K G' d v
  | .fl _,_,h => h
  | .lst ds,_,⟨a,xs,h1,h2,h3⟩ => ⟨a,xs,h1,e.seq h2,aI.mono e h3⟩
  | .tup ds,_,⟨a,xs,h1,h2,h3⟩ => ⟨a,xs,h1,e.tup h2,aI.mono e h3⟩
theorem aI.mono {K : PySem.W.Frag} {G G' : Hp} (e : ai G G') : ∀ {ds : List Dv} {vs : List V},aI K G ds vs -> aI K G' ds vs
  | [],_,h => h
  | _ :: _,_,⟨x,r,h1,h2,h3⟩ => ⟨x,r,h1,h2.mono e,aI.mono e h3⟩
end
mutual
theorem Ow.mono {K : PySem.W.Frag} {G G' H H' : Hp} (e : ai G G') (e' : ai H H') : ∀ {t : Tr} {v : V} {fp : List Addr},Ow K G H t v fp -> Ow K G' H' t v fp
  | .fz _,_,_,⟨h1,h2⟩ => ⟨h1,h2.mono e⟩
  | .ow _,_,_,⟨a,vs,fq,h1,h2,h3,h4⟩ => ⟨a,vs,fq,h1,e' _ _ h2,aB.mono e e' h3,h4⟩
  | .tp _,_,_,⟨a,vs,fq,h1,h2,h3,h4⟩ => ⟨a,vs,fq,h1,e' _ _ h2,aB.mono e e' h3,h4⟩
theorem aB.mono {K : PySem.W.Frag} {G G' H H' : Hp} (e : ai G G') (e' : ai H H') : ∀ {ts : List Tr} {vs : List V} {fp : List Addr},aB K G H ts vs fp -> aB K G' H' ts vs fp
  | [],_,_,h => h
  | _ :: _,_,_,⟨v,r,f1,f2,h1,h2,h3,h4⟩ => ⟨v,r,f1,f2,h1,h2,h3.mono e e',aB.mono e e' h4⟩
end
mutual
theorem Ow.frame {K : PySem.W.Frag} {G H : Hp} {a : Addr} {o : HO} : ∀ {t : Tr} {v : V} {fp : List Addr},Ow K G H t v fp -> a ∉ fp -> Ow K G (upd H a o) t v fp
  | .fz _,_,_,h,_ => h
  | .ow _,_,_,⟨b,vs,fq,h1,h2,h3,h4⟩,n => by
    subst h4
    refine ⟨b,vs,fq,h1,?_,aB.frame h3 fun z => n (.tail _ z),rfl⟩
    rw [aP fun z => n (by rw [z]; exact .head _)]
    exact h2
  | .tp _,_,_,⟨b,vs,fq,h1,h2,h3,h4⟩,n => by
    subst h4
    refine ⟨b,vs,fq,h1,?_,aB.frame h3 fun z => n (.tail _ z),rfl⟩
    rw [aP fun z => n (by rw [z]; exact .head _)]
    exact h2
theorem aB.frame {K : PySem.W.Frag} {G H : Hp} {a : Addr} {o : HO} : ∀ {ts : List Tr} {vs : List V} {fp : List Addr},aB K G H ts vs fp -> a ∉ fp -> aB K G (upd H a o) ts vs fp
  | [],_,_,h,_ => h
  | _ :: _,_,_,⟨v,r,f1,f2,h1,h2,h3,h4⟩,n => by
    subst h2
    exact ⟨v,r,f1,f2,h1,rfl,h3.frame fun z => n (List.mem_append_left _ z),aB.frame h4 fun z => n (List.mem_append_right _ z)⟩
end
mutual
theorem Ow.there {K : PySem.W.Frag} {G H : Hp} : ∀ {t : Tr} {v : V} {fp : List Addr},Ow K G H t v fp -> ∀ a ∈ fp,∃ o,H a = some o
  | .fz _,_,_,⟨h,_⟩,a,ha => by subst h; cases ha
  | .ow _,_,_,⟨b,vs,fq,h1,h2,h3,h4⟩,a,ha => by
    subst h4
    rcases List.mem_cons.mp ha with rfl | ha
    · exact ⟨_,h2⟩
    · exact aB.there h3 a ha
  | .tp _,_,_,⟨b,vs,fq,h1,h2,h3,h4⟩,a,ha => by
    subst h4
    rcases List.mem_cons.mp ha with rfl | ha
    · exact ⟨_,h2⟩
    · exact aB.there h3 a ha
theorem aB.there {K : PySem.W.Frag} {G H : Hp} : ∀ {ts : List Tr} {vs : List V} {fp : List Addr},aB K G H ts vs fp -> ∀ a ∈ fp,∃ o,H a = some o
  | [],_,_,⟨_,h⟩,a,ha => by subst h; cases ha
  | _ :: _,_,_,⟨v,r,f1,f2,h1,h2,h3,h4⟩,a,ha => by
    subst h2
    rcases List.mem_append.mp ha with ha | ha
    · exact h3.there a ha
    · exact aB.there h4 a ha
end
mutual
theorem Ow.hv {K : PySem.W.Frag} {G H G' : Hp} (e : ai G G') : ∀ {t : Tr} {v : V} {fp : List Addr},Ow K G H t v fp -> (∀ a ∈ fp,G' a = H a) -> Hv K G' (er t) v
  | .fz _,_,_,⟨_,h⟩,_ => h.mono e
  | .ow _,_,_,⟨b,vs,fq,h1,h2,h3,h4⟩,q => by
    subst h4
    exact ⟨b,vs,h1,aD.of ((q b (.head _)).trans h2),aB.hv e h3 fun a ha => q a (.tail _ ha)⟩
  | .tp _,_,_,⟨b,vs,fq,h1,h2,h3,h4⟩,q => by
    subst h4
    exact ⟨b,vs,h1,cE.of ((q b (.head _)).trans h2),aB.hv e h3 fun a ha => q a (.tail _ ha)⟩
theorem aB.hv {K : PySem.W.Frag} {G H G' : Hp} (e : ai G G') : ∀ {ts : List Tr} {vs : List V} {fp : List Addr},aB K G H ts vs fp -> (∀ a ∈ fp,G' a = H a) -> aI K G' (cJ ts) vs
  | [],_,_,⟨h,_⟩,_ => h
  | _ :: _,_,_,⟨v,r,f1,f2,h1,h2,h3,h4⟩,q => by
    subst h2
    exact ⟨v,r,h1,h3.hv e fun a ha => q a (List.mem_append_left _ ha),aB.hv e h4 fun a ha => q a (List.mem_append_right _ ha)⟩
end
theorem aB.length {K : PySem.W.Frag} {G H : Hp} : ∀ {ts : List Tr} {vs : List V} {fp : List Addr},aB K G H ts vs fp -> ts.length = vs.length
  | [],_,_,⟨h,_⟩ => by subst h; rfl
  | _ :: _,_,_,⟨v,r,f1,f2,h1,h2,h3,h4⟩ => by subst h1; rw [List.length_cons,List.length_cons,aB.length h4]
theorem aB.append {K : PySem.W.Frag} {G H : Hp} : ∀ {ts us : List Tr} {vs ws : List V} {f1 f2 : List Addr},aB K G H ts vs f1 -> aB K G H us ws f2 -> aB K G H (ts ++ us) (vs ++ ws) (f1 ++ f2)
  | [],us,_,ws,_,f2,⟨h,h'⟩,q => by subst h h'; exact q
  | _ :: _,us,_,ws,_,f2,⟨v,r,g1,g2,h1,h2,h3,h4⟩,q => by
    subst h1 h2
    exact ⟨v,r ++ ws,g1,g2 ++ f2,rfl,by rw [List.append_assoc],h3,aB.append h4 q⟩
theorem aI.eO {K : PySem.W.Frag} {G H : Hp} : ∀ {ds : List Dv} {vs : List V},aI K G ds vs -> aB K G H (ds.map .fz) vs []
  | [],_,h => ⟨h,rfl⟩
  | _ :: _,_,⟨x,r,h1,h2,h3⟩ => ⟨x,r,[],[],h1,rfl,⟨rfl,h2⟩,aI.eO h3⟩
structure Step (G H G' H' : Hp) : Prop where
  g : ai G G'
  h : ai H H'
  s : ai G' H'
  n : ∀ a,G a = none -> G' a ≠ none -> H a = none
theorem Step.refl {G H : Hp} (s : ai G H) : Step G H G H := ⟨ai.refl _,ai.refl _,s,fun a h h' => absurd h h'⟩
theorem Step.trans {G H G1 H1 G2 H2 : Hp} (a : Step G H G1 H1) (b : Step G1 H1 G2 H2) : Step G H G2 H2 :=
  ⟨a.g.trans b.g,a.h.trans b.h,b.s,fun x h h' => by
    cases q : G1 x with
    | none => exact a.h.free (b.n x q h')
    | some o => exact a.n x h (by rw [q]; exact fun z => nomatch z)⟩
theorem ai.SW {G H : Hp} {p : Addr} {o : HO} (s : ai G H) : ai (L2.upd G p o) (L2.upd H p o) := fun b u h => by
  unfold L2.upd at h ⊢
  split
  · rename_i e; rw [if_pos e] at h; exact h
  · rename_i e; rw [if_neg e] at h; exact s b u h
theorem Step.new {G H : Hp} {p : Addr} {o : HO} (s : ai G H) (hp : H p = none) : Step G H (upd G p o) (upd H p o) :=
  ⟨ai.new (s.free hp),ai.new hp,s.SW,fun a h h' => by
    by_cases e : a = p
    · subst e; exact hp
    · rw [aP e] at h'; exact absurd h h'⟩
theorem Step.gD {G H : Hp} {p : Addr} {o : HO} (s : ai G H) (hp : H p = none) : Step G H G (upd H p o) :=
  ⟨ai.refl _,ai.new hp,s.trans (ai.new hp),fun a h h' => absurd h h'⟩
structure Nw (H G' : Hp) (fq : List Addr) : Prop where
  n : ∀ a ∈ fq,H a = none
  g : ∀ a ∈ fq,G' a = none
  d : fq.Nodup
theorem Nw.nil {H G : Hp} : Nw H G [] := ⟨fun _ h => (nomatch h),fun _ h => (nomatch h),.nil⟩
def Kv (K : PySem.W.Frag) (G H : Hp) (t : Tr) (Q : VK) : Prop := ∀ v G' H' fq,Step G H G' H' -> Ow K G' H' t v fq -> Nw H G' fq -> Q v H'
theorem Kv.step {K : PySem.W.Frag} {G H G1 H1 : Hp} {t : Tr} {Q : VK} (k : Kv K G H t Q) (e : Step G H G1 H1) : Kv K G1 H1 t Q := fun v G' H' fq st o w =>
  k v G' H' fq (e.trans st) o ⟨fun a ha => e.h.free (w.n a ha),w.g,w.d⟩
def ef (G H : Hp) (fq : List Addr) : Hp := fun a => if a ∈ fq then H a else G a
theorem iU {G H : Hp} {fq : List Addr} {a : Addr} (h : a ∈ fq) : ef G H fq a = H a := by unfold ef; rw [if_pos h]
theorem m7 {G H : Hp} {fq : List Addr} {a : Addr} (h : a ∉ fq) : ef G H fq a = G a := by unfold ef; rw [if_neg h]
theorem ik {G H : Hp} {fq : List Addr} (h : ∀ a ∈ fq,G a = none) : ai G (ef G H fq) := fun b o e => by
  by_cases q : b ∈ fq
  · rw [h b q] at e; cases e
  · rw [m7 q]; exact e
theorem ph {G H : Hp} {fq : List Addr} (s : ai G H) : ai (ef G H fq) H := fun b o e => by
  by_cases q : b ∈ fq
  · rw [iU q] at e; exact e
  · rw [m7 q] at e; exact s b o e
theorem Step.dg {G H G' H' : Hp} {fq : List Addr} (e : Step G H G' H') (w : Nw H G' fq) : Step G H (ef G' H' fq) H' :=
  ⟨e.g.trans (ik w.g),e.h,ph e.s,fun a h h' => by
    by_cases q : a ∈ fq
    · exact w.n a q
    · rw [m7 q] at h'; exact e.n a h h'⟩
structure aU (ι : Type) where
  cx : ι -> Cx
  P : Program
  w : World
  K : PySem.W.Frag
  mg : Str -> Option Value
  base : Heap
  room : Nat
  hP : ∀ i,(cx i).prog = P
  hw : ∀ i,(cx i).w = w
  hK : ∀ i,(cx i).K = K
  hm : ∀ i,(cx i).mg = mg
  hb : ∀ i,(cx i).base = base
  hr : ∀ i,cN room (cx i).A
  calm : ∀ i,(cx i).calm = true
abbrev En := List (Option Tr)
def bS (K : PySem.W.Frag) (G : Hp) (ρ : En) (σ : St) : Prop := ∀ (j : Nat) (d : Dv),ρ[j]? = some (some (Tr.fz d)) -> ∃ v,σ[j]? = some (some v) /\ Hv K G d v
theorem bS.mono {K : PySem.W.Frag} {G G' : Hp} {ρ : En} {σ : St} (e : ai G G') (r : bS K G ρ σ) : bS K G' ρ σ := fun j d h => by
  obtain ⟨v,h1,h2⟩ := r j d h
  exact ⟨v,h1,h2.mono e⟩
section
variable {ι : Type}
def Ev (F : aU ι) (e : Expr) (ρ : En) (t : Tr) : Prop := ∃ τ : TE,(∀ i,PE (F.cx i) e τ) /\ ∀ σ G H Q,ai G H -> bS F.K G ρ σ -> Kv F.K G H t Q -> τ σ H Q
def Et (F : aU ι) (e : Expr) (ρ : En) (b : Bool) : Prop := ∃ τ : TT,(∀ i,PT (F.cx i) e τ) /\ ∀ σ G H Q,ai G H -> bS F.K G ρ σ -> (∀ G' H',Step G H G' H' -> Q b H') -> τ σ H Q
def fK (F : aU ι) (es : List Expr) (ρ : En) (ts : List Tr) : Prop := ∃ τ : TA,(∀ i,PA (F.cx i) es τ) /\ ∀ σ G H Q,ai G H -> bS F.K G ρ σ ->
  (∀ vs G' H' fq,Step G H G' H' -> aB F.K G' H' ts vs fq -> Nw H G' fq -> Q vs H') -> τ σ H Q
variable {F : aU ι} {e a b : Expr} {es : List Expr} {ρ : En} {t ta tb : Tr} {ts : List Tr}
theorem Ev.use (h : Ev F e ρ t) : ∃ τ : TE,(∀ i,PE (F.cx i) e τ) /\ ∀ σ G H (Q : VK),ai G H -> bS F.K G ρ σ -> (∀ v G' H',Step G H G' H' -> Hv F.K G' (er t) v -> Q v H') -> τ σ H Q := by
  obtain ⟨τ,p,q⟩ := h
  refine ⟨τ,p,fun σ G H Q s r k => q σ G H Q s r fun v G' H' fq st o w => ?_⟩
  exact k v (ef G' H' fq) H' (st.dg w) (o.hv (ik w.g) fun a ha => iU ha)
theorem Ev.fz (h : Ev F e ρ t) : Ev F e ρ (.fz (er t)) := by
  obtain ⟨τ,p,q⟩ := h.use
  exact ⟨τ,p,fun σ G H Q s r k => q σ G H Q s r fun v G' H' st hv => k v G' H' [] st ⟨rfl,hv⟩ .nil⟩
theorem Ev.as {d : Dv} (h : Ev F e ρ t) (ed : er t = d) : Ev F e ρ (.fz d) := ed ▸ h.fz
theorem fK.use (h : fK F es ρ ts) : ∃ τ : TA,(∀ i,PA (F.cx i) es τ) /\ ∀ σ G H (Q : List V -> Hp -> Prop),ai G H -> bS F.K G ρ σ -> (∀ vs G' H',Step G H G' H' -> aI F.K G' (cJ ts) vs -> Q vs H') -> τ σ H Q := by
  obtain ⟨τ,p,q⟩ := h
  refine ⟨τ,p,fun σ G H Q s r k => q σ G H Q s r fun v G' H' fq st o w => ?_⟩
  exact k v (ef G' H' fq) H' (st.dg w) (o.hv (ik w.g) fun a ha => iU ha)
theorem av : fK F [] ρ [] := ⟨cm,fun i => cB,fun σ G H Q s r k => k [] G H [] (.refl s) ⟨rfl,rfl⟩ .nil⟩
theorem Nw.app {H G1 H1 G2 : Hp} {f1 f2 : List Addr} (w1 : Nw H G1 f1) (w2 : Nw H1 G2 f2) (hh : ai H H1) (th : ∀ a ∈ f1,∃ o,H1 a = some o) (hg : ∀ a,G1 a = none -> G2 a ≠ none -> H1 a = none) : Nw H G2 (f1 ++ f2) :=
  ⟨fun a ha => (List.mem_append.mp ha).elim (w1.n a) fun z => hh.free (w2.n a z),fun a ha => (List.mem_append.mp ha).elim (fun z => by
      cases q : G2 a with
      | none => rfl
      | some o =>
        obtain ⟨u,hu⟩ := th a z
        have := hg a (w1.g a z) (by rw [q]; exact fun z => nomatch z)
        rw [hu] at this; cases this) (w2.g a),
    List.nodup_append.mpr ⟨w1.d,w2.d,fun a ha b hb e => by
      subst e
      obtain ⟨u,hu⟩ := th a ha
      rw [w2.n a hb] at hu; cases hu⟩⟩
theorem ah (ha : Ev F e ρ t) (hr : fK F es ρ ts) (hs : ∀ i,starEach (e :: es) (F.cx i).env = (false,eval e (F.cx i).env) :: starEach es (F.cx i).env := by intro _; rfl) : fK F (e :: es) ρ (t :: ts) := by
  obtain ⟨τ,p,q⟩ := ha
  obtain ⟨bT,p',q'⟩ := hr
  refine ⟨bt τ bT,fun i => bB (p i) (p' i) (hs i),fun σ G H Q s r k => ?_⟩
  refine q σ G H _ s r fun v G1 H1 f1 s1 o1 w1 => q' σ G1 H1 _ s1.s (r.mono s1.g) fun vs G2 H2 f2 s2 o2 w2 => ?_
  exact k (v :: vs) G2 H2 (f1 ++ f2) (s1.trans s2) ⟨v,vs,f1,f2,rfl,rfl,o1.mono s2.g s2.h,o2⟩ (w1.app w2 s1.h (fun a ha => o1.there a ha) s2.n)
end
end L2
namespace L2
open PySem PySem.Spec PyProof.Rows
abbrev di (n : Int) : Dv := .fl (.int n)
abbrev db (b : Bool) : Dv := .fl (.bl b)
abbrev dn : Dv := .fl .aF
abbrev ds (x : Str) : Dv := .fl (.str x)
abbrev dis (ns : List Int) : Dv := .lst (ns.map di)
abbrev ti (n : Int) : Tr := .fz (di n)
abbrev tb (b : Bool) : Tr := .fz (db b)
abbrev tn : Tr := .fz dn
abbrev tx (x : Str) : Tr := .fz (ds x)
theorem Kv.sc {K : PySem.W.Frag} {G H : Hp} {v : V} {Q : VK} (k : Kv K G H (.fz (.fl v)) Q) (s : ai G H) (f : dY v = true) : Q v H := k v G H [] (.refl s) ⟨rfl,rfl,f⟩ .nil
theorem Kv.dat {K : PySem.W.Frag} {G H : Hp} {d : Dv} {v : V} {Q : VK} (k : Kv K G H (.fz d) Q) (s : ai G H) (h : Hv K G d v) : Q v H := k v G H [] (.refl s) ⟨rfl,h⟩ .nil
theorem Kv.lst {K : PySem.W.Frag} {G H : Hp} {ts : List Tr} {vs : List V} {Q : VK} (k : Kv K G H (.ow ts) Q) (s : ai G H) (h : aB K G H ts vs []) {p : Addr} (hp : H p = none) : Q (.ref p) (upd H p (.lst vs)) :=
  k (.ref p) G _ [p] (.gD s hp) ⟨p,vs,[],rfl,ck,h.mono (ai.refl _) (ai.new hp),rfl⟩ ⟨fun a ha => by rw [List.mem_singleton.mp ha]; exact hp,fun a ha => by rw [List.mem_singleton.mp ha]; exact s.free hp,by simp⟩
theorem aO {K : PySem.W.Frag} {G : Hp} {v x : V} (h : Hv K G (.fl v) x) : x = v := h.1
section
variable {ι : Type} {F : aU ι} {e a b c : Expr} {es : List Expr} {ρ : En} {t ta bZ : Tr} {ts : List Tr} {pos : Pos}
theorem ae (j : Nat) {d : Dv} {x : Str} (h : ρ[j]? = some (some (.fz d))) (hN : ∀ i,(F.cx i).N[j]? = some x := by intro _; rfl)
    (hv : ∀ i,gS (F.cx i).env.scope x := by intro _; first | exact Or.inl rfl | exact Or.inr (Or.inl rfl) | exact Or.inr (Or.inr rfl)) (hd : (x == ("__debug__" : Str)) = false := by decide) (hc : (x == ("__classdict__" : Str)) = false := by decide) : Ev F (.Name x pos) ρ (.fz d) :=
  ⟨bb j,fun i => kC (hN i) (hv i) hd hc,fun σ G H Q s r k => by
    obtain ⟨v,h1,h2⟩ := r j d h
    exact ⟨v,h1,k.dat s h2⟩⟩
theorem au {n : Int} {j : Nat} : Ev F (.Constant (.int n) j pos) ρ (ti n) := ⟨_,fun i => sN,fun σ G H Q s r k => k.sc s rfl⟩
theorem Q7 {j : Nat} : Ev F (.Constant .none j pos) ρ tn := ⟨_,fun i => QK,fun σ G H Q s r k => k.sc s rfl⟩
theorem iV {n : Str} {j : Nat} : Ev F (.Constant (.str n) j pos) ρ (tx n) := ⟨_,fun i => Fm,fun σ G H Q s r k => k.sc s rfl⟩
theorem pG {x : Str} {v : V} {u : Value} (hm : F.mg x = some u) (r : RelV v u) (f : dY v = true) (hg : ∀ i,Gl (F.cx i) x := by intro _; rfl) (hd : (x == ("__debug__" : Str)) = false := by decide) : Ev F (.Name x pos) ρ (.fz (.fl v)) :=
  ⟨tC v,fun i => OX (hg i) ((F.hm i).symm ▸ hm) r hd,fun σ G H Q s _ k => k.sc s f⟩
theorem nB {op : Operator} {r : R2} (ho : ∀ i,cQ (F.cx i) (binaryOp op) r) (ha : Ev F a ρ ta) (hb : Ev F b ρ bZ)
    (h : ∀ G H x y Q,ai G H -> Hv F.K G (er ta) x -> Hv F.K G (er bZ) y -> Kv F.K G H t Q -> r x y H Q) : Ev F (.BinOp a op b pos) ρ t := by
  obtain ⟨τ,p,q⟩ := ha.use
  obtain ⟨bT,p',q'⟩ := hb.use
  refine ⟨gX r τ bT,fun i => GU (ho i) (p i) (p' i),fun σ G H Q s rr k => ?_⟩
  refine q σ G H _ s rr fun x G1 H1 s1 hx => q' σ G1 H1 _ s1.s (rr.mono s1.g) fun y G2 H2 s2 hy => ?_
  exact h G2 H2 x y Q s2.s (hx.mono s2.g) hy (k.step (s1.trans s2))
theorem fc {i j : Int} (ha : Ev F a ρ (ti i)) (hb : Ev F b ρ (ti j)) : Ev F (.BinOp a .Add b pos) ρ (ti (i + j)) := nB (fun _ => Ft) ha hb fun G H x y Q s hx hy k => ⟨i,j,aO hx,aO hy,k.sc s rfl⟩
theorem Q8 {i j : Int} (ha : Ev F a ρ (ti i)) (hb : Ev F b ρ (ti j)) : Ev F (.BinOp a .Sub b pos) ρ (ti (i - j)) := nB (fun _ => QR) ha hb fun G H x y Q s hx hy k => ⟨i,j,aO hx,aO hy,k.sc s rfl⟩
theorem nC {i j : Int} (ha : Ev F a ρ (ti i)) (hb : Ev F b ρ (ti j)) (hc : He i j) : Ev F (.BinOp a .Mult b pos) ρ (ti (i * j)) := nB (fun _ => Pg) ha hb fun G H x y Q s hx hy k => ⟨i,j,aO hx,aO hy,hc,k.sc s rfl⟩
theorem iw {i j : Int} (ha : Ev F a ρ (ti i)) (hb : Ev F b ρ (ti j)) (hc : qh i j) : Ev F (.BinOp a .FloorDiv b pos) ρ (ti (i / j)) := nB (fun _ => N7) ha hb fun G H x y Q s hx hy k => ⟨i,j,aO hx,aO hy,hc,k.sc s rfl⟩
theorem eS {i j : Int} (ha : Ev F a ρ (ti i)) (hb : Ev F b ρ (ti j)) (hc : 0 < j) : Ev F (.BinOp a .Mod b pos) ρ (ti (i % j)) := nB (fun _ => QS) ha hb fun G H x y Q s hx hy k => ⟨i,j,aO hx,aO hy,hc,k.sc s rfl⟩
theorem iz {xs ys : List Dv} (ha : Ev F a ρ ta) (hb : Ev F b ρ bZ) (ea : er ta = .lst xs) (eb : er bZ = .lst ys) (hz : xs.length + ys.length <= sizeLine) : Ev F (.BinOp a .Add b pos) ρ (.ow ((xs ++ ys).map .fz)) :=
  nB (r := Hf F.K) (fun i => F.hK i ▸ Ph) ha hb fun G H x y Q s hx hy k => by
    rw [ea] at hx
    rw [eb] at hy
    obtain ⟨l,vs,rfl,h1,h2⟩ := hx
    obtain ⟨l',ws,rfl,h3,h4⟩ := hy
    refine ⟨l,l',vs,ws,rfl,rfl,s.seq h1,s.seq h3,by rw [<- h2.length,<- h4.length]; exact hz,fun p hp => ?_⟩
    refine k.lst s ?_ hp
    rw [List.map_append]
    exact h2.eO.append h4.eO
theorem pX {op : CmpOp} {r : R2} {c : Bool} (ho : ∀ i,cQ (F.cx i) (compareOp op) r) (ha : Ev F a ρ ta) (hb : Ev F b ρ bZ)
    (h : ∀ G H x y (Q : VK),ai G H -> Hv F.K G (er ta) x -> Hv F.K G (er bZ) y -> Q (.bl c) H -> r x y H Q) (hm : behindInMarks op b = false) : Ev F (.Compare a [op] [b] pos) ρ (tb c) := by
  obtain ⟨τ,p,q⟩ := ha.use
  obtain ⟨bT,p',q'⟩ := hb.use
  refine ⟨gX r τ bT,fun i => O0 (ho i) (p i) (p' i) hm,fun σ G H Q s rr k => ?_⟩
  refine q σ G H _ s rr fun x G1 H1 s1 hx => q' σ G1 H1 _ s1.s (rr.mono s1.g) fun y G2 H2 s2 hy => ?_
  exact h G2 H2 x y Q s2.s (hx.mono s2.g) hy ((k.step (s1.trans s2)).sc s2.s rfl)
theorem iW {op : CmpOp} {r : R2} {c : Bool} (ho : ∀ i,cQ (F.cx i) (compareOp op) r) (ha : Ev F a ρ ta) (hb : Ev F b ρ bZ)
    (h : ∀ G H x y (Q : VK),ai G H -> Hv F.K G (er ta) x -> Hv F.K G (er bZ) y -> Q (.bl c) H -> r x y H Q) (hm : behindInMarks op b = false) : Et F (.Compare a [op] [b] pos) ρ c := by
  obtain ⟨τ,p,q⟩ := ha.use
  obtain ⟨bT,p',q'⟩ := hb.use
  refine ⟨GY (gX r τ bT),fun i => O1 (ho i) (p i) (p' i) hm,fun σ G H Q s rr k => ?_⟩
  refine q σ G H _ s rr fun x G1 H1 s1 hx => q' σ G1 H1 _ s1.s (rr.mono s1.g) fun y G2 H2 s2 hy => ?_
  exact h G2 H2 x y _ s2.s (hx.mono s2.g) hy ⟨c,rfl,k G2 H2 (s1.trans s2)⟩
theorem qj {i j : Int} (ha : Ev F a ρ (ti i)) (hb : Ev F b ρ (ti j)) : Et F (.Compare a [.Lt] [b] pos) ρ (decide (i < j)) := iW (fun _ => GV) ha hb (fun G H x y Q s hx hy k => ⟨i,j,aO hx,aO hy,k⟩) (fO _)
theorem jN {i j : Int} (ha : Ev F a ρ (ti i)) (hb : Ev F b ρ (ti j)) : Et F (.Compare a [.Gt] [b] pos) ρ (decide (j < i)) := iW (fun _ => GW) ha hb (fun G H x y Q s hx hy k => ⟨i,j,aO hx,aO hy,k⟩) (fO _)
theorem R4 {i j : Int} (ha : Ev F a ρ (ti i)) (hb : Ev F b ρ (ti j)) : Et F (.Compare a [.GtE] [b] pos) ρ (decide (j <= i)) := iW (fun _ => GX) ha hb (fun G H x y Q s hx hy k => ⟨i,j,aO hx,aO hy,k⟩) (fO _)
theorem nR {i j : Int} (ha : Ev F a ρ (ti i)) (hb : Ev F b ρ (ti j)) : Et F (.Compare a [.Eq] [b] pos) ρ (decide (i = j)) := iW (fun _ => x5) ha hb (fun G H x y Q s hx hy k => by
  rw [aO hx,aO hy]; exact ⟨rfl,by simpa using k⟩) (fO _)
theorem Hi {i j : Int} (ha : Ev F a ρ (ti i)) (hb : Ev F b ρ (ti j)) : Et F (.Compare a [.NotEq] [b] pos) ρ (!decide (i = j)) := iW (fun _ => RX) ha hb (fun G H x y Q s hx hy k => by
  rw [aO hx,aO hy]; exact ⟨rfl,by simpa using k⟩) (fO _)
theorem yb {i j : Int} (ha : Ev F a ρ (ti i)) (hb : Ev F b ρ (ti j)) : Ev F (.Compare a [.Lt] [b] pos) ρ (tb (decide (i < j))) := pX (fun _ => GV) ha hb (fun G H x y Q s hx hy k => ⟨i,j,aO hx,aO hy,k⟩) (fO _)
theorem R5 {i j : Int} (ha : Ev F a ρ (ti i)) (hb : Ev F b ρ (ti j)) : Ev F (.Compare a [.Gt] [b] pos) ρ (tb (decide (j < i))) := pX (fun _ => GW) ha hb (fun G H x y Q s hx hy k => ⟨i,j,aO hx,aO hy,k⟩) (fO _)
theorem R6 {i j : Int} (ha : Ev F a ρ (ti i)) (hb : Ev F b ρ (ti j)) : Ev F (.Compare a [.GtE] [b] pos) ρ (tb (decide (j <= i))) := pX (fun _ => GX) ha hb (fun G H x y Q s hx hy k => ⟨i,j,aO hx,aO hy,k⟩) (fO _)
theorem Hj {i j : Int} (ha : Ev F a ρ (ti i)) (hb : Ev F b ρ (ti j)) : Ev F (.Compare a [.Eq] [b] pos) ρ (tb (decide (i = j))) := pX (fun _ => x5) ha hb (fun G H x y Q s hx hy k => by
  rw [aO hx,aO hy]; exact ⟨rfl,by simpa using k⟩) (fO _)
def xJ (d e : Dv) : Prop := (∃ xs ys,d = .lst xs /\ e = .lst ys) \/ ∃ xs ys,d = .tup xs /\ e = .tup ys
theorem sQ (ha : Ev F a ρ ta) (hb : Ev F b ρ bZ) (hk : xJ (er ta) (er bZ)) (hd : cS (er ta) <= 50) : Et F (.Compare a [.Eq] [b] pos) ρ (bR (er ta) (er bZ)) :=
  iW (r := qC F.K false) (fun i => F.hK i ▸ FA (F.hr i).units) ha hb (fun G H x y Q s hx hy k => ⟨_,_,hk,hx.mono s,hy.mono s,hd,k⟩) (fO _)
theorem sR (ha : Ev F a ρ ta) (hb : Ev F b ρ bZ) (hk : xJ (er ta) (er bZ)) (hd : cS (er ta) <= 50) : Et F (.Compare a [.NotEq] [b] pos) ρ (!bR (er ta) (er bZ)) :=
  iW (r := qC F.K true) (fun i => F.hK i ▸ Q1 (F.hr i).units) ha hb (fun G H x y Q s hx hy k => ⟨_,_,hk,hx.mono s,hy.mono s,hd,k⟩) (fO _)
theorem FD (ha : Ev F a ρ ta) (hb : Ev F b ρ bZ) (hk : xJ (er ta) (er bZ)) (hd : cS (er ta) <= 50) : Ev F (.Compare a [.Eq] [b] pos) ρ (tb (bR (er ta) (er bZ))) :=
  pX (r := qC F.K false) (fun i => F.hK i ▸ FA (F.hr i).units) ha hb (fun G H x y Q s hx hy k => ⟨_,_,hk,hx.mono s,hy.mono s,hd,k⟩) (fO _)
theorem sj {K : PySem.W.Frag} {G : Hp} : ∀ {ns : List Int} {vs : List V},aI K G (ns.map di) vs -> vs = ns.map V.int
  | [],_,h => h
  | _ :: _,_,⟨x,r,h1,h2,h3⟩ => by subst h1; rw [aO h2,sj h3]; rfl
theorem sk {K : PySem.W.Frag} {G : Hp} : ∀ {ns : List Int},aI K G (ns.map di) (ns.map V.int)
  | [] => rfl
  | _ :: _ => ⟨_,_,rfl,⟨rfl,rfl⟩,sk⟩
theorem DQ (n : Int) : ∀ ns : List Int,t8 (.int n) (ns.map V.int) = ns.any fun m => m == n
  | [] => rfl
  | m :: ms => by
    show (cX (.int m) (.int n) || t8 (.int n) (ms.map V.int)) = _
    rw [DQ n ms]; rfl
theorem Nk (ns : List Int) : (ns.map V.int).all dY = true := by rw [List.all_map]; exact List.all_eq_true.mpr fun _ _ => rfl
theorem LU (n : Int) (ns : List Int) : (ns.any fun m => m == n) = ns.contains n := by
  induction ns with
  | nil => rfl
  | cons m ms ih => rw [List.any_cons,ih,List.contains_cons]; congr 1; exact Bool.beq_comm
theorem Q9 {n : Int} {ns : List Int} {neg : Bool} (eb : er bZ = dis ns) {G H : Hp} {x y : V} {Q : VK} (s : ai G H) (hx : Hv F.K G (er (ti n)) x) (hy : Hv F.K G (er bZ) y) (k : Q (.bl (if neg then !ns.contains n else ns.contains n)) H) : zD F.K neg x y H Q := by
  rw [eb] at hy
  obtain ⟨l,vs,rfl,h1,h2⟩ := hy
  have := sj h2
  subst this
  rw [aO hx]
  refine ⟨l,_,rfl,.inl (s.seq h1),rfl,Nk ns,?_⟩
  rw [DQ,LU]
  exact k
theorem pj {n : Int} {ns : List Int} (ha : Ev F a ρ (ti n)) (hb : Ev F b ρ bZ) (eb : er bZ = dis ns) (hm : behindInMarks .NotIn b = false) : Et F (.Compare a [.NotIn] [b] pos) ρ (!ns.contains n) :=
  iW (r := zD F.K true) (fun i => F.hK i ▸ LQ) ha hb (fun G H x y Q s hx hy k => Q9 eb s hx hy k) hm
theorem gI {c : Bool} (h : Ev F e ρ (tb c)) (he : ∀ i whole,isTrue e (F.cx i).env whole = (do let v <- whole; standAt e.pos; holding [v] (truthy v)) := by intro _ _; rfl) : Et F e ρ c := by
  obtain ⟨τ,p,q⟩ := h
  exact ⟨tB τ,fun i => QL (p i) (he i),fun σ G H Q s r k => q σ G H _ s r fun v G' H' fq st o w => ⟨c,aO o.2,k G' H' st⟩⟩
def Ew (F : aU ι) (e : Expr) (ρ : En) (b : Bool) : Prop := ∃ τ : TT,(∀ i,PW (F.cx i) e τ) /\ ∀ σ G H Q,ai G H -> bS F.K G ρ σ -> (∀ G' H',Step G H G' H' -> Q b H') -> τ σ H Q
theorem Ew.et {p : Bool} (h : Ew F e ρ p) : Et F e ρ p := let ⟨τ,a,b⟩ := h; ⟨τ,fun i => (a i).pt,b⟩
theorem DR {X : Cx} : PW X e (fun _ _ _ => False) := fun _ _ _ _ _ _ _ h => h.elim
theorem EI {p : Bool} (h : Et F a ρ p) : Ew F (.BoolOp .And [a] pos) ρ p := let ⟨τ,x,y⟩ := h; ⟨τ,fun i => OZ (x i),y⟩
theorem nD {p : Bool} (h : Et F a ρ p) : Ew F (.BoolOp .Or [a] pos) ρ p := let ⟨τ,x,y⟩ := h; ⟨τ,fun i => QM (x i),y⟩
theorem FE {p q : Bool} {rest : List Expr} (h : Et F a ρ p) (h2 : p = true -> Ew F (.BoolOp .And (b :: rest) pos) ρ q) : Ew F (.BoolOp .And (a :: b :: rest) pos) ρ (p && q) := by
  obtain ⟨τ,x,y⟩ := h
  cases p with
  | false => exact ⟨yG τ _,fun i => Fo (x i) DR,fun σ G H Q s r k => y σ G H _ s r fun G' H' st => ja (k G' H' st)⟩
  | true =>
    obtain ⟨bT,x',y'⟩ := h2 rfl
    exact ⟨yG τ bT,fun i => Fo (x i) (x' i),fun σ G H Q s r k => y σ G H _ s r fun G1 H1 s1 => jQ (y' σ G1 H1 _ s1.s (r.mono s1.g) fun G2 H2 s2 => k G2 H2 (s1.trans s2))⟩
theorem kL {p q : Bool} {rest : List Expr} (h : Et F a ρ p) (h2 : p = false -> Ew F (.BoolOp .Or (b :: rest) pos) ρ q) : Ew F (.BoolOp .Or (a :: b :: rest) pos) ρ (p || q) := by
  obtain ⟨τ,x,y⟩ := h
  cases p with
  | true => exact ⟨zr τ _,fun i => GO (x i) DR,fun σ G H Q s r k => y σ G H _ s r fun G' H' st => jQ (k G' H' st)⟩
  | false =>
    obtain ⟨bT,x',y'⟩ := h2 rfl
    exact ⟨zr τ bT,fun i => GO (x i) (x' i),fun σ G H Q s r k => y σ G H _ s r fun G1 H1 s1 => ja (y' σ G1 H1 _ s1.s (r.mono s1.g) fun G2 H2 s2 => k G2 H2 (s1.trans s2))⟩
theorem pY {p : Bool} (h : Et F a ρ p) : Et F (.UnaryOp .Not a pos) ρ (!p) := by
  obtain ⟨τ,x,y⟩ := h
  exact ⟨HK τ,fun i => QN (x i),fun σ G H Q s r k => y σ G H _ s r k⟩
theorem so {X : Cx} : PE X e (fun _ _ _ => False) := fun _ _ _ _ _ _ h => h.elim
theorem sS {op : BoolOp} {t : Tr} (h : Ev F a ρ t) : Ev F (.BoolOp op [a] pos) ρ t := let ⟨τ,x,y⟩ := h; ⟨τ,fun i => QO (x i),y⟩
theorem FG {p q : Bool} {rest : List Expr} (h : Ev F a ρ (tb p)) (h2 : p = true -> Ev F (.BoolOp .And (b :: rest) pos) ρ (tb q)) : Ev F (.BoolOp .And (a :: b :: rest) pos) ρ (tb (p && q)) := by
  obtain ⟨τ,x,y⟩ := h.use
  cases p with
  | false => exact ⟨xZ τ _,fun i => Fp (x i) so,fun σ G H Q s r k => y σ G H _ s r fun v G' H' st hv => ⟨false,aO hv,ja ((k.step st).sc st.s rfl)⟩⟩
  | true =>
    obtain ⟨bT,x',y'⟩ := h2 rfl
    exact ⟨xZ τ bT,fun i => Fp (x i) (x' i),fun σ G H Q s r k => y σ G H _ s r fun v G1 H1 s1 hv => ⟨true,aO hv,jQ (y' σ G1 H1 _ s1.s (r.mono s1.g) (k.step s1))⟩⟩
theorem Hk {p q : Bool} {rest : List Expr} (h : Ev F a ρ (tb p)) (h2 : p = false -> Ev F (.BoolOp .Or (b :: rest) pos) ρ (tb q)) : Ev F (.BoolOp .Or (a :: b :: rest) pos) ρ (tb (p || q)) := by
  obtain ⟨τ,x,y⟩ := h.use
  cases p with
  | true => exact ⟨yH τ _,fun i => GQ (x i) so,fun σ G H Q s r k => y σ G H _ s r fun v G' H' st hv => ⟨true,aO hv,jQ ((k.step st).sc st.s rfl)⟩⟩
  | false =>
    obtain ⟨bT,x',y'⟩ := h2 rfl
    exact ⟨yH τ bT,fun i => GQ (x i) (x' i),fun σ G H Q s r k => y σ G H _ s r fun v G1 H1 s1 hv => ⟨false,aO hv,ja (y' σ G1 H1 _ s1.s (r.mono s1.g) (k.step s1))⟩⟩
theorem FH {p : Bool} (h : Ev F a ρ (tb p)) : Ev F (.UnaryOp .Not a pos) ρ (tb (!p)) := by
  obtain ⟨τ,x,y⟩ := h.use
  exact ⟨GP τ,fun i => QP (x i),fun σ G H Q s r k => y σ G H _ s r fun v G' H' st hv => ⟨p,aO hv,(k.step st).sc st.s rfl⟩⟩
theorem R7 {p : Bool} (hc : Et F c ρ p) (h1 : p = true -> Ev F a ρ t) (h2 : p = false -> Ev F b ρ t) : Ev F (.IfExp c a b pos) ρ t := by
  obtain ⟨τ,x,y⟩ := hc
  cases p with
  | true =>
    obtain ⟨bT,x',y'⟩ := h1 rfl
    exact ⟨zt τ bT _,fun i => DK (x i) (x' i) so,fun σ G H Q s r k => y σ G H _ s r fun G1 H1 s1 => jQ (y' σ G1 H1 _ s1.s (r.mono s1.g) (k.step s1))⟩
  | false =>
    obtain ⟨bT,x',y'⟩ := h2 rfl
    exact ⟨zt τ _ bT,fun i => DK (x i) so (x' i),fun σ G H Q s r k => y σ G H _ s r fun G1 H1 s1 => ja (y' σ G1 H1 _ s1.s (r.mono s1.g) (k.step s1))⟩
theorem bX (h : fK F es ρ ts) (hz : ts.length <= sizeLine) : Ev F (.List es pos) ρ (.ow ts) := by
  obtain ⟨τ,x,y⟩ := h
  refine ⟨HN τ,fun i => QT (x i),fun σ G H Q s r k => y σ G H _ s r fun vs G1 H1 fq s1 o w => ⟨by rw [<- o.length]; exact hz,fun p hp => ?_⟩⟩
  have np : p ∉ fq := fun z => by
    obtain ⟨u,hu⟩ := o.there p z
    rw [hp] at hu; cases hu
  exact k (.ref p) G1 _ (p :: fq) (s1.trans (.gD s1.s hp)) ⟨p,vs,fq,rfl,ck,o.mono (ai.refl _) (ai.new hp),rfl⟩
    ⟨fun a ha => (List.mem_cons.mp ha).elim (fun z => by rw [z]; exact s1.h.free hp) (w.n a),fun a ha => (List.mem_cons.mp ha).elim (fun z => by rw [z]; exact s1.s.free hp) (w.g a),List.nodup_cons.mpr ⟨np,w.d⟩⟩
theorem sT {x1} (h : fK F es ρ ts) (hz : ts.length <= sizeLine) : Ev F (.Tuple es x1 pos) ρ (.tp ts) := by
  obtain ⟨τ,x,y⟩ := h
  refine ⟨nX τ,fun i => xD (x i),fun σ G H Q s r k => y σ G H _ s r fun vs G1 H1 fq s1 o w => ⟨by rw [<- o.length]; exact hz,fun p hp => ?_⟩⟩
  have np : p ∉ fq := fun z => by
    obtain ⟨u,hu⟩ := o.there p z
    rw [hp] at hu; cases hu
  exact k (.ref p) G1 _ (p :: fq) (s1.trans (.gD s1.s hp)) ⟨p,vs,fq,rfl,ck,o.mono (ai.refl _) (ai.new hp),rfl⟩
    ⟨fun a ha => (List.mem_cons.mp ha).elim (fun z => by rw [z]; exact s1.h.free hp) (w.n a),fun a ha => (List.mem_cons.mp ha).elim (fun z => by rw [z]; exact s1.s.free hp) (w.g a),List.nodup_cons.mpr ⟨np,w.d⟩⟩
theorem wZ {x1} {dd : List Dv} (h : fK F es ρ ts) (ed : cJ ts = dd) (hz : ts.length <= sizeLine) : Ev F (.Tuple es x1 pos) ρ (.fz (.tup dd)) := ed ▸ (sT h hz).fz
theorem aI.get {K : PySem.W.Frag} {G : Hp} : ∀ {ds : List Dv} {vs : List V} {j : Nat} {d : Dv},aI K G ds vs -> ds[j]? = some d -> ∃ v,vs[j]? = some v /\ Hv K G d v
  | _ :: _,_,0,_,⟨x,r,h1,h2,h3⟩,h => by cases h; subst h1; exact ⟨x,rfl,h2⟩
  | _ :: _,_,j + 1,d,⟨x,r,h1,h2,h3⟩,h => by
    subst h1
    obtain ⟨v,q1,q2⟩ := aI.get (j := j) h3 h
    exact ⟨v,q1,q2⟩
theorem aI.at {K : PySem.W.Frag} {G : Hp} {ds : List Dv} {vs : List V} {k : Int} {d : Dv} (h : aI K G ds vs) (hk : aZ ds k = some d) : ∃ v,aZ vs k = some v /\ Hv K G d v := by
  unfold aZ at hk ⊢
  rw [<- h.length]
  cases q : dR ds.length k with
  | none => rw [q] at hk; cases hk
  | some j => rw [q] at hk; exact h.get hk
theorem cw {xs : List Dv} {k : Int} {d : Dv} (ha : Ev F a ρ ta) (hb : Ev F b ρ (ti k)) (ea : er ta = .lst xs) (hk : aZ xs k = some d) (hs : wW b := by exact fun _ _ => rfl) : Ev F (.Subscript a b pos) ρ (.fz d) := by
  obtain ⟨τ,p,q⟩ := ha.use
  obtain ⟨bT,p',q'⟩ := hb.use
  refine ⟨gX (yR F.K) τ bT,fun i => G9 (Oa (F.hK i)) (p i) (p' i) hs,fun σ G H Q s rr k => ?_⟩
  refine q σ G H _ s rr fun x G1 H1 s1 hx => q' σ G1 H1 _ s1.s (rr.mono s1.g) fun y G2 H2 s2 hy => ?_
  rw [ea] at hx
  obtain ⟨l,vs,rfl,h1,h2⟩ := hx
  obtain ⟨v,h3,h4⟩ := h2.at hk
  exact ⟨l,vs,_,v,rfl,aO hy,(s2.g.trans s2.s).seq h1,h3,(k.step (s1.trans s2)).dat s2.s (h4.mono s2.g)⟩
theorem bO {xs : List Dv} {k : Int} {d : Dv} (ha : Ev F a ρ ta) (hb : Ev F b ρ (ti k)) (ea : er ta = .tup xs) (hk : aZ xs k = some d) (hs : wW b := by exact fun _ _ => rfl) : Ev F (.Subscript a b pos) ρ (.fz d) := by
  obtain ⟨τ,p,q⟩ := ha.use
  obtain ⟨bT,p',q'⟩ := hb.use
  refine ⟨gX (yS F.K) τ bT,fun i => G9 (Pm (F.hK i)) (p i) (p' i) hs,fun σ G H Q s rr k => ?_⟩
  refine q σ G H _ s rr fun x G1 H1 s1 hx => q' σ G1 H1 _ s1.s (rr.mono s1.g) fun y G2 H2 s2 hy => ?_
  rw [ea] at hx
  obtain ⟨l,vs,rfl,h1,h2⟩ := hx
  obtain ⟨v,h3,h4⟩ := h2.at hk
  exact ⟨l,vs,_,v,rfl,aO hy,(s2.g.trans s2.s).tup h1,h3,(k.step (s1.trans s2)).dat s2.s (h4.mono s2.g)⟩
def cutD {α : Type} (xs : List α) (lo hi : Option Int) : List α := (xs.drop (HT.dG xs.length 0 lo)).take (HT.dG xs.length xs.length hi - HT.dG xs.length 0 lo)
theorem aI.drop {K : PySem.W.Frag} {G : Hp} : ∀ {ds : List Dv} {vs : List V} (n : Nat),aI K G ds vs -> aI K G (ds.drop n) (vs.drop n)
  | ds,vs,0,h => h
  | [],_,n + 1,h => by rw [show _ = [] from h]; exact rfl
  | _ :: _,_,n + 1,⟨x,r,h1,h2,h3⟩ => by subst h1; exact aI.drop n h3
theorem aI.take {K : PySem.W.Frag} {G : Hp} : ∀ {ds : List Dv} {vs : List V} (n : Nat),aI K G ds vs -> aI K G (ds.take n) (vs.take n)
  | ds,vs,0,h => by simp only [List.take_zero]; exact rfl
  | [],_,n + 1,h => by rw [show _ = [] from h]; exact rfl
  | _ :: _,_,n + 1,⟨x,r,h1,h2,h3⟩ => by subst h1; exact ⟨x,r.take n,rfl,h2,aI.take n h3⟩
theorem aI.cut {K : PySem.W.Frag} {G : Hp} {ds : List Dv} {vs : List V} (h : aI K G ds vs) (lo hi : Option Int) : aI K G (cutD ds lo hi) (nY vs lo hi) := by
  unfold cutD nY
  rw [h.length]
  exact (h.drop _).take _
def Eo (F : aU ι) (e : Option Expr) (ρ : En) (o : Option Int) : Prop := ∃ τ : TO,(∀ i,PO (F.cx i) e τ) /\ ∀ σ G H Q,ai G H -> bS F.K G ρ σ -> (∀ G' H',Step G H G' H' -> Q o H') -> τ σ H Q
theorem EJ : Eo F none ρ none := ⟨ED,fun _ => O5,fun σ G H Q s r k => k G H (.refl s)⟩
theorem sH {n : Int} (h : Ev F e ρ (ti n)) : Eo F (some e) ρ (some n) := by
  obtain ⟨τ,x,y⟩ := h.use
  exact ⟨GZ τ,fun i => O6 (x i),fun σ G H Q s r k => y σ G H _ s r fun v G' H' st hv => ⟨n,aO hv,k G' H' st⟩⟩
theorem wA {lo hi : Option Expr} {l u : Option Int} {xs : List Dv} {p2 : Pos} (ha : Ev F a ρ ta) (ea : er ta = .lst xs) (hl : Eo F lo ρ l) (hu : Eo F hi ρ u) : Ev F (.Subscript a (.Slice lo hi none p2) pos) ρ (.ow ((cutD xs l u).map .fz)) := by
  obtain ⟨τ,p,q⟩ := ha.use
  obtain ⟨zX,p1,q1⟩ := hl
  obtain ⟨zY,ud,q2⟩ := hu
  refine ⟨Js (HQ F.K) τ zX zY,fun i => N3 (F.hK i ▸ O8) (p i) (p1 i) (ud i),fun σ G H Q s rr k => ?_⟩
  refine q σ G H _ s rr fun x G1 H1 s1 hx => q1 σ G1 H1 _ s1.s (rr.mono s1.g) fun G2 H2 s2 => q2 σ G2 H2 _ s2.s (rr.mono (s1.trans s2).g) fun G3 H3 s3 => ?_
  rw [ea] at hx
  obtain ⟨b,vs,rfl,h1,h2⟩ := hx
  have st := s2.trans s3
  exact ⟨b,vs,rfl,(st.g.trans st.s).seq h1,fun p hp => (k.step (s1.trans st)).lst st.s ((h2.mono st.g).cut l u).eO hp⟩
theorem sr {id : String} {x : Str} {r : List V -> Hp -> VK -> Prop} (hc : ∀ i,eI (F.cx i) (.builtin id) r) (hm : F.mg x = none) (hv : bootBuiltins x = some (.builtin id)) (ha : fK F (e :: es) ρ ts)
    (h : ∀ G H xs Q,ai G H -> aI F.K G (cJ ts) xs -> Kv F.K G H t Q -> r xs H Q) {p' : Pos} (hg : ∀ i,Gl (F.cx i) x := by intro _; rfl) (hn : x ≠ "__name__" := by decide) (dQ : (x == ("__debug__" : Str)) = false := by decide)
    (he : ∀ i,starEach (e :: es) (F.cx i).env = (false,eval e (F.cx i).env) :: starEach es (F.cx i).env := by intro _; rfl) (dD : ∀ i,(backTo pos (starEach es (F.cx i).env)).any (·.1) = false := by intro _; rfl) : Ev F (.Call (.Name x p') (e :: es) [] pos) ρ t := by
  obtain ⟨τ,y,z⟩ := ha.use
  refine ⟨gY r τ,fun i => pf (hc i) (hg i) ((F.hm i).symm ▸ hm) hv (y i) hn dQ (he i) (dD i),fun σ G H Q s rr k => z σ G H _ s rr fun vs G1 H1 s1 hx => ?_⟩
  exact h G1 H1 vs Q s1.s hx (k.step s1)
theorem wB {T : String} {x : Str} {r : List V -> Hp -> VK -> Prop} (hc : ∀ i,eI (F.cx i) (.type T) r) (hm : F.mg x = none) (hv : bootBuiltins x = some (.type T)) (ha : fK F (e :: es) ρ ts)
    (h : ∀ G H xs Q,ai G H -> aI F.K G (cJ ts) xs -> Kv F.K G H t Q -> r xs H Q) {p' : Pos} (hg : ∀ i,Gl (F.cx i) x := by intro _; rfl) (hn : x ≠ "__name__" := by decide) (dQ : (x == ("__debug__" : Str)) = false := by decide)
    (he : ∀ i,starEach (e :: es) (F.cx i).env = (false,eval e (F.cx i).env) :: starEach es (F.cx i).env := by intro _; rfl) (dD : ∀ i,(backTo pos (starEach es (F.cx i).env)).any (·.1) = false := by intro _; rfl) : Ev F (.Call (.Name x p') (e :: es) [] pos) ρ t := by
  obtain ⟨τ,y,z⟩ := ha.use
  refine ⟨gY r τ,fun i => rY (hc i) (hg i) ((F.hm i).symm ▸ hm) hv (y i) hn dQ (he i) (dD i),fun σ G H Q s rr k => z σ G H _ s rr fun vs G1 H1 s1 hx => ?_⟩
  exact h G1 H1 vs Q s1.s hx (k.step s1)
theorem iG {K : PySem.W.Frag} {G : Hp} {d : Dv} {xs : List V} (h : aI K G [d] xs) : ∃ x,xs = [x] /\ Hv K G d x := by
  obtain ⟨x,r,h1,h2,h3⟩ := h
  exact ⟨x,by rw [h1,show r = [] from h3],h2⟩
theorem SX {K : PySem.W.Frag} {G : Hp} {d d' : Dv} {xs : List V} (h : aI K G [d,d'] xs) : ∃ x y,xs = [x,y] /\ Hv K G d x /\ Hv K G d' y := by
  obtain ⟨x,r,h1,h2,h3⟩ := h
  obtain ⟨y,rfl,h4⟩ := iG h3
  exact ⟨x,y,h1,h2,h4⟩
theorem cL {xs : List Dv} (hm : F.mg "len" = none) (ha : Ev F e ρ ta) (ea : er ta = .lst xs \/ er ta = .tup xs) {p' : Pos} (hg : ∀ i,Gl (F.cx i) "len" := by intro _; rfl)
    (hs : ∀ i,starEach [e] (F.cx i).env = [(false,eval e (F.cx i).env)] := by intro _; rfl) : Ev F (.Call (.Name "len" p') [e] [] pos) ρ (ti xs.length) :=
  sr (r := fun xs H Q => ∃ p ys,xs = [.ref p] /\ (aD F.K H p ys \/ cE F.K H p ys) /\ Q (.int ys.length) H) (fun i => Nj (F.hK i)) hm xI (ah ha av hs) (fun G H vs Q s hx k => by
    obtain ⟨x,rfl,eX⟩ := iG hx
    replace hx := eX
    rcases ea with ea | ea
    · rw [ea] at hx
      obtain ⟨l,ys,rfl,h1,h2⟩ := hx
      exact ⟨l,ys,rfl,.inl (s.seq h1),by rw [<- h2.length]; exact k.sc s rfl⟩
    · rw [ea] at hx
      obtain ⟨l,ys,rfl,h1,h2⟩ := hx
      exact ⟨l,ys,rfl,.inr (s.tup h1),by rw [<- h2.length]; exact k.sc s rfl⟩) hg (by decide) (by decide) hs (fun _ => rfl)
theorem jF {xs : List Dv} (hm : F.mg "list" = none) (ha : Ev F e ρ ta) (ea : er ta = .lst xs \/ er ta = .tup xs) {p' : Pos} (hg : ∀ i,Gl (F.cx i) "list" := by intro _; rfl)
    (hs : ∀ i,starEach [e] (F.cx i).env = [(false,eval e (F.cx i).env)] := by intro _; rfl) : Ev F (.Call (.Name "list" p') [e] [] pos) ρ (.ow (xs.map .fz)) :=
  wB (r := fun xs H Q => ∃ p ys,xs = [.ref p] /\ (aD F.K H p ys \/ cE F.K H p ys) /\ ∀ l,H l = none -> Q (.ref l) (upd H l (.lst ys))) (fun i => F.hK i ▸ CV) hm pF (ah ha av hs) (fun G H vs Q s hx k => by
    obtain ⟨x,rfl,eX⟩ := iG hx
    replace hx := eX
    rcases ea with ea | ea
    · rw [ea] at hx
      obtain ⟨l,ys,rfl,h1,h2⟩ := hx
      exact ⟨l,ys,rfl,.inl (s.seq h1),fun p hp => k.lst s h2.eO hp⟩
    · rw [ea] at hx
      obtain ⟨l,ys,rfl,h1,h2⟩ := hx
      exact ⟨l,ys,rfl,.inr (s.tup h1),fun p hp => k.lst s h2.eO hp⟩) hg (by decide) (by decide) hs (fun _ => rfl)
theorem FI {n : Int} (hm : F.mg "abs" = none) (ha : Ev F e ρ (ti n)) {p' : Pos} (hg : ∀ i,Gl (F.cx i) "abs" := by intro _; rfl)
    (hs : ∀ i,starEach [e] (F.cx i).env = [(false,eval e (F.cx i).env)] := by intro _; rfl) : Ev F (.Call (.Name "abs" p') [e] [] pos) ρ (ti (if n < 0 then -n else n)) :=
  sr (fun i => NZ) hm Q2 (ah ha av hs) (fun G H vs Q s hx k => by
    obtain ⟨x,rfl,eX⟩ := iG hx
    replace hx := eX
    exact ⟨n,by rw [aO hx],k.sc s rfl⟩) hg (by decide) (by decide) hs (fun _ => rfl)
def Jx : Dv -> Value
  | .fl .aF => .type "NoneType"
  | .fl (.bl _) => .type "bool"
  | .fl (.int _) => .type "int"
  | .fl (.str _) => .type "str"
  | .fl _ => .none
  | .lst _ => .type "list"
  | .tup _ => .type "tuple"
def HU (K : PySem.W.Frag) (d : Dv) (n : String) (b : Bool) : List V -> Hp -> VK -> Prop := fun xs H Q => ∃ x,xs = [x,.ty n] /\ Hv K H d x /\ PySem.W.kitOne K (Jx d) (.type n) = some b /\ Q (.bl b) H
theorem Oc {X : Cx} {d : Dv} {n : String} {b : Bool} : eI X (.builtin "isinstance") (HU X.K d n b) := by
  intro pins s σ H xs us Q I r h
  obtain ⟨x,rfl,hx,hb,q⟩ := h
  cases r with
  | cons r1 rr => cases rr with
    | cons r2 rr =>
      cases rr
      cases (show _ = Value.type n from r2)
      have fin : ∀ tk,EP X pins σ Q (.bool b) { s with toks := tk } := fun tk => ⟨.bl b,H,I.tok tk,rfl,q⟩
      cases d with
      | fl v =>
        obtain ⟨rfl,f⟩ := hx
        cases x with
        | aF => exact rX I r1 .aF hb fin
        | bl y => exact rX I r1 (.bl y) hb fin
        | int y => exact rX I r1 (.int y) hb fin
        | str y => exact rX I r1 (.str y) hb fin
        | gE y => cases f
        | lu y => cases f
        | ref y => cases f
        | ty y => cases f
      | lst ds =>
        obtain ⟨a,xs,rfl,h1,_⟩ := hx
        cases r1
        obtain ⟨its,_,⟨o,n,h2,h3,_⟩,_⟩ := I.list h1
        exact PySem.W.kia_one PySem.W.kitx_list I.dh ⟨o,h2,h3⟩ hb (fun z => nomatch z) fin
      | tup ds =>
        obtain ⟨a,xs,rfl,h1,_⟩ := hx
        cases r1
        obtain ⟨its,_,⟨o,h2,h3,_⟩,_⟩ := I.tuple h1
        exact PySem.W.kia_one PySem.W.kitx_tuple I.dh ⟨o,h2,h3⟩ hb (fun z => nomatch z) fin
theorem pZ {x : Str} {n : String} {bo : Bool} (hm : F.mg "isinstance" = none) (rk : F.mg x = none) (hv : bootBuiltins x = some (.type n)) (ha : Ev F e ρ ta) (hk : PySem.W.kitOne F.K (Jx (er ta)) (.type n) = some bo) {p' p2 : Pos} (hg : ∀ i,Gl (F.cx i) "isinstance" := by intro _; rfl)
    (lP : ∀ i,Gl (F.cx i) x := by intro _; rfl) (hn : x ≠ "__name__" := by decide) (hd : (x == ("__debug__" : Str)) = false := by decide)
    (hs : ∀ i,starEach [e,.Name x p2] (F.cx i).env = [(false,eval e (F.cx i).env),(false,eval (.Name x p2) (F.cx i).env)] := by intro _; rfl) : Ev F (.Call (.Name "isinstance" p') [e,.Name x p2] [] pos) ρ (tb bo) := by
  obtain ⟨τ,y,z⟩ := ha.use
  refine ⟨gY (HU F.K (er ta) n bo) (bt τ (bt (tC (.ty n)) cm)),fun i => pf (F.hK i ▸ Oc) (hg i) ((F.hm i).symm ▸ hm) Lr (bB (y i) (bB (OY (v := .ty n) (lP i) ((F.hm i).symm ▸ rk) hv rfl hn hd) cB rfl) (hs i)) (by decide) (by decide) (hs i) rfl,fun σ G H Q s rr k => z σ G H _ s rr fun vs G1 H1 s1 hx => ?_⟩
  exact ⟨vs,rfl,hx.mono s1.s,hk,(k.step s1).sc s1.s rfl⟩
def spT (K : PySem.W.Frag) (R : List Dv -> Tr -> Prop) : Sp := fun vs H Q _ => ∃ G ds t,ai G H /\ aI K G ds vs /\ R ds t /\ Kv K G H t Q
theorem aY {k : Nat} {f : Addr} {fd : FuncData} {ps : List Str} {R : List Dv -> Tr -> Prop} {x : Str} (Fn : Kn F.P F.w F.K F.mg F.base aq k x f fd ps (spT F.K R)) (hk : k <= F.room) (ha : fK F (e :: es) ρ ts) (hR : R (cJ ts) t) {p' : Pos} (hg : ∀ i,Gl (F.cx i) x := by intro _; rfl) (dQ : (x == ("__debug__" : Str)) = false := by decide)
    (he : ∀ i,starEach (e :: es) (F.cx i).env = (false,eval e (F.cx i).env) :: starEach es (F.cx i).env := by intro _; rfl) (dD : ∀ i,(backTo pos (starEach es (F.cx i).env)).any (·.1) = false := by intro _; rfl) : Ev F (.Call (.Name x p') (e :: es) [] pos) ρ t := by
  obtain ⟨τ,y,z⟩ := ha.use
  refine ⟨iC (spT F.K R) [] E0 τ,fun i => ?_,fun σ G H Q s rr k => z σ G H _ s rr fun vs G1 H1 s1 hx => ?_⟩
  · have jn : Kn (F.cx i).prog (F.cx i).w (F.cx i).K (F.cx i).mg (F.cx i).base aq k x f fd ps (spT F.K R) := by
      rw [F.hP i,F.hw i,F.hK i,F.hm i,F.hb i]
      exact Fn
    exact nQ jn ((F.hr i).mono hk) (hg i) (y i) dQ (he i) (dD i)
  · show spT F.K R (vs ++ []) H1 Q E0
    rw [List.append_nil]
    exact ⟨G1,_,t,s1.s,hx,hR,k.step s1⟩
end
end L2
namespace L2
open PySem PySem.Spec PyProof.Rows
def aE (K : PySem.W.Frag) (G H : Hp) : En -> St -> List Addr -> Prop
  | [],σ,fp => σ = [] /\ fp = []
  | none :: ρ,σ,fp => ∃ o r,σ = o :: r /\ aE K G H ρ r fp
  | some t :: ρ,σ,fp => ∃ v r f1 f2,σ = some v :: r /\ fp = f1 ++ f2 /\ Ow K G H t v f1 /\ aE K G H ρ r f2
theorem aE.mono {K : PySem.W.Frag} {G G' H H' : Hp} (e : ai G G') (e' : ai H H') : ∀ {ρ : En} {σ : St} {fp : List Addr},aE K G H ρ σ fp -> aE K G' H' ρ σ fp
  | [],_,_,h => h
  | none :: _,_,_,⟨o,r,h1,h2⟩ => ⟨o,r,h1,aE.mono e e' h2⟩
  | some _ :: _,_,_,⟨v,r,f1,f2,h1,h2,h3,h4⟩ => ⟨v,r,f1,f2,h1,h2,h3.mono e e',aE.mono e e' h4⟩
theorem aE.frame {K : PySem.W.Frag} {G H : Hp} {a : Addr} {o : HO} : ∀ {ρ : En} {σ : St} {fp : List Addr},aE K G H ρ σ fp -> a ∉ fp -> aE K G (upd H a o) ρ σ fp
  | [],_,_,h,_ => h
  | none :: _,_,_,⟨o,r,h1,h2⟩,n => ⟨o,r,h1,aE.frame h2 n⟩
  | some _ :: _,_,_,⟨v,r,f1,f2,h1,h2,h3,h4⟩,n => by
    subst h2
    exact ⟨v,r,f1,f2,h1,rfl,h3.frame fun z => n (List.mem_append_left _ z),aE.frame h4 fun z => n (List.mem_append_right _ z)⟩
theorem aE.there {K : PySem.W.Frag} {G H : Hp} : ∀ {ρ : En} {σ : St} {fp : List Addr},aE K G H ρ σ fp -> ∀ a ∈ fp,∃ o,H a = some o
  | [],_,_,⟨_,h⟩,a,ha => by subst h; cases ha
  | none :: _,_,_,⟨o,r,h1,h2⟩,a,ha => aE.there h2 a ha
  | some _ :: _,_,_,⟨v,r,f1,f2,h1,h2,h3,h4⟩,a,ha => by
    subst h2
    rcases List.mem_append.mp ha with ha | ha
    · exact h3.there a ha
    · exact aE.there h4 a ha
theorem aE.off {K : PySem.W.Frag} {G H G1 H1 : Hp} {ρ : En} {σ : St} {fp : List Addr} (r : aE K G H ρ σ fp) (s1 : Step G H G1 H1) (g : ∀ a ∈ fp,G a = none) : ∀ a ∈ fp,G1 a = none := fun a ha => by
  cases q : G1 a with
  | none => rfl
  | some u =>
    obtain ⟨u',aT⟩ := r.there a ha
    have := s1.n a (g a ha) (by rw [q]; exact fun z => nomatch z)
    rw [aT] at this
    cases this
theorem aE.oy {K : PySem.W.Frag} {G H : Hp} : ∀ {ρ : En} {σ : St} {fp : List Addr},aE K G H ρ σ fp -> bS K G ρ σ
  | [],_,_,_,j,d,h => by cases j <;> cases h
  | none :: _,_,_,⟨o,r,h1,h2⟩,0,d,h => by cases h
  | none :: _,_,_,⟨o,r,h1,h2⟩,j + 1,d,h => by subst h1; exact aE.oy h2 j d h
  | some _ :: _,_,_,⟨v,r,f1,f2,h1,h2,h3,h4⟩,0,d,h => by cases h; subst h1; exact ⟨v,rfl,h3.2⟩
  | some _ :: _,_,_,⟨v,r,f1,f2,h1,h2,h3,h4⟩,j + 1,d,h => by subst h1; exact aE.oy h4 j d h
def pk (ρ : En) : En := ρ.map (Option.map fun t => .fz (er t))
theorem aE.pk {K : PySem.W.Frag} {G H G' : Hp} (e : ai G G') : ∀ {ρ : En} {σ : St} {fp : List Addr},aE K G H ρ σ fp -> (∀ a ∈ fp,G' a = H a) -> bS K G' (pk ρ) σ
  | [],_,_,_,_,j,d,h => by cases j <;> cases h
  | none :: _,_,_,⟨o,r,h1,h2⟩,_,0,d,h => by cases h
  | none :: _,_,_,⟨o,r,h1,h2⟩,q,j + 1,d,h => by subst h1; exact aE.pk e h2 q j d h
  | some _ :: _,_,_,⟨v,r,f1,f2,h1,h2,h3,h4⟩,q,0,d,h => by
    cases h; subst h1 h2; exact ⟨v,rfl,h3.hv e fun a ha => q a (List.mem_append_left _ ha)⟩
  | some _ :: _,_,_,⟨v,r,f1,f2,h1,h2,h3,h4⟩,q,j + 1,d,h => by
    subst h1 h2; exact aE.pk e h4 (fun a ha => q a (List.mem_append_right _ ha)) j d h
theorem aE.split {K : PySem.W.Frag} {G H : Hp} : ∀ {ρ : En} {σ : St} {fp : List Addr} {j : Nat} {t : Tr},aE K G H ρ σ fp -> ρ[j]? = some (some t) ->
    ∃ v f fr,σ[j]? = some (some v) /\ Ow K G H t v f /\ aE K G H (ρ.set j none) σ fr /\ fp.Perm (f ++ fr)
  | none :: _,_,_,0,_,_,h => by cases h
  | none :: _,_,_,j + 1,t,⟨o,r,h1,h2⟩,h => by
    subst h1
    obtain ⟨v,f,fr,q1,q2,q3,q4⟩ := aE.split (j := j) h2 h
    exact ⟨v,f,fr,q1,q2,⟨o,r,rfl,q3⟩,q4⟩
  | some _ :: _,_,_,0,t,⟨v,r,f1,f2,h1,h2,h3,h4⟩,h => by
    cases h; subst h1 h2
    exact ⟨v,f1,f2,rfl,h3,⟨some v,r,rfl,h4⟩,.refl _⟩
  | some _ :: _,_,_,j + 1,t,⟨v,r,f1,f2,h1,h2,h3,h4⟩,h => by
    subst h1 h2
    obtain ⟨v',f,fr,q1,q2,q3,q4⟩ := aE.split (j := j) h4 h
    refine ⟨v',f,f1 ++ fr,q1,q2,⟨v,r,f1,fr,rfl,rfl,h3,q3⟩,?_⟩
    refine (List.Perm.append_left f1 q4).trans ?_
    rw [<- List.append_assoc,<- List.append_assoc]
    exact List.Perm.append_right fr List.perm_append_comm
theorem aE.forget {K : PySem.W.Frag} {G H : Hp} : ∀ {ρ : En} {σ : St} {fp : List Addr} (j : Nat),aE K G H ρ σ fp -> ∃ fr,aE K G H (ρ.set j none) σ fr /\ fr.Sublist fp
  | [],_,_,_,h => ⟨_,h,.refl _⟩
  | none :: _,_,_,0,⟨o,r,h1,h2⟩ => ⟨_,⟨o,r,h1,h2⟩,.refl _⟩
  | none :: _,_,_,j + 1,⟨o,r,h1,h2⟩ => by
    obtain ⟨fr,q1,q2⟩ := aE.forget j h2
    exact ⟨fr,⟨o,r,h1,q1⟩,q2⟩
  | some _ :: _,_,_,0,⟨v,r,f1,f2,h1,h2,h3,h4⟩ => ⟨f2,⟨some v,r,h1,h4⟩,h2 ▸ List.sublist_append_right _ _⟩
  | some _ :: _,_,_,j + 1,⟨v,r,f1,f2,h1,h2,h3,h4⟩ => by
    obtain ⟨fr,q1,q2⟩ := aE.forget j h4
    exact ⟨f1 ++ fr,⟨v,r,f1,fr,h1,rfl,h3,q1⟩,h2 ▸ List.Sublist.append (.refl _) q2⟩
theorem aE.put {K : PySem.W.Frag} {G H : Hp} : ∀ {ρ : En} {σ : St} {fr : List Addr} {j : Nat} {t : Tr} {v : V} {f : List Addr},aE K G H ρ σ fr -> ρ[j]? = some none -> Ow K G H t v f ->
    ∃ fp,aE K G H (ρ.set j (some t)) (σ.set j (some v)) fp /\ fp.Perm (f ++ fr)
  | none :: _,_,fr,0,t,v,f,⟨o,r,h1,h2⟩,_,w => by subst h1; exact ⟨_,⟨v,r,f,fr,rfl,rfl,w,h2⟩,.refl _⟩
  | none :: _,_,_,j + 1,t,v,f,⟨o,r,h1,h2⟩,h,w => by
    subst h1
    obtain ⟨fp,q1,q2⟩ := aE.put (j := j) h2 h w
    exact ⟨fp,⟨o,_,rfl,q1⟩,q2⟩
  | some _ :: _,_,_,0,_,_,_,_,h,_ => by cases h
  | some _ :: _,_,_,j + 1,t,v,f,⟨v',r,f1,f2,h1,h2,h3,h4⟩,h,w => by
    subst h1 h2
    obtain ⟨fp,q1,q2⟩ := aE.put (j := j) h4 h w
    refine ⟨f1 ++ fp,⟨v',_,f1,fp,rfl,rfl,h3,q1⟩,?_⟩
    refine (List.Perm.append_left f1 q2).trans ?_
    rw [<- List.append_assoc,<- List.append_assoc]
    exact List.Perm.append_right f2 List.perm_append_comm
theorem aE.len {K : PySem.W.Frag} {G H : Hp} : ∀ {ρ : En} {σ : St} {fp : List Addr},aE K G H ρ σ fp -> ρ.length = σ.length
  | [],_,_,⟨h,_⟩ => by rw [h]; rfl
  | none :: _,_,_,⟨o,r,h1,h2⟩ => by subst h1; rw [List.length_cons,List.length_cons,aE.len h2]
  | some _ :: _,_,_,⟨v,r,f1,f2,h1,h2,h3,h4⟩ => by subst h1; rw [List.length_cons,List.length_cons,aE.len h4]
structure dH (K : PySem.W.Frag) (G0 H0 G H : Hp) (ρ : En) (σ : St) (fp : List Addr) : Prop where
  st : Step G0 H0 G H
  own : aE K G H ρ σ fp
  g : ∀ a ∈ fp,G a = none
  n : ∀ a ∈ fp,H0 a = none
  d : fp.Nodup
def RS (K : PySem.W.Frag) (G0 H0 G H : Hp) (ρ : En) (σ : St) : Prop := ∃ fp,dH K G0 H0 G H ρ σ fp
theorem oN {α : Type} {ρ : List (Option α)} {j : Nat} (h : j < ρ.length) : (ρ.set j none)[j]? = some none := by rw [List.getElem?_set]; simp [h]
theorem dH.forget {K : PySem.W.Frag} {G0 H0 G H : Hp} {ρ : En} {σ : St} {fp : List Addr} (r : dH K G0 H0 G H ρ σ fp) (j : Nat) : ∃ fr,dH K G0 H0 G H (ρ.set j none) σ fr /\ fr.Sublist fp := by
  obtain ⟨fr,q1,q2⟩ := r.own.forget j
  exact ⟨fr,⟨r.st,q1,fun a ha => r.g a (q2.subset ha),fun a ha => r.n a (q2.subset ha),r.d.sublist q2⟩,q2⟩
theorem RS.forget {K : PySem.W.Frag} {G0 H0 G H : Hp} {ρ : En} {σ : St} (r : RS K G0 H0 G H ρ σ) (j : Nat) : RS K G0 H0 G H (ρ.set j none) σ := by
  obtain ⟨fp,r⟩ := r
  obtain ⟨fr,q,_⟩ := r.forget j
  exact ⟨fr,q⟩
theorem dH.set {K : PySem.W.Frag} {G0 H0 G H G1 H1 : Hp} {ρ : En} {σ : St} {fp fq : List Addr} {j : Nat} {t : Tr} {v : V} (r : dH K G0 H0 G H ρ σ fp) (hj : j < ρ.length) (e : Step G H G1 H1) (o : Ow K G1 H1 t v fq) (w : Nw H G1 fq) :
    RS K G0 H0 G1 H1 (ρ.set j (some t)) (σ.set j (some v)) := by
  obtain ⟨fr,r1,sub⟩ := r.forget j
  have SY := r1.own.mono e.g e.h
  obtain ⟨gg,q1,q2⟩ := SY.put (oN hj) o
  rw [List.set_set] at q1
  have dis : ∀ a ∈ fq,∀ b ∈ fr,a ≠ b := fun a ha b hb z => by
    subst z
    obtain ⟨u,hu⟩ := r1.own.there a hb
    rw [w.n a ha] at hu; cases hu
  refine ⟨gg,r.st.trans e,q1,fun a ha => ?_,fun a ha => ?_,q2.nodup_iff.mpr (List.nodup_append.mpr ⟨w.d,r1.d,dis⟩)⟩
  · rcases List.mem_append.mp (q2.mem_iff.mp ha) with z | z
    · exact w.g a z
    · cases q : G1 a with
      | none => rfl
      | some u =>
        obtain ⟨u',aT⟩ := r1.own.there a z
        have := e.n a (r1.g a z) (by rw [q]; exact fun z => nomatch z)
        rw [aT] at this; cases this
  · rcases List.mem_append.mp (q2.mem_iff.mp ha) with z | z
    · exact r.st.h.free (w.n a z)
    · exact r1.n a z
def less (H : Hp) (fp : List Addr) : Hp := fun a => if a ∈ fp then none else H a
theorem EK {H : Hp} {fp : List Addr} {a : Addr} (h : a ∈ fp) : less H fp a = none := by unfold less; rw [if_pos h]
theorem DT {H : Hp} {fp : List Addr} {a : Addr} (h : a ∉ fp) : less H fp a = H a := by unfold less; rw [if_neg h]
theorem Od {H : Hp} {fp : List Addr} : ai (less H fp) H := fun b o e => by
  by_cases q : b ∈ fp
  · rw [EK q] at e; cases e
  · rw [DT q] at e; exact e
theorem Dp {G H : Hp} {fp : List Addr} (s : ai G H) (h : ∀ a ∈ fp,G a = none) : ai G (less H fp) := fun b o e => by
  by_cases q : b ∈ fp
  · rw [h b q] at e; cases e
  · rw [DT q]; exact s b o e
theorem dH.rebase {K : PySem.W.Frag} {G0 H0 G H : Hp} {ρ : En} {σ : St} {fp : List Addr} (r : dH K G0 H0 G H ρ σ fp) : dH K G (less H fp) G H ρ σ fp :=
  ⟨⟨ai.refl _,Od,r.st.s,fun a h h' => absurd h h'⟩,r.own,r.g,fun a ha => EK ha,r.d⟩
theorem dH.base {K : PySem.W.Frag} {G0 H0 G H : Hp} {ρ : En} {σ : St} {fp : List Addr} (r : dH K G0 H0 G H ρ σ fp) : Step G0 H0 G (less H fp) :=
  ⟨r.st.g,Dp r.st.h r.n,Dp r.st.s r.g,r.st.n⟩
theorem RS.under {K : PySem.W.Frag} {G0 H0 G1 H1 G H : Hp} {ρ : En} {σ : St} (e : Step G0 H0 G1 H1) (r : RS K G1 H1 G H ρ σ) : RS K G0 H0 G H ρ σ := by
  obtain ⟨fp,r⟩ := r
  exact ⟨fp,e.trans r.st,r.own,r.g,fun a ha => e.h.free (r.n a ha),r.d⟩
inductive Out where
  | nx (ρ : En)
  | rt (t : Tr)
def tN (K : PySem.W.Frag) (G0 H0 : Hp) (D : Ends) : Out -> Prop
  | .nx ρ => ∀ σ G H,RS K G0 H0 G H ρ σ -> D.nx σ H
  | .rt t => ∀ v G H fq,Step G0 H0 G H -> Ow K G H t v fq -> Nw H0 G fq -> D.rt v H
theorem tN.under {K : PySem.W.Frag} {G0 H0 G1 H1 : Hp} {D : Ends} {o : Out} (e : Step G0 H0 G1 H1) (p : tN K G0 H0 D o) : tN K G1 H1 D o := by
  cases o with
  | nx ρ => exact fun σ G H r => p σ G H (r.under e)
  | rt t => exact fun v G H fq s o w => p v G H fq (e.trans s) o ⟨fun a ha => e.h.free (w.n a ha),w.g,w.d⟩
def Jy (K : PySem.W.Frag) (τ : TS) (ρ : En) (o : Out) : Prop := ∀ D σ G0 H0 G H,RS K G0 H0 G H ρ σ -> tN K G0 H0 D o -> τ D σ H
section
variable {ι : Type}
def Rn (F : aU ι) (st : Stmt) (ρ : En) (o : Out) : Prop := ∃ τ : TS,(∀ i,PS (F.cx i) st τ) /\ Jy F.K τ ρ o
def bI (F : aU ι) (cz : List Stmt) (ρ : En) (o : Out) : Prop := ∃ τ : TS,(∀ i,eM (F.cx i) cz τ) /\ Jy F.K τ ρ o
def cg (F : aU ι) (e : Expr) (ρ : En) (t : Tr) : Prop := ∃ τ : TE,(∀ i,PE (F.cx i) e τ) /\ ∀ σ G H fp Q,ai G H -> aE F.K G H ρ σ fp -> (∀ a ∈ fp,G a = none) -> Kv F.K G H t Q -> τ σ H Q
def fm (F : aU ι) (e : Expr) (ρ : En) (b : Bool) : Prop := ∃ τ : TT,(∀ i,PT (F.cx i) e τ) /\ ∀ σ G H fp Q,ai G H -> aE F.K G H ρ σ fp -> (∀ a ∈ fp,G a = none) -> (∀ G' H',Step G H G' H' -> Q b H') -> τ σ H Q
variable {F : aU ι} {e a b c : Expr} {es : List Expr} {ρ ρ1 : En} {t : Tr} {ts : List Tr} {pos : Pos} {o : Out} {st : Stmt} {cz A B : List Stmt}
theorem Ev.s (h : Ev F e ρ t) : cg F e ρ t := let ⟨τ,x,y⟩ := h; ⟨τ,x,fun σ G H fp Q s r _ k => y σ G H Q s r.oy k⟩
theorem Et.s {p : Bool} (h : Et F e ρ p) : fm F e ρ p := let ⟨τ,x,y⟩ := h; ⟨τ,x,fun σ G H fp Q s r _ k => y σ G H Q s r.oy k⟩
mutual
def Cl : Tr -> Prop
  | .fz (.fl _) => True
  | .fz _ => False
  | .ow ts => kW ts
  | .tp ts => kW ts
def kW : List Tr -> Prop
  | [] => True
  | t :: ts => Cl t /\ kW ts
end
mutual
theorem Ow.cl {K : PySem.W.Frag} {G G' H : Hp} : ∀ {t : Tr} {v : V} {fp : List Addr},Cl t -> Ow K G H t v fp -> Ow K G' H t v fp
  | .fz (.fl _),_,_,_,h => h
  | .fz (.lst _),_,_,c,_ => c.elim
  | .fz (.tup _),_,_,c,_ => c.elim
  | .ow _,_,_,c,⟨b,vs,fq,h1,h2,h3,h4⟩ => ⟨b,vs,fq,h1,h2,aB.cl c h3,h4⟩
  | .tp _,_,_,c,⟨b,vs,fq,h1,h2,h3,h4⟩ => ⟨b,vs,fq,h1,h2,aB.cl c h3,h4⟩
theorem aB.cl {K : PySem.W.Frag} {G G' H : Hp} : ∀ {ts : List Tr} {vs : List V} {fp : List Addr},kW ts -> aB K G H ts vs fp -> aB K G' H ts vs fp
  | [],_,_,_,h => h
  | _ :: _,_,_,⟨c1,c2⟩,⟨v,r,f1,f2,h1,h2,h3,h4⟩ => ⟨v,r,f1,f2,h1,h2,h3.cl c1,aB.cl c2 h4⟩
end
theorem pH : ∀ ns : List Int,kW (ns.map fun n => Tr.fz (di n))
  | [] => True.intro
  | _ :: ns => ⟨True.intro,pH ns⟩
theorem Ev.pk (h : Ev F e (pk ρ) t) (c : Cl t) : cg F e ρ t := by
  obtain ⟨τ,x,y⟩ := h
  refine ⟨τ,x,fun σ G H fp Q s r hg k => ?_⟩
  refine y σ (ef G H fp) H Q (ph s) (r.pk (ik hg) fun a ha => iU ha) fun v G' H' fq st o w => ?_
  refine k v G H' fq ⟨ai.refl _,st.h,s.trans st.h,fun a h h' => absurd h h'⟩ (o.cl c) ⟨w.n,fun a ha => s.free (w.n a ha),w.d⟩
theorem Et.pk {p : Bool} (h : Et F e (pk ρ) p) : fm F e ρ p := by
  obtain ⟨τ,x,y⟩ := h
  refine ⟨τ,x,fun σ G H fp Q s r hg k => ?_⟩
  refine y σ (ef G H fp) H Q (ph s) (r.pk (ik hg) fun a ha => iU ha) fun G' H' st => ?_
  exact k G H' ⟨ai.refl _,st.h,s.trans st.h,fun a h h' => absurd h h'⟩
theorem w4 : bI F [] ρ (.nx ρ) := ⟨x3,fun _ => Ex,fun D σ G0 H0 G H r k => k σ G H r⟩
theorem ak (h1 : Rn F st ρ (.nx ρ1)) (h2 : bI F cz ρ1 o) : bI F (st :: cz) ρ o := by
  obtain ⟨τ,x,y⟩ := h1
  obtain ⟨bT,x',y'⟩ := h2
  exact ⟨fI τ bT,fun i => il (x i) (x' i),fun D σ G0 H0 G H r k => y _ σ G0 H0 G H r fun az G1 H1 r1 => y' D az G0 H0 G1 H1 r1 k⟩
theorem pI (h1 : Rn F st ρ (.rt t)) : bI F (st :: cz) ρ (.rt t) := by
  obtain ⟨τ,x,y⟩ := h1
  exact ⟨fI τ pT,fun i => il (x i) rW,fun D σ G0 H0 G H r k => y _ σ G0 H0 G H r k⟩
theorem aN (h1 : Rn F st ρ o) : bI F [st] ρ o := by
  obtain ⟨τ,x,y⟩ := h1
  exact ⟨τ,fun i => jE (x i),y⟩
theorem aH (j : Nat) {x : Str} {pos' : Pos} (he : cg F e ρ t) (hN : ∀ i,(F.cx i).N.Nodup) (hj : Nat.blt j ρ.length = true := by rfl) (hi : ∀ i,(F.cx i).N[j]? = some x := by intro _; rfl) (hx : ∀ i,Loc (F.cx i).env.scope x := by intro _; first | exact Or.inl rfl | exact Or.inr rfl)
    (hs : ∀ i,swapsWith e (some (.Name x pos')) pos.line (F.cx i).env = pure false := by intro _; rfl) (hf : ∀ i,(F.cx i).fn x = true \/ (F.cx i).env.scope.names.lookup x = some .local := by intro _; first | exact .inl rfl | exact .inr rfl) :
    Rn F (.Assign [.Name x pos'] e pos) ρ (.nx (ρ.set j (some t))) := by
  obtain ⟨τ,y,z⟩ := he
  refine ⟨gP τ (cU j),fun i => pU (hN i) (hi i) (hx i) (y i) (hs i) (hf i),fun D σ G0 H0 G H r k => ?_⟩
  obtain ⟨fp,r⟩ := r
  exact z σ G H fp _ r.st.s r.own r.g fun v G1 H1 fq s1 o w => k _ G1 H1 (r.set (Nat.le_of_ble_eq_true hj) s1 o w)
theorem cf (he : cg F e ρ t) : Rn F (.Return (some e) pos) ρ (.rt t) := by
  obtain ⟨τ,y,z⟩ := he
  refine ⟨nW τ,fun i => pS (y i),fun D σ G0 H0 G H r k => ?_⟩
  obtain ⟨fp,r⟩ := r
  exact z σ G H fp _ r.st.s r.own r.g fun v G1 H1 fq s1 o w => k v G1 H1 fq (r.st.trans s1) o ⟨fun a ha => r.st.h.free (w.n a ha),w.g,w.d⟩
theorem kB (j : Nat) {x : Str} {p' : Pos} (h : ρ[j]? = some (some t)) (hN : ∀ i,(F.cx i).N[j]? = some x := by intro _; rfl)
    (hv : ∀ i,gS (F.cx i).env.scope x := by intro _; first | exact Or.inl rfl | exact Or.inr (Or.inl rfl) | exact Or.inr (Or.inr rfl)) (hd : (x == ("__debug__" : Str)) = false := by decide) (hc : (x == ("__classdict__" : Str)) = false := by decide) : Rn F (.Return (some (.Name x p')) pos) ρ (.rt t) := by
  refine ⟨nW (bb j),fun i => pS (kC (hN i) (hv i) hd hc),fun D σ G0 H0 G H r k => ?_⟩
  obtain ⟨fp,r⟩ := r
  obtain ⟨v,f,fr,q1,q2,q3,q4⟩ := r.own.split h
  have sub : ∀ a ∈ f,a ∈ fp := fun a ha => q4.mem_iff.mpr (List.mem_append_left _ ha)
  exact ⟨v,q1,k v G H f r.st q2 ⟨fun a ha => r.n a (sub a ha),fun a ha => r.g a (sub a ha),(List.nodup_append.mp (q4.nodup_iff.mp r.d)).1⟩⟩
theorem w8 (he : cg F e ρ t) (hs : ∀ i,swapsWith e none pos.line (F.cx i).env = pure false := by intro _; rfl) : Rn F (.Expr e pos) ρ (.nx ρ) := by
  obtain ⟨τ,y,z⟩ := he
  refine ⟨jL τ,fun i => kx (y i) (hs i),fun D σ G0 H0 G H r k => ?_⟩
  obtain ⟨fp,r⟩ := r
  refine z σ G H fp _ r.st.s r.own r.g fun v G1 H1 fq s1 o w => k σ G1 H1 ⟨fp,r.st.trans s1,r.own.mono s1.g s1.h,r.own.off s1 r.g,r.n,r.d⟩
theorem yc {p : Bool} (hc : fm F c ρ p) (h1 : p = true -> bI F A ρ o) (h2 : p = false -> bI F B ρ o) : Rn F (.If c A B pos) ρ o := by
  obtain ⟨τ,y,z⟩ := hc
  have key : ∀ {G0 H0 G H G1 H1 : Hp} {σ : St} {fp : List Addr},dH F.K G0 H0 G H ρ σ fp -> Step G H G1 H1 -> RS F.K G0 H0 G1 H1 ρ σ := fun {G0 H0 G H G1 H1 σ fp} r s1 => ⟨fp,r.st.trans s1,r.own.mono s1.g s1.h,r.own.off s1 r.g,r.n,r.d⟩
  cases p with
  | true =>
    obtain ⟨bT,x',y'⟩ := h1 rfl
    refine ⟨tI τ bT pT,fun i => x4 (y i) (x' i) rW,fun D σ G0 H0 G H r k => ?_⟩
    obtain ⟨fp,r⟩ := r
    exact z σ G H fp _ r.st.s r.own r.g fun G1 H1 s1 => jQ (y' D σ G0 H0 G1 H1 (key r s1) k)
  | false =>
    obtain ⟨bT,x',y'⟩ := h2 rfl
    refine ⟨tI τ pT bT,fun i => x4 (y i) rW (x' i),fun D σ G0 H0 G H r k => ?_⟩
    obtain ⟨fp,r⟩ := r
    exact z σ G H fp _ r.st.s r.own r.g fun G1 H1 s1 => ja (y' D σ G0 H0 G1 H1 (key r s1) k)
theorem su {α : Type} : ∀ {l : List α} {j : Nat} {v : α},l[j]? = some v -> l.set j v = l
  | _ :: _,0,_,h => by cases h; rfl
  | _ :: _,j + 1,_,h => by rw [List.set_cons_succ,su (l := _) (j := j) h]
theorem ML (j : Nat) (hj : ρ[j]? = some (some t)) (h : bI F cz (ρ.set j (some (.fz (er t)))) o) : bI F cz ρ o := by
  obtain ⟨τ,x,y⟩ := h
  refine ⟨τ,x,fun D σ G0 H0 G H r k => ?_⟩
  obtain ⟨fp,r⟩ := r
  obtain ⟨v,f,fr,q1,q2,q3,q4⟩ := r.own.split hj
  have nd := List.nodup_append.mp (q4.nodup_iff.mp r.d)
  have sub : ∀ a ∈ f,a ∈ fp := fun a ha => q4.mem_iff.mpr (List.mem_append_left _ ha)
  have HV : ∀ a ∈ fr,a ∈ fp := fun a ha => q4.mem_iff.mpr (List.mem_append_right _ ha)
  have sm : ai G (ef G H f) := ik fun a ha => r.g a (sub a ha)
  have lt : j < ρ.length := by
    rcases Nat.lt_or_ge j ρ.length with z | z
    · exact z
    · rw [List.getElem?_eq_none z] at hj; cases hj
  obtain ⟨gg,p1,p2⟩ := (q3.mono sm (ai.refl _)).put (f := []) (t := .fz (er t)) (oN lt) ⟨rfl,q2.hv sm fun a ha => iU ha⟩
  rw [List.set_set,su q1] at p1
  refine y D σ G0 H0 (ef G H f) H ⟨gg,⟨r.st.g.trans sm,r.st.h,ph r.st.s,fun a h h' => ?_⟩,p1,fun a ha => ?_,fun a ha => r.n a (HV a (p2.mem_iff.mp ha)),p2.nodup_iff.mpr nd.2.1⟩ k
  · by_cases z : a ∈ f
    · exact r.n a (sub a z)
    · rw [m7 z] at h'; exact r.st.n a h h'
  · have z := p2.mem_iff.mp ha
    rw [m7 fun z' => nd.2.2 a z' a z rfl]
    exact r.g a (HV a z)
theorem dH.chg {K : PySem.W.Frag} {G0 H0 G H G1 H1 : Hp} {ρ : En} {σ : St} {fp : List Addr} {j : Nat} {t : Tr} (r : dH K G0 H0 G H ρ σ fp) (hj : ρ[j]? = some (some t)) (s1 : Step G H G1 H1) :
    ∃ v f,σ[j]? = some (some v) /\ Ow K G H t v f /\ Ow K G1 H1 t v f /\ f.Nodup /\ (∀ a ∈ f,a ∈ fp) /\ ∀ l o t' f',l ∈ f -> Ow K G1 (upd H1 l o) t' v f' -> f'.Nodup -> (∀ a ∈ f',a ∈ f \/ (H a = none /\ G1 a = none)) -> RS K G0 H0 G1 (upd H1 l o) (ρ.set j (some t')) σ := by
  obtain ⟨v,f,fr,q1,q2,q3,q4⟩ := r.own.split hj
  have cY := List.nodup_append.mp (q4.nodup_iff.mp r.d)
  have jo : ∀ a ∈ f,a ∈ fp := fun a ha => q4.mem_iff.mpr (List.mem_append_left _ ha)
  have Jz : ∀ a ∈ fr,a ∈ fp := fun a ha => q4.mem_iff.mpr (List.mem_append_right _ ha)
  have lt : j < ρ.length := by
    rcases Nat.lt_or_ge j ρ.length with z | z
    · exact z
    · rw [List.getElem?_eq_none z] at hj; cases hj
  have lG : ∀ a ∈ fp,G1 a = none := fun a ha => by
    cases q : G1 a with
    | none => rfl
    | some u =>
      obtain ⟨u',aT⟩ := r.own.there a ha
      have := s1.n a (r.g a ha) (by rw [q]; exact fun z => nomatch z)
      rw [aT] at this; cases this
  refine ⟨v,f,q1,q2,q2.mono s1.g s1.h,cY.1,jo,fun l o t' f' hl ow nw hw => ?_⟩
  have new : ∀ a,H a = none -> a ∉ fp := fun a ha hb => by
    obtain ⟨u,hu⟩ := r.own.there a hb
    rw [ha] at hu; cases hu
  have Xz : aE K G1 (upd H1 l o) (ρ.set j none) σ fr := (q3.mono s1.g s1.h).frame fun z => cY.2.2 l hl l z rfl
  obtain ⟨gg,JA,ud⟩ := Xz.put (oN lt) ow
  rw [List.set_set,su q1] at JA
  have HW : ∀ a ∈ gg,a ∈ fp \/ (H a = none /\ G1 a = none) := fun a ha => by
    rcases List.mem_append.mp (ud.mem_iff.mp ha) with z | z
    · exact (hw a z).imp (jo a) id
    · exact .inl (Jz a z)
  refine ⟨gg,⟨(r.st.trans s1).g,fun b u hb => ?_,fun b u hb => ?_,(r.st.trans s1).n⟩,JA,fun a ha => ?_,fun a ha => ?_,?_⟩
  · have ft := (r.st.trans s1).h b u hb
    rw [aP fun z => ?_]
    · exact ft
    · subst z; rw [r.n _ (jo _ hl)] at hb; cases hb
  · have ft := s1.s b u hb
    rw [aP fun z => ?_]
    · exact ft
    · subst z; rw [lG _ (jo _ hl)] at hb; cases hb
  · exact (HW a ha).elim (lG a) fun z => z.2
  · exact (HW a ha).elim (r.n a) fun z => r.st.h.free z.1
  · refine ud.nodup_iff.mpr (List.nodup_append.mpr ⟨nw,cY.2.1,fun a ha b hb z => ?_⟩)
    subst z
    rcases hw a ha with z | z
    · exact cY.2.2 a z a hb rfl
    · exact new a z.1 (Jz a hb)
theorem dH.mut {K : PySem.W.Frag} {G0 H0 G H G1 H1 : Hp} {ρ : En} {σ : St} {fp : List Addr} {j : Nat} {us : List Tr} (r : dH K G0 H0 G H ρ σ fp) (hj : ρ[j]? = some (some (.ow us))) (s1 : Step G H G1 H1) :
    ∃ l vs fq,σ[j]? = some (some (.ref l)) /\ H l = some (.lst vs) /\ H1 l = some (.lst vs) /\ aB K G1 H1 us vs fq /\ fq.Nodup /\ (∀ a ∈ fq,a ∈ fp) /\ ∀ uf ws fw,aB K G1 H1 uf ws fw -> fw.Nodup -> (∀ a ∈ fw,a ∈ fq \/ (H a = none /\ G1 a = none)) -> RS K G0 H0 G1 (upd H1 l (.lst ws)) (ρ.set j (some (.ow uf))) σ := by
  obtain ⟨v,f,q1,q2,q3,nd,jo,q⟩ := r.chg hj s1
  obtain ⟨l,vs,fq,rfl,hl,ol,rfl⟩ := q3
  obtain ⟨l',lQ,JB,e1,ug,_,e2⟩ := q2
  cases e1
  have ev : lQ = vs := by
    have := s1.h _ _ ug
    rw [hl] at this
    cases this; rfl
  subst ev
  have JC := List.nodup_cons.mp nd
  refine ⟨l,lQ,fq,q1,ug,hl,ol,JC.2,fun a ha => jo a (.tail _ ha),fun uf ws fw ow nw hw => ?_⟩
  have JD : l ∉ fw := fun z => (hw l z).elim JC.1 fun z => by rw [z.1] at ug; cases ug
  exact q l (.lst ws) (.ow uf) (l :: fw) (.head _) ⟨l,ws,fw,rfl,ck,ow.frame JD,rfl⟩ (List.nodup_cons.mpr ⟨JD,nw⟩) fun a ha => (List.mem_cons.mp ha).elim (fun z => .inl (z ▸ .head _)) fun z => (hw a z).imp (fun z => .tail _ z) id
theorem rZ (j : Nat) {x : Str} {us : List Tr} {p1 p2 p3 : Pos} (h : ρ[j]? = some (some (.ow us))) (he : cg F e ρ t) (hz : us.length < sizeLine) (hN : ∀ i,(F.cx i).N[j]? = some x := by intro _; rfl)
    (hv : ∀ i,gS (F.cx i).env.scope x := by intro _; first | exact Or.inl rfl | exact Or.inr (Or.inl rfl) | exact Or.inr (Or.inr rfl)) (hd : (x == ("__debug__" : Str)) = false := by decide) (hc : (x == ("__classdict__" : Str)) = false := by decide)
    (gL : ∀ i,attributeBase (.Name x p1) "append" (F.cx i).env (eval (.Name x p1) (F.cx i).env) = eval (.Name x p1) (F.cx i).env := by intro _; rfl)
    (gQ : ∀ i,((backTo p3 (starEach [e] (F.cx i).env)).all (fun x => !x.1) && (backToKw p3 (keywordEach [] (F.cx i).env)).all (fun x => x.1.isSome) && decide (([e] : List Expr).length + ([] : List Keyword).length + (if ([] : List Keyword).isEmpty then 0 else 1) < 30)) = true := by intro _; rfl)
    (hline : (p2.endLine == p3.line) = true := by rfl) (hs : ∀ i,starEach [e] (F.cx i).env = [(false,eval e (F.cx i).env)] := by intro _; rfl) (jq : ∀ i,swapsWith (.Call (.Attribute (.Name x p1) "append" p2) [e] [] p3) none pos.line (F.cx i).env = pure false := by intro _; rfl) :
    Rn F (.Expr (.Call (.Attribute (.Name x p1) "append" p2) [e] [] p3) pos) ρ (.nx (ρ.set j (some (.ow (us ++ [t]))))) := by
  obtain ⟨τ,y,z⟩ := he
  refine ⟨jL (fZ F.K "list" ky (bb j) (bt τ cm)),fun i => kx (F.hK i ▸ jM PySem.F.plainAttrs_list PySem.F.slot_list_append PySem.F.type_list_append mY (kC (hN i) (hv i) hd hc) (bB (y i) cB (hs i)) (gL i) (gQ i) hline (hs i) rfl) (jq i),fun D σ G0 H0 G H r k => ?_⟩
  obtain ⟨fp,r⟩ := r
  obtain ⟨l0,zZ,z0,c1,c2,_⟩ := r.mut h (.refl r.st.s)
  refine ⟨_,c1,.inl ⟨rfl,_,aD.of c2⟩,?_⟩
  refine z σ G H fp _ r.st.s r.own r.g fun v1 G1 H1 f1 s1 o1 w1 => ?_
  obtain ⟨l,vs,fq,d1,d2,d3,d4,d5,d6,d7⟩ := r.mut h s1
  rw [c1] at d1
  cases d1
  refine ⟨l0,vs,v1,rfl,rfl,d3,by rw [<- d4.length]; exact hz,k σ G1 _ (d7 (us ++ [t]) (vs ++ [v1]) (fq ++ (f1 ++ [])) (d4.append ⟨v1,[],f1,[],rfl,rfl,o1,rfl,rfl⟩) ?_ fun a ha => ?_)⟩
  · rw [List.append_nil]
    refine List.nodup_append.mpr ⟨d5,w1.d,fun a ha b hb e => ?_⟩
    subst e
    obtain ⟨u,hu⟩ := r.own.there a (d6 a ha)
    rw [w1.n a hb] at hu; cases hu
  · rw [List.append_nil] at ha
    exact (List.mem_append.mp ha).imp id fun z => ⟨w1.n a z,w1.g a z⟩
theorem vZ (j : Nat) {x : Str} {us : List Tr} {p1 p2 p3 : Pos} (h : ρ[j]? = some (some (.ow us))) {lQ : List Tr} (he : cg F e ρ (.ow lQ)) (hz : us.length + lQ.length <= sizeLine) (hN : ∀ i,(F.cx i).N[j]? = some x := by intro _; rfl)
    (hv : ∀ i,gS (F.cx i).env.scope x := by intro _; first | exact Or.inl rfl | exact Or.inr (Or.inl rfl) | exact Or.inr (Or.inr rfl)) (hd : (x == ("__debug__" : Str)) = false := by decide) (hc : (x == ("__classdict__" : Str)) = false := by decide)
    (gL : ∀ i,attributeBase (.Name x p1) "extend" (F.cx i).env (eval (.Name x p1) (F.cx i).env) = eval (.Name x p1) (F.cx i).env := by intro _; rfl)
    (gQ : ∀ i,((backTo p3 (starEach [e] (F.cx i).env)).all (fun x => !x.1) && (backToKw p3 (keywordEach [] (F.cx i).env)).all (fun x => x.1.isSome) && decide (([e] : List Expr).length + ([] : List Keyword).length + (if ([] : List Keyword).isEmpty then 0 else 1) < 30)) = true := by intro _; rfl)
    (hline : (p2.endLine == p3.line) = true := by rfl) (hs : ∀ i,starEach [e] (F.cx i).env = [(false,eval e (F.cx i).env)] := by intro _; rfl) (jq : ∀ i,swapsWith (.Call (.Attribute (.Name x p1) "extend" p2) [e] [] p3) none pos.line (F.cx i).env = pure false := by intro _; rfl) :
    Rn F (.Expr (.Call (.Attribute (.Name x p1) "extend" p2) [e] [] p3) pos) ρ (.nx (ρ.set j (some (.ow (us ++ lQ))))) := by
  obtain ⟨τ,y,z⟩ := he
  refine ⟨jL (fZ F.K "list" pC (bb j) (bt τ cm)),fun i => kx (F.hK i ▸ jM PySem.F.plainAttrs_list PySem.F.slot_list_extend PySem.F.type_list_extend Dm (kC (hN i) (hv i) hd hc) (bB (y i) cB (hs i)) (gL i) (gQ i) hline (hs i) rfl) (jq i),fun D σ G0 H0 G H r k => ?_⟩
  obtain ⟨fp,r⟩ := r
  obtain ⟨l0,zZ,z0,c1,c2,_⟩ := r.mut h (.refl r.st.s)
  refine ⟨_,c1,.inl ⟨rfl,_,aD.of c2⟩,?_⟩
  refine z σ G H fp _ r.st.s r.own r.g fun v1 G1 H1 f1 s1 o1 w1 => ?_
  obtain ⟨l,vs,fq,d1,d2,d3,d4,d5,d6,d7⟩ := r.mut h s1
  rw [c1] at d1
  cases d1
  obtain ⟨b,zs,XA,rfl,hb,ob,rfl⟩ := o1
  have wd := List.nodup_cons.mp w1.d
  refine ⟨l0,b,vs,zs,rfl,rfl,d3,hb,by rw [<- d4.length,<- ob.length]; exact hz,k σ G1 _ (d7 (us ++ lQ) (vs ++ zs) (fq ++ XA) (d4.append ob) ?_ fun a ha => ?_)⟩
  · refine List.nodup_append.mpr ⟨d5,wd.2,fun a ha b hb e => ?_⟩
    subst e
    obtain ⟨u,hu⟩ := r.own.there a (d6 a ha)
    rw [w1.n a (.tail _ hb)] at hu; cases hu
  · exact (List.mem_append.mp ha).imp id fun z => ⟨w1.n a (.tail _ z),w1.g a (.tail _ z)⟩
end
end L2
namespace L2
open PySem PySem.Spec PyProof.Rows
def z4 (K : PySem.W.Frag) (G : Hp) (J : It) (its : List Dv) : Prop := ∀ k G1 H1,ai G G1 -> ai G1 H1 ->
  (∀ d,its[k]? = some d -> J.go k H1 /\ ∀ x H3,J.lH k H1 x H3 -> ∃ G3,Step G1 H1 G3 H3 /\ Hv K G3 d x) /\ (k = its.length -> J.stop k H1)
def bF {α : Type} : List Nat -> List α -> List (Option α) -> List (Option α)
  | j :: js,v :: vs,σ => bF js vs (σ.set j (some v))
  | _,_,σ => σ
def fN {α : Type} : List Nat -> List (Option α) -> List (Option α)
  | [],ρ => ρ
  | j :: js,ρ => fN js (ρ.set j none)
theorem RS.fN {K : PySem.W.Frag} {G0 H0 G H : Hp} : ∀ {ρ : En} {σ : St} (js : List Nat),RS K G0 H0 G H ρ σ -> RS K G0 H0 G H (L2.fN js ρ) σ
  | _,_,[],r => r
  | _,_,j :: js,r => RS.fN js (r.forget j)
def Fg (ρ ρ' : En) : Prop := ∃ fs,L2.fN fs ρ = ρ'
theorem Fg.rs {K : PySem.W.Frag} {G0 H0 G H : Hp} {ρ ρ' : En} {σ : St} (f : Fg ρ ρ') (r : RS K G0 H0 G H ρ σ) : RS K G0 H0 G H ρ' σ := by
  obtain ⟨fs,rfl⟩ := f
  exact r.fN fs
theorem RS.bF {K : PySem.W.Frag} {G0 H0 G H : Hp} : ∀ {js : List Nat} {ds : List Dv} {vs : List V} {ρ : En} {σ : St},(∀ j ∈ js,j < ρ.length) -> aI K G ds vs -> RS K G0 H0 G H ρ σ -> RS K G0 H0 G H (L2.bF js (ds.map .fz) ρ) (L2.bF js vs σ)
  | [],_,_,_,_,_,_,r => r
  | _ :: _,[],_,_,_,_,h,r => by rw [show _ = [] from h]; exact r
  | j :: js,d :: ds,_,ρ,σ,hj,⟨x,q,h1,h2,h3⟩,⟨fp,r⟩ => by
    subst h1
    have r' : RS K G0 H0 G H (ρ.set j (some (.fz d))) (σ.set j (some x)) := r.set (t := .fz d) (v := x) (fq := []) (hj j (.head _)) (.refl r.st.s) ⟨rfl,h2⟩ .nil
    exact RS.bF (js := js) (ds := ds) (fun i hi => by rw [List.length_set]; exact hj i (.tail _ hi)) h3 r'
theorem bS.set {K : PySem.W.Frag} {G : Hp} {ρ : En} {σ : St} {j : Nat} {d : Dv} {v : V} (r : bS K G ρ σ) (hj : j < σ.length) (h : Hv K G d v) : bS K G (ρ.set j (some (.fz d))) (σ.set j (some v)) := fun i e hi => by
  by_cases q : i = j
  · subst q
    rw [List.getElem?_set_self (by
      rcases Nat.lt_or_ge i ρ.length with z | z
      · exact z
      · rw [List.getElem?_eq_none (by rw [List.length_set]; exact z)] at hi; cases hi)] at hi
    cases hi
    exact ⟨v,by rw [List.getElem?_set_self hj],h⟩
  · rw [List.getElem?_set_ne (Ne.symm q)] at hi
    obtain ⟨u,h1,h2⟩ := r i e hi
    exact ⟨u,by rw [List.getElem?_set_ne (Ne.symm q)]; exact h1,h2⟩
theorem vR {α : Type} : ∀ (js : List Nat) (vs : List α) (σ : List (Option α)),(bF js vs σ).length = σ.length
  | [],_,_ => rfl
  | _ :: _,[],_ => rfl
  | j :: js,v :: vs,σ => by
    show (bF js vs (σ.set j (some v))).length = _
    rw [vR js vs,List.length_set]
theorem bS.bF {K : PySem.W.Frag} {G : Hp} : ∀ {js : List Nat} {ds : List Dv} {vs : List V} {ρ : En} {σ : St},(∀ j ∈ js,j < σ.length) -> aI K G ds vs -> bS K G ρ σ -> bS K G (L2.bF js (ds.map .fz) ρ) (L2.bF js vs σ)
  | [],_,_,_,_,_,_,r => r
  | _ :: _,[],_,_,_,_,h,r => by rw [show _ = [] from h]; exact r
  | j :: js,d :: ds,_,ρ,σ,hj,⟨x,q,h1,h2,h3⟩,r => by
    subst h1
    exact bS.bF (js := js) (ds := ds) (ρ := ρ.set j (some (.fz d))) (fun i hi => by rw [List.length_set]; exact hj i (.tail _ hi)) h3 (r.set (hj j (.head _)) h2)
section
variable {ι : Type}
def bA (F : aU ι) (tg iter : Expr) (ρ : En) (its : List Dv) : Prop := ∃ wi : TI,(∀ i,PI (F.cx i) tg iter wi) /\ ∀ σ G H (R : It -> Hp -> Prop),ai G H -> bS F.K G ρ σ -> (∀ J G' H',Step G H G' H' -> z4 F.K G' J its -> R J H') -> wi σ H R
def yY (F : aU ι) (tg iter : Expr) (ρ : En) (its : List Dv) : Prop := ∃ wi : TI,(∀ i,PI (F.cx i) tg iter wi) /\ ∀ σ G H fp (R : It -> Hp -> Prop),ai G H -> aE F.K G H ρ σ fp -> (∀ a ∈ fp,G a = none) -> (∀ J G' H',Step G H G' H' -> z4 F.K G' J its -> R J H') -> wi σ H R
def iL (F : aU ι) (tg : Expr) (js : List Nat) (sp : Dv -> Option (List Dv)) : Prop := ∃ g : TG,(∀ i,PG (F.cx i) tg g) /\ ∀ d dd v σ G H Q,sp d = some dd -> ai G H -> Hv F.K G d v -> (∀ vs,aI F.K G dd vs -> Q (bF js vs σ) H) -> g v σ H Q
def uS (F : aU ι) (cz : List Stmt) : TS := fun D σ H => ∃ τ : TS,(∀ i,eM (F.cx i) cz τ) /\ τ D σ H
theorem Hl {F : aU ι} {cz : List Stmt} (i : ι) : eM (F.cx i) cz (uS F cz) := fun pins s σ H D I ⟨τ,h,q⟩ => h i pins s σ H D I q
def uT (F : aU ι) (e : Expr) : TT := fun σ H Q => ∃ τ : TT,(∀ i,PT (F.cx i) e τ) /\ τ σ H Q
theorem yd {F : aU ι} {e : Expr} (i : ι) : PT (F.cx i) e (uT F e) := fun pins s σ H D I ⟨τ,h,q⟩ => h i pins s σ H D I q
def uE (F : aU ι) (e : Expr) : TE := fun σ H Q => ∃ τ : TE,(∀ i,PE (F.cx i) e τ) /\ τ σ H Q
theorem jO {F : aU ι} {e : Expr} (i : ι) : PE (F.cx i) e (uE F e) := fun pins s σ H D I ⟨τ,h,q⟩ => h i pins s σ H D I q
variable {F : aU ι} {e a b c tg iter elt : Expr} {es : List Expr} {ρ ρ1 : En} {t ta : Tr} {ts : List Tr} {pos : Pos} {o : Out} {body : List Stmt} {its : List Dv} {js : List Nat} {sp : Dv -> Option (List Dv)}
theorem bA.s (h : bA F tg iter ρ its) : yY F tg iter ρ its := let ⟨w,x,y⟩ := h; ⟨w,x,fun σ G H fp R s r _ k => y σ G H R s r.oy k⟩
theorem bJ (j : Nat) {x : Str} (hN : ∀ i,(F.cx i).N.Nodup) (hi : ∀ i,(F.cx i).N[j]? = some x := by intro _; rfl) (hx : ∀ i,Loc (F.cx i).env.scope x := by intro _; first | exact Or.inl rfl | exact Or.inr rfl)
    (hf : ∀ i,(F.cx i).fn x = true \/ (F.cx i).env.scope.names.lookup x = some .local := by intro _; first | exact .inl rfl | exact .inr rfl) : iL F (.Name x pos) [j] (fun d => some [d]) :=
  ⟨cU j,fun i => iS (hN i) (hi i) (hx i) (hf i),fun d dd v σ G H Q e s h k => by
    cases e
    exact k [v] ⟨v,[],rfl,h,rfl⟩⟩
def Hm (n : Nat) : Dv -> Option (List Dv)
  | .tup ds => if ds.length = n then some ds else none
  | _ => none
theorem cT {xs : List Dv} (ha : Ev F e ρ ta) (ea : er ta = .lst xs) : bA F tg e ρ xs := by
  obtain ⟨τ,p,q⟩ := ha.use
  refine ⟨kK F.K τ,fun i => F.hK i ▸ pB (p i),fun σ G H R s r k => q σ G H _ s r fun x G1 H1 s1 hx => ?_⟩
  rw [ea] at hx
  obtain ⟨l,vs,rfl,h1,h2⟩ := hx
  refine ⟨l,rfl,⟨vs,s1.s.seq h1⟩,k _ G1 H1 s1 fun j G2 H2 sg sh => ⟨fun d hd => ?_,fun hz => ⟨vs,(sg.trans sh).seq h1,by rw [<- h2.length,hz]; exact Nat.le_refl _⟩⟩⟩
  obtain ⟨v,q1,q2⟩ := h2.get hd
  refine ⟨⟨vs,v,(sg.trans sh).seq h1,q1⟩,?_⟩
  rintro x H3 ⟨rfl,hx⟩
  have := hx vs ((sg.trans sh).seq h1)
  rw [q1] at this
  cases this
  exact ⟨G2,.refl sh,q2.mono sg⟩
abbrev fi (lo : Int) (n : Nat) : List Dv := (List.range n).map fun k => di (lo + (k : Nat))
theorem Pn {K : PySem.W.Frag} {G : Hp} (lo : Int) (n : Nat) : z4 K G (lI lo n) (fi lo n) := fun k G1 H1 sg sh => by
  refine ⟨fun d hd => ?_,fun hz => by show n <= k; rw [hz]; simp⟩
  rw [List.getElem?_map] at hd
  rcases Nat.lt_or_ge k n with hk | hk
  · rw [List.getElem?_range hk] at hd
    cases hd
    refine ⟨hk,?_⟩
    rintro x H3 ⟨rfl,rfl⟩
    exact ⟨G1,.refl sh,rfl,rfl⟩
  · rw [List.getElem?_eq_none (by simpa using hk)] at hd; cases hd
theorem fG {n : Int} (hm : F.mg "range" = none) (ha : Ev F a ρ (ti n)) (hb : -(2 ^ 62) <= n /\ n < 2 ^ 62) {p : Pos} (hg : ∀ i,Gl (F.cx i) "range" := by intro _; rfl) (hs : ∀ i,starEach [a] (F.cx i).env = [(false,eval a (F.cx i).env)] := by intro _; rfl) : bA F tg (.Call (.Name "range" p) [a] [] pos) ρ (fi 0 n.toNat) := by
  obtain ⟨τ,p,q⟩ := ha.use
  refine ⟨tf (bt τ cm),fun i => Df (hg i) ((F.hm i).symm ▸ hm) (bB (p i) cB (hs i)) (hs i),fun σ G H R s r k => q σ G H _ s r fun x G1 H1 s1 hx => ?_⟩
  exact ⟨n,by rw [aO hx],hb.1,hb.2,k _ G1 H1 s1 (Pn 0 n.toNat)⟩
theorem HX {js : List Nat} {n : Nat} (h : js.all (fun j => Nat.blt j n) = true) : ∀ j ∈ js,j < n := fun j hj => Nat.le_of_ble_eq_true (List.all_eq_true.mp h j hj)
theorem nZ {i : ι} (hx : (F.cx i).xe = cu) : PassesOwn (model (F.cx i).prog (F.cx i).w) (F.cx i).A (F.cx i).env (F.cx i).xe := by rw [hx]; exact PassesOwn.never
theorem MM (hi : yY F tg iter ρ its) (hg : iL F tg js sp) (inv : Nat -> En) (m : Nat) (hm : m <= its.length) (h0 : inv 0 = ρ) (hlen : ∀ k,js.all (fun j => Nat.blt j (inv k).length) = true)
    (step : ∀ k d,k < m -> its[k]? = some d -> ∃ dd oz,sp d = some dd /\ bI F body (bF js (dd.map .fz) (inv k)) (.nx oz) /\ Fg oz (inv (k + 1)))
    (fin : (m = its.length /\ o = .nx (inv m)) \/ ∃ d dd t,its[m]? = some d /\ sp d = some dd /\ bI F body (bF js (dd.map .fz) (inv m)) (.rt t) /\ o = .rt t)
    (hx : ∀ i,(F.cx i).xe = cu := by intro _; rfl) (hs : ∀ i x,foldedSetIterable iter (F.cx i).env x = pure x := by intro _ _; rfl) : Rn F (.For tg iter body [] pos) ρ o := by
  obtain ⟨wi,p,q⟩ := hi
  obtain ⟨g,pg,qg⟩ := hg
  subst h0
  refine ⟨jP wi g (uS F body),fun i => pV (nZ (hx i)) (F.calm i) (p i) (pg i) (Hl i) (hs i),fun D σ G0 H0 G H r k => ?_⟩
  obtain ⟨fp,r⟩ := r
  refine q σ G H fp _ r.st.s r.own r.g fun J G1 H1 s1 it => ?_
  have r1 : dH F.K G0 H0 G1 H1 (inv 0) σ fp := ⟨r.st.trans s1,r.own.mono s1.g s1.h,r.own.off s1 r.g,r.n,r.d⟩
  have kb := k.under r1.base
  refine ⟨fun k m' ao H' => m' = its.length - k /\ k <= m /\ ∃ G',RS F.K G1 (less H1 fp) G' H' (inv k) ao,⟨_,rfl,Nat.zero_le _,G1,fp,r1.rebase⟩,?_⟩
  rintro n m' ao H' ⟨rfl,hn,G',r'⟩
  obtain ⟨gg,r'⟩ := r'
  obtain ⟨i1,i2⟩ := it n G' H' r'.st.g r'.st.s
  by_cases aS : n < m
  · have hd : its[n]? = some its[n] := List.getElem?_eq_getElem (by omega)
    obtain ⟨j1,j2⟩ := i1 _ hd
    refine .inr ⟨j1,fun bg H2 => ∃ G2,RS F.K G1 (less H1 fp) G2 H2 (inv (n + 1)) bg,fun bg H2 z => ⟨its.length - (n + 1),by omega,rfl,aS,z⟩,fun x H3 y => ?_⟩
    obtain ⟨G3,s3,h3⟩ := j2 x H3 y
    obtain ⟨dd,oz,e1,⟨τ,pb,qb⟩,e2⟩ := step n _ aS hd
    refine qg _ dd x ao G3 H3 _ e1 s3.s h3 fun vs rm => ⟨τ,pb,qb _ _ G1 (less H1 fp) G3 H3 (RS.bF (HX (hlen n)) rm ⟨gg,r'.st.trans s3,r'.own.mono s3.g s3.h,fun a ha => ?_,r'.n,r'.d⟩) fun XB G4 H4 r4 => ⟨G4,e2.rs r4⟩⟩
    cases q : G3 a with
    | none => rfl
    | some u =>
      obtain ⟨u',aT⟩ := r'.own.there a ha
      have := s3.n a (r'.g a ha) (by rw [q]; exact fun z => nomatch z)
      rw [aT] at this; cases this
  · have en : n = m := by omega
    subst en
    rcases fin with ⟨e,rfl⟩ | ⟨d,dd,t,hd,e1,⟨τ,pb,qb⟩,rfl⟩
    · refine .inl ⟨i2 e,kb ao G' H' ⟨gg,r'⟩⟩
    · obtain ⟨j1,j2⟩ := i1 d hd
      refine .inr ⟨j1,fun _ _ => False,fun _ _ z => z.elim,fun x H3 y => ?_⟩
      obtain ⟨G3,s3,h3⟩ := j2 x H3 y
      refine qg d dd x ao G3 H3 _ e1 s3.s h3 fun vs rm => ⟨τ,pb,qb _ _ G1 (less H1 fp) G3 H3 (RS.bF (HX (hlen n)) rm ⟨gg,r'.st.trans s3,r'.own.mono s3.g s3.h,fun a ha => ?_,r'.n,r'.d⟩) kb⟩
      cases q : G3 a with
      | none => rfl
      | some u =>
        obtain ⟨u',aT⟩ := r'.own.there a ha
        have := s3.n a (r'.g a ha) (by rw [q]; exact fun z => nomatch z)
        rw [aT] at this; cases this
theorem eE (hi : yY F tg iter ρ its) (hg : iL F tg js sp) (inv : Nat -> En) (h0 : inv 0 = ρ) (hlen : ∀ k,js.all (fun j => Nat.blt j (inv k).length) = true)
    (step : ∀ k d,its[k]? = some d -> ∃ dd oz,sp d = some dd /\ bI F body (bF js (dd.map .fz) (inv k)) (.nx oz) /\ Fg oz (inv (k + 1)))
    (hx : ∀ i,(F.cx i).xe = cu := by intro _; rfl) (hs : ∀ i x,foldedSetIterable iter (F.cx i).env x = pure x := by intro _ _; rfl) : Rn F (.For tg iter body [] pos) ρ (.nx (inv its.length)) :=
  MM hi hg inv its.length (Nat.le_refl _) h0 hlen (fun k d _ h => step k d h) (.inl ⟨rfl,rfl⟩) hx hs
theorem Oe (inv : Nat -> En) (n : Nat) (h0 : inv 0 = ρ) (turn : ∀ k,k < n -> fm F c (inv k) true /\ bI F body (inv k) (.nx (inv (k + 1)))) (stop : fm F c (inv n) false)
    (hx : ∀ i,(F.cx i).xe = cu := by intro _; rfl) : Rn F (.While c body [] pos) ρ (.nx (inv n)) := by
  subst h0
  refine ⟨Fs (uT F c) (uS F body),fun i => NX (nZ (hx i)) (yd i) (Hl i),fun D σ G0 H0 G H r k => ?_⟩
  refine ⟨fun m' ao H' => ∃ j G',j <= n /\ m' = n - j /\ RS F.K G0 H0 G' H' (inv j) ao,⟨_,0,G,Nat.zero_le _,rfl,r⟩,?_⟩
  rintro m' ao H' ⟨j,G',hj,rfl,fp,r'⟩
  have key : ∀ {G1 H1 : Hp},Step G' H' G1 H1 -> RS F.K G0 H0 G1 H1 (inv j) ao := fun {G1 H1} s1 => ⟨fp,r'.st.trans s1,r'.own.mono s1.g s1.h,r'.own.off s1 r'.g,r'.n,r'.d⟩
  by_cases aS : j < n
  · obtain ⟨⟨τ,x,y⟩,⟨bT,x',y'⟩⟩ := turn j aS
    refine ⟨τ,x,y ao G' H' fp _ r'.st.s r'.own r'.g fun G1 H1 s1 => jQ ⟨fun bg H2 => ∃ G2,RS F.K G0 H0 G2 H2 (inv (j + 1)) bg,fun bg H2 ⟨G2,z⟩ => ⟨n - (j + 1),by omega,j + 1,G2,aS,rfl,z⟩,bT,x',?_⟩⟩
    exact y' _ ao G0 H0 G1 H1 (key s1) fun XB G4 H4 r4 => ⟨G4,r4⟩
  · have e : j = n := by omega
    subst e
    obtain ⟨τ,x,y⟩ := stop
    exact ⟨τ,x,y ao G' H' fp _ r'.st.s r'.own r'.g fun G1 H1 s1 => ja (k ao G1 H1 (key s1))⟩
theorem Ml {α : Type} (S : α -> En) (Pp : α -> Prop) (p : α -> Bool) (μ : α -> Nat) (hc : ∀ a,Pp a -> fm F c (S a) (p a)) (hb : ∀ a,Pp a -> p a = true -> ∃ a',Pp a' /\ μ a' < μ a /\ bI F body (S a) (.nx (S a'))) (a0 : α) (h0 : Pp a0)
    (hx : ∀ i,(F.cx i).xe = cu := by intro _; rfl) : ∃ a',Pp a' /\ p a' = false /\ Rn F (.While c body [] pos) (S a0) (.nx (S a')) := by
  have : ∀ (m : Nat) (a : α),μ a <= m -> Pp a -> ∃ (n : Nat) (f : Nat -> α),f 0 = a /\ (∀ k,k < n -> Pp (f k) /\ p (f k) = true /\ bI F body (S (f k)) (.nx (S (f (k + 1))))) /\ Pp (f n) /\ p (f n) = false := by
    intro m
    induction m with
    | zero =>
      intro a hm ha
      cases hp : p a with
      | false => exact ⟨0,fun _ => a,rfl,fun k hk => absurd hk (Nat.not_lt_zero _),ha,hp⟩
      | true =>
        obtain ⟨a',_,h2,_⟩ := hb a ha hp
        omega
    | succ m ih =>
      intro a hm ha
      cases hp : p a with
      | false => exact ⟨0,fun _ => a,rfl,fun k hk => absurd hk (Nat.not_lt_zero _),ha,hp⟩
      | true =>
        obtain ⟨a',h1,h2,h3⟩ := hb a ha hp
        obtain ⟨n,f,f0,f1,f2,f3⟩ := ih a' (by omega) h1
        refine ⟨n + 1,fun k => match k with | 0 => a | k + 1 => f k,rfl,fun k hk => ?_,f2,f3⟩
        cases k with
        | zero => exact ⟨ha,hp,by show bI F body (S a) (.nx (S (f 0))); rw [f0]; exact h3⟩
        | succ k => exact f1 k (by omega)
  obtain ⟨n,f,f0,f1,f2,f3⟩ := this (μ a0) a0 (Nat.le_refl _) h0
  refine ⟨f n,f2,f3,Oe (fun k => S (f k)) n (by rw [f0]) (fun k hk => ?_) (by have := hc _ f2; rw [f3] at this; exact this) hx⟩
  obtain ⟨g1,g2,g3⟩ := f1 k hk
  exact ⟨by have := hc _ g1; rw [g2] at this; exact this,g3⟩
structure S0 where
  C : Addr
  s : Shared
  H : Hp
  ex : List Addr
  pn : List (Addr × Obj)
def cy (F : aU ι) (own : List Str) (fr : List Nat) (sc : Scope) (cl : ι -> List (Str × Addr)) : aU (ι × S0) where
  cx i := cD (F.cx i.1) own fr sc (cl i.1) i.2.C i.2.s i.2.H i.2.ex i.2.pn
  P := F.P
  w := F.w
  K := F.K
  mg := F.mg
  base := F.base
  room := F.room
  hP i := F.hP i.1
  hw i := F.hw i.1
  hK i := F.hK i.1
  hm i := F.hm i.1
  hb i := F.hb i.1
  hr i := F.hr i.1
  calm i := F.calm i.1
def cn (own : List Str) (fr : List Nat) (ρ : En) : En := own.map (fun _ => none) ++ fr.map fun j => (ρ[j]?).join
theorem Ra {K : PySem.W.Frag} {G : Hp} {own : List Str} {fr : List Nat} {ρ : En} {σ : St} (r : bS K G ρ σ) : bS K G (cn own fr ρ) (pE own fr σ) := fun i d h => by
  unfold cn at h
  unfold pE
  by_cases hi : i < own.length
  · rw [List.getElem?_append_left (by simpa using hi),List.getElem?_map] at h
    cases q : own[i]? with
    | none => rw [q] at h; cases h
    | some z => rw [q] at h; cases h
  · rw [List.getElem?_append_right (by simpa using hi),List.getElem?_map,List.length_map] at h
    rw [List.getElem?_append_right (by simpa using hi),List.getElem?_map,List.length_map]
    cases q : fr[i - own.length]? with
    | none => rw [q] at h; cases h
    | some j =>
      rw [q] at h
      have h' : (ρ[j]?).join = some (.fz d) := Option.some.inj h
      have hj : ρ[j]? = some (some (.fz d)) := by
        cases q2 : ρ[j]? with
        | none => rw [q2] at h'; cases h'
        | some o => rw [q2] at h'; exact congrArg some h'
      obtain ⟨v,h1,h2⟩ := r j d hj
      refine ⟨v,?_,h2⟩
      show some ((σ[j]?).join) = _
      rw [h1]
      rfl
def El {κ : Type} (F : aU κ) (ifs : List Expr) (ρ : En) (b : Bool) : Prop := ∃ tt : TT,(∀ i (pins : List (Addr × Obj)) (s1 : Shared) (az : St) (H1 : Hp) (Q : Bool -> Hp -> Prop),Inv (F.cx i) pins az H1 s1 -> tt az H1 Q ->
      wpAny (model (F.cx i).prog (F.cx i).w) (F.cx i).A (iT ifs (F.cx i).env) (TP (F.cx i) pins az Q) cu s1) /\ ∀ σ G H Q,ai G H -> bS F.K G ρ σ -> (∀ G' H',Step G H G' H' -> Q b H') -> tt σ H Q
theorem nF : El F [] ρ true := ⟨sF,fun i pins s1 az H1 Q I h => Hg pins s1 az H1 Q I h,fun σ G H Q s r k => k G H (.refl s)⟩
theorem iX {p : Bool} (h : Et F c ρ p) (hx : ∀ i,(F.cx i).xe = cu := by intro _; rfl) : El F [c] ρ p := let ⟨τ,x,y⟩ := h; ⟨τ,fun i pins s1 az H1 Q I h => R3 (x i) (hx i) pins s1 az H1 Q I h,y⟩
def uL {κ : Type} (F : aU κ) (ifs : List Expr) : TT := fun σ H Q => ∃ tt : TT,(∀ i (pins : List (Addr × Obj)) (s1 : Shared) (az : St) (H1 : Hp) (Q : Bool -> Hp -> Prop),Inv (F.cx i) pins az H1 s1 -> tt az H1 Q ->
      wpAny (model (F.cx i).prog (F.cx i).w) (F.cx i).A (iT ifs (F.cx i).env) (TP (F.cx i) pins az Q) cu s1) /\ tt σ H Q
def uh (F : aU ι) (own : List Str) (fr : List Nat) (sc : Scope) (cl : ι -> List (Str × Addr)) (elt tg iter : Expr) (ifs : List Expr) (τ : TE) : Prop := ∃ wi g tt te,τ = ub wi g tt te own fr /\ (∀ i,PI (F.cx i) tg iter wi) /\ (∀ i,PG ((cy F own fr sc cl).cx i) tg g) /\
  (∀ i (pins : List (Addr × Obj)) (s1 : Shared) (az : St) (H1 : Hp) (Q : Bool -> Hp -> Prop),Inv ((cy F own fr sc cl).cx i) pins az H1 s1 -> tt az H1 Q -> wpAny (model ((cy F own fr sc cl).cx i).prog ((cy F own fr sc cl).cx i).w) ((cy F own fr sc cl).cx i).A (iT ifs ((cy F own fr sc cl).cx i).env) (TP ((cy F own fr sc cl).cx i) pins az Q) cu s1) /\
  ∀ i,PE ((cy F own fr sc cl).cx i) elt te
def eY (F : aU ι) (own : List Str) (fr : List Nat) (sc : Scope) (cl : ι -> List (Str × Addr)) (elt tg iter : Expr) (ifs : List Expr) (ρ : En) (t : Tr) : Prop := ∃ τ,uh F own fr sc cl elt tg iter ifs τ /\ ∀ σ G H Q,ai G H -> bS F.K G ρ σ -> Kv F.K G H t Q -> τ σ H Q
theorem rp {ifs : List Expr} {sc : Scope} {own : List Str} {fr : List Nat} {cl : ι -> List (Str × Addr)} (hi : bA F tg iter ρ its) (hg : iL (cy F own fr sc cl) tg js sp) (hU : ∀ j ∈ js,j < own.length)
    (p : Nat -> Bool) (f : Nat -> Tr) (hz : its.length < sizeLine)
    (step : ∀ k d,its[k]? = some d -> ∃ dd,sp d = some dd /\ El (cy F own fr sc cl) ifs (bF js (dd.map .fz) (cn own fr ρ)) (p k) /\ (p k = true -> Ev (cy F own fr sc cl) elt (bF js (dd.map .fz) (cn own fr ρ)) (f k)))
    (gq : ∀ dd : List Dv,fN js (bF js (dd.map .fz) (cn own fr ρ)) = cn own fr ρ) : eY F own fr sc cl elt tg iter ifs ρ (.ow (((List.range its.length).filter p).map f)) := by
  obtain ⟨wi,pi,qi⟩ := hi
  obtain ⟨g,pg,qg⟩ := hg
  refine ⟨_,⟨wi,g,uL (cy F own fr sc cl) ifs,uE (cy F own fr sc cl) elt,rfl,pi,pg,fun i pins s1 az H1 Q I h => by
      obtain ⟨tt,h1,h2⟩ := h
      exact h1 i pins s1 az H1 Q I h2,fun i => jO i⟩,fun σ G H Q s r k => ?_⟩
  refine qi σ G H _ s r fun J G1 H1 s1 it acc eK => ?_
  have k1 := k.step s1
  have FJ : ∀ {G' : Hp} {js' : List Nat} {ρ' : En} {ao : St},bS F.K G' ρ' ao -> bS F.K G' (fN js' ρ') ao := by
    intro G' js'
    induction js' with
    | nil => intro ρ' ao z; exact z
    | cons j js' ih =>
      intro ρ' ao z
      refine ih (ρ' := ρ'.set j none) fun i d hd => ?_
      by_cases q : j = i
      · subst q
        rw [List.getElem?_set] at hd
        simp at hd
      · rw [List.getElem?_set_ne q] at hd
        exact z i d hd
  refine ⟨fun i m ys az H2 => m = its.length - i /\ i <= its.length /\ az.length = own.length + fr.length /\ H2 acc = some (.lst ys) /\ ∃ G2 fq,Step G1 H1 G2 H2 /\ aB F.K G2 H2 (((List.range i).filter p).map f) ys fq /\ Nw H1 G2 (acc :: fq) /\ bS F.K G2 (cn own fr ρ) az,
    ⟨_,rfl,Nat.zero_le _,by simp [pE],ck,G1,[],.gD s1.s eK,⟨rfl,rfl⟩,⟨fun a ha => by rw [List.mem_singleton.mp ha]; exact eK,fun a ha => by rw [List.mem_singleton.mp ha]; exact s1.s.free eK,by simp⟩,(Ra r).mono s1.g⟩,?_⟩
  rintro i m ys az H2 ⟨rfl,hi,ui,iM,G2,fq,s2,o2,w2,r2⟩
  have hlen : ys.length < sizeLine := by
    rw [<- o2.length,List.length_map]
    have := List.length_filter_le p (List.range i)
    rw [List.length_range] at this
    omega
  refine ⟨iM,hlen,?_⟩
  obtain ⟨i1,i2⟩ := it i G2 H2 s2.g s2.s
  by_cases aS : i < its.length
  · have hd : its[i]? = some its[i] := List.getElem?_eq_getElem aS
    obtain ⟨j1,j2⟩ := i1 _ hd
    obtain ⟨dd,e1,el,ev⟩ := step i _ hd
    refine .inr ⟨j1,fun zs bg H3 => bg.length = own.length + fr.length /\ H3 acc = some (.lst zs) /\ ∃ G3 fq,Step G1 H1 G3 H3 /\ aB F.K G3 H3 (((List.range (i + 1)).filter p).map f) zs fq /\ Nw H1 G3 (acc :: fq) /\ bS F.K G3 (cn own fr ρ) bg,
      fun zs bg H3 z => ⟨its.length - (i + 1),by omega,rfl,aS,z⟩,fun x H3 y => ?_⟩
    obtain ⟨G3,s3,h3⟩ := j2 x H3 y
    refine qg _ dd x az G3 H3 _ e1 s3.s h3 fun vs rm => ?_
    have XC : ∀ j ∈ js,j < az.length := fun j hj => by have := hU j hj; omega
    have rr : bS F.K G3 (bF js (dd.map .fz) (cn own fr ρ)) (bF js vs az) := bS.bF XC rm (r2.mono s3.g)
    have tj : ∀ {Ga Ha Gb Hb : Hp} {fs : List Addr},Step Ga Ha Gb Hb -> (∀ a ∈ fs,Ga a = none) -> (∀ a ∈ fs,∃ o,Ha a = some o) -> ∀ a ∈ fs,Gb a = none := fun {Ga Ha Gb Hb fs} st h1 h2 a ha => by
      cases q : Gb a with
      | none => rfl
      | some u =>
        obtain ⟨u',aT⟩ := h2 a ha
        have := st.n a (h1 a ha) (by rw [q]; exact fun z => nomatch z)
        rw [aT] at this; cases this
    have oA : ∀ a ∈ acc :: fq,∃ o,H2 a = some o := fun a ha => (List.mem_cons.mp ha).elim (fun z => ⟨_,z ▸ iM⟩) (o2.there a)
    have er : (List.range (i + 1)).filter p = (List.range i).filter p ++ if p i = true then [i] else [] := by
      rw [List.range_succ,List.filter_append]
      congr 1
      simp only [List.filter_cons,List.filter_nil]
    obtain ⟨tt,pt,qt⟩ := el
    refine ⟨tt,pt,qt _ G3 H3 _ s3.s rr fun G5 H5 s5 => ?_⟩
    have j5 := s3.trans s5
    cases hp : p i with
    | false =>
      refine ja ⟨by rw [vR]; exact ui,j5.h _ _ iM,G5,fq,s2.trans j5,?_,⟨w2.n,tj j5 w2.g oA,w2.d⟩,?_⟩
      · rw [er,hp,if_neg (by decide),List.append_nil]
        exact o2.mono j5.g j5.h
      · have := FJ (js' := js) (rr.mono s5.g)
        rwa [gq dd] at this
    | true =>
      obtain ⟨te,pe,qe⟩ := ev hp
      refine jQ ⟨te,pe,qe _ G5 H5 _ s5.s (rr.mono s5.g) fun v G6 H6 f6 s6 o6 w6 => ?_⟩
      have lR := j5.trans s6
      have z5 := lR.h _ _ iM
      have lS : ∀ a ∈ f6,a ∉ acc :: fq := fun a ha hb => by
        obtain ⟨u,hu⟩ := oA a hb
        have := j5.h _ _ hu
        rw [w6.n a ha] at this; cases this
      have jr := List.nodup_cons.mp w2.d
      have g6 := tj lR w2.g oA
      refine ⟨z5,by rw [vR]; exact ui,ck,G6,fq ++ (f6 ++ []),⟨(s2.trans lR).g,fun b u hb => ?_,fun b u hb => ?_,(s2.trans lR).n⟩,?_,⟨fun a ha => ?_,fun a ha => ?_,?_⟩,?_⟩
      · rw [aP fun z => by subst z; rw [eK] at hb; cases hb]
        exact (s2.trans lR).h b u hb
      · rw [aP fun z => by subst z; rw [g6 _ (.head _)] at hb; cases hb]
        exact s6.s b u hb
      · rw [er,hp,if_pos rfl,List.map_append]
        refine aB.append ((o2.mono lR.g lR.h).frame jr.1) ⟨v,[],f6,[],rfl,rfl,o6.frame fun z => lS _ z (.head _),rfl,rfl⟩
      · rw [List.append_nil] at ha
        rcases List.mem_cons.mp ha with z | z
        · exact w2.n a (z ▸ .head _)
        · rcases List.mem_append.mp z with z | z
          · exact w2.n a (.tail _ z)
          · exact (s2.trans j5).h.free (w6.n a z)
      · rw [List.append_nil] at ha
        rcases List.mem_cons.mp ha with z | z
        · exact g6 a (z ▸ .head _)
        · rcases List.mem_append.mp z with z | z
          · exact g6 a (.tail _ z)
          · exact w6.g a z
      · rw [List.append_nil]
        refine List.nodup_cons.mpr ⟨fun z => ?_,List.nodup_append.mpr ⟨jr.2,w6.d,fun a ha b hb z => ?_⟩⟩
        · rcases List.mem_append.mp z with z | z
          · exact jr.1 z
          · exact lS _ z (.head _)
        · subst z; exact lS a hb (.tail _ ha)
      · have := FJ (js' := js) (rr.mono (s5.trans s6).g)
        rwa [gq dd] at this
  · have e : i = its.length := by omega
    subst e
    refine .inl ⟨i2 rfl,k1 (.ref acc) G2 H2 (acc :: fq) s2 ⟨acc,ys,fq,rfl,iM,o2,rfl⟩ w2⟩
theorem kM {ifs : List Expr} {sc : Scope} {own : List Str} {fr : List Nat} {cl : ι -> List (Str × Addr)} (L : ∀ i,gH (F.cx i) sc (cl i) fr) (hi : bA F tg iter ρ its) (hg : iL (cy F own fr sc cl) tg js sp) (hU : ∀ j ∈ js,j < own.length)
    (p : Nat -> Bool) (f : Nat -> Tr) (hz : its.length < sizeLine)
    (step : ∀ k d,its[k]? = some d -> ∃ dd,sp d = some dd /\ El (cy F own fr sc cl) ifs (bF js (dd.map .fz) (cn own fr ρ)) (p k) /\ (p k = true -> Ev (cy F own fr sc cl) elt (bF js (dd.map .fz) (cn own fr ρ)) (f k)))
    (gq : ∀ dd : List Dv,fN js (bF js (dd.map .fz) (cn own fr ρ)) = cn own fr ρ)
    (hs : ∀ i x,foldedSetIterable iter (F.cx i).env x = pure x := by intro _ _; rfl) :
    Ev F (.ListComp elt [⟨tg,iter,ifs,0⟩] sc pos) ρ (.ow (((List.range its.length).filter p).map f)) := by
  obtain ⟨τ,⟨wi,g,tt,te,rfl,h1,h2,h3,h4⟩,h5⟩ := rp (ifs := ifs) hi hg hU p f hz step gq
  exact ⟨_,fun i => Hd (cl := cl i) (L i) (F.calm i) (h1 i) (fun C s H ex pn => h2 (i,⟨C,s,H,ex,pn⟩)) (fun C s H ex pn => h3 (i,⟨C,s,H,ex,pn⟩)) (fun C s H ex pn => h4 (i,⟨C,s,H,ex,pn⟩)) (hs i),h5⟩
end
structure XD (k : Nat) (qual : Str) (sc : Scope) (f : Addr) where
  bD : Value
  A : Around
  outer : List Env
  s : Shared
  H : Hp
  E : XK
  hr : cN k (A.deeper (envOfC qual sc s.heap.objs.size f bD))
def aK (P : Program) (w : World) (K : PySem.W.Frag) (mg : Str -> Option Value) (base : Heap) (N : List Str) (qual : Str) (sc : Scope) (f : Addr) (k : Nat) : aU (XD k qual sc f) where
  cx i := (i9 aq P w K mg base N qual sc f i.bD i.A i.outer i.s i.H i.E).qR
  P := P
  w := w
  K := K
  mg := mg
  base := base
  room := k
  hP _ := rfl
  hw _ := rfl
  hK _ := rfl
  hm _ := rfl
  hb _ := rfl
  hr i := i.hr
  calm _ := rfl
def JE (N : List Str) (dd : List Dv) : En := dd.map (fun d => some (.fz d)) ++ List.replicate (N.length - dd.length) none
theorem DU {K : PySem.W.Frag} {G H : Hp} : ∀ n : Nat,aE K G H (List.replicate n none) (List.replicate n none) []
  | 0 => ⟨rfl,rfl⟩
  | n + 1 => ⟨none,List.replicate n none,rfl,DU n⟩
theorem Dq {K : PySem.W.Frag} {G H : Hp} {n : Nat} : ∀ {dd : List Dv} {vs : List V},aI K G dd vs -> aE K G H (dd.map (fun d => some (.fz d)) ++ List.replicate n none) (vs.map some ++ List.replicate n none) []
  | [],_,h => by rw [show _ = [] from h]; exact DU n
  | _ :: _,_,⟨x,r,h1,h2,h3⟩ => by subst h1; exact ⟨x,_,[],[],rfl,rfl,⟨rfl,h2⟩,Dq h3⟩
theorem bG {P : Program} {w : World} {K : PySem.W.Frag} {mg : Str -> Option Value} {base : Heap} {x qual : Str} {st : Stmt} {dV : Value} {f : Addr} {fd : FuncData} {N ps : List Str} {k : Nat} {R : List Dv -> Tr -> Prop} (Fd : kU K x qual st dV f fd) (S : bh N ps (ag st))
    (hl : ∀ dd t,R dd t -> dd.length = ps.length)
    (hb : ∀ dd t,R dd t -> ∃ o,(o = .rt t \/ (t = tn /\ ∃ ρ',o = .nx ρ')) /\ bI (aK P w K mg base N qual (ag st) f k) (aQ st) (JE N dd) o) : aR P w K mg base aq (k + 1) f fd ps (spT K R) := by
  refine Fd.ok S (fun vs H Q E ⟨G,dd,t,s,h1,h2,h3⟩ => by rw [<- h1.length]; exact hl dd t h2) fun bD A outer s H vs Q E hr h => ?_
  obtain ⟨G,dd,t,s',h1,h2,h3⟩ := h
  obtain ⟨o,ho,τ,x,y⟩ := hb dd t h2
  refine ⟨τ,x ⟨bD,A,outer,s,H,E,hr⟩,y _ (start N vs) G H G H ⟨[],.refl s',?_,fun _ z => (nomatch z),fun _ z => (nomatch z),.nil⟩ ?_⟩
  · unfold start JE
    rw [<- h1.length]
    exact Dq h1
  · rcases ho with rfl | ⟨rfl,ρ',rfl⟩
    · exact fun v G1 H1 fq s1 o1 w1 => h3 v G1 H1 fq s1 o1 w1
    · exact fun σ G1 H1 ⟨fp,r⟩ => h3 .aF G1 H1 [] r.st ⟨rfl,rfl,rfl⟩ .nil
end L2
namespace L2
open PySem PySem.Spec PyProof.Rows
def JF (K : PySem.W.Frag) (l1 l2 : Addr) (xs ys : List V) : It :=
  ⟨fun i H => aD K H l1 xs /\ aD K H l2 ys /\ i < min xs.length ys.length,fun i H x H' => ∃ T vx vy,H T = none /\ xs[i]? = some vx /\ ys[i]? = some vy /\ x = .ref T /\ H' = upd H T (.tup [vx,vy]),fun i H => aD K H l1 xs /\ aD K H l2 ys /\ i = min xs.length ys.length⟩
def JG (K : PySem.W.Frag) (l : Addr) (xs : List V) : It :=
  ⟨fun i H => aD K H l xs /\ i < xs.length,fun i H x H' => ∃ T v,H T = none /\ xs[i]? = some v /\ x = .ref T /\ H' = upd H T (.tup [.int (i : Nat),v]),fun i H => aD K H l xs /\ i = xs.length⟩
section
variable {X : Cx} {pins : List (Addr × Obj)} {σ : St} {H : Hp} {s : Shared}
theorem Inv.xf {t' : Nat} {fs : List Addr} {h' : Heap} (I : Inv X pins σ H s) (k : ∀ b o,b ∉ fs -> s.heap.get? b = some o -> h'.get? b = some o) (hf : ∀ b ∈ fs,fT X pins H b) : Inv X pins σ H { s with heap := h',toks := t' } := by
  have jV : ∀ b u,H b = some u -> b ∉ fs := fun b u e z => by rw [(hf b z).1] at e; cases e
  refine I.step (g' := s.gens) (d' := s.drawn) (ch := fs) (fun b hb => ?_) (fun b o _ _ hc e _ => k b o hc e) (fun b o _ _ hc e _ => ⟨o.slots,k b o hc e⟩) (fun _ _ _ _ n => n)
    (fun b o hc e => ⟨o,k b o hc e⟩) (fun _ _ e => e) (fun _ _ _ e => e) (fun b ps e => ⟨#[],by rw [e]; simp⟩) (fun m hm => ?_) (fun b u e => ?_) I.bare
  · obtain ⟨f0,f1,f2,f3,f4,f5⟩ := hf b hb
    exact ⟨f3,f1,f4,f5⟩
  · obtain ⟨o,es,ep,ho,r⟩ := hm
    exact ⟨o,es,ep,k _ o (fun z => (hf _ z).2.1 rfl) ho,r⟩
  · refine (I.ay b u e).i6 (fun c v hc q => k c v ?_ q) (fun _ q => q) fun _ _ q => q
    rcases hc with z | z
    · rw [z]; exact jV b u e
    · exact jV c _ z
theorem Inv.EL {t' : Nat} {fs : List Addr} {h' : Heap} {T : Addr} {vs : List V} (I : Inv X pins σ H s) (k : ∀ b o,b ∉ fs -> s.heap.get? b = some o -> h'.get? b = some o) (hf : ∀ b ∈ fs,fT X pins H b) (hT : s.heap.objs.size <= T)
    (new : bU X.prog X.w (upd H T (.tup vs)) h' T (.tup vs)) : Inv X pins σ (upd H T (.tup vs)) { s with heap := h',toks := t' } := by
  have hn : H T = none := I.ay.fresh hT
  have jV : ∀ b u,H b = some u -> b ∉ fs := fun b u e z => by rw [(hf b z).1] at e; cases e
  have ne : ∀ b o,s.heap.get? b = some o -> b ≠ T := fun b o e z => by subst z; exact absurd (Nat.lt_of_lt_of_le (Heap.lt_size e) hT) (Nat.lt_irrefl _)
  refine I.step (g' := s.gens) (d' := s.drawn) (ch := fs) (fun b hb => ?_) (fun b o _ _ hc e _ => k b o hc e) (fun b o _ _ hc e _ => ⟨o.slots,k b o hc e⟩) (fun b o _ e n => by rw [aP (ne b o e)]; exact n)
    (fun b o hc e => ⟨o,k b o hc e⟩) (fun _ _ e => by rw [aP (gG e hn)]; exact e) (fun _ _ _ e => by rw [aP (gG e hn)]; exact e) (fun b ps e => ⟨#[],by rw [aP (gG e hn),e]; simp⟩) (fun m hm => ?_) (fun b u e => ?_) I.bare
  · obtain ⟨f0,f1,f2,f3,f4,f5⟩ := hf b hb
    exact ⟨f3,f1,f4,f5⟩
  · obtain ⟨o,es,ep,ho,r⟩ := hm
    exact ⟨o,es,ep,k _ o (fun z => (hf _ z).2.1 rfl) ho,r⟩
  · by_cases hb : b = T
    · subst hb; rw [ck] at e; cases e; exact new
    · rw [aP hb] at e
      refine (I.ay b u e).i6 (fun c v hc q => k c v ?_ q) (fun c q => by rw [aP (gG q hn)]; exact q) fun c xs q => by rw [aP (gG q hn)]; exact q
      rcases hc with z | z
      · rw [z]; exact jV b u e
      · exact jV c _ z
end
theorem Og {P : Program} {w : World} {K : PySem.W.Frag} {elts : List Expr} {kk : Nat} {pos : Pos} {z TI TO i1 i2 l1 l2 : Addr} {xs ys : List V} (D : ZipApart z TI TO i1 i2 l1 l2) :
    Turn P w K (.Tuple elts kk pos) (JF K l1 l2 xs ys) [z,TI,TO,i1,i2] z (fun i h => IsZip h z TI TO .none /\ IsPair h TI (.ref i1) (.ref i2) /\ (∃ a b,IsPair h TO a b) /\ h.IsListIter i1 l1 i /\ h.IsListIter i2 l2 i) where
  mem := by simp
  obj := by
    rintro i h ⟨h1,h2,⟨a,c,h3⟩,⟨o1,h4,_,h5⟩,⟨o2,h6,_,h7⟩⟩ b hb
    simp only [List.mem_cons,List.not_mem_nil,or_false] at hb
    rcases hb with rfl | rfl | rfl | rfl | rfl
    · exact ⟨_,h1,fun v z => by cases z⟩
    · exact ⟨_,h2,fun v z => by cases z⟩
    · exact ⟨_,h3,fun v z => by cases z⟩
    · exact ⟨_,h4,fun v z => by rw [h5] at z; cases z⟩
    · exact ⟨_,h6,fun v z => by rw [h7] at z; cases z⟩
  keep := by
    rintro i h h' ⟨h1,h2,⟨a,c,h3⟩,h4,h5⟩ k
    exact ⟨k _ (by simp) _ h1,k _ (by simp) _ h2,⟨a,c,k _ (by simp) _ h3⟩,h4.at fun o e => k _ (by simp) o e,h5.at fun o e => k _ (by simp) o e⟩
  item := by
    intro X hP hw hK hc i pins s σ H E I hf st hg
    subst hP hw hK
    obtain ⟨hZ,rq,aS⟩ := hg
    obtain ⟨fU,h9,p1,lU⟩ := I.list hZ
    obtain ⟨fh,rA,p2,JH⟩ := I.list rq
    have e1 := h9.length
    have e2 := rA.length
    have W := WalksT.zip2 (prog := X.prog) (w := X.w) (A := X.A) (I.ok.hd hc) z TI TO i1 i2 l1 l2 D fU.toArray fh.toArray
    refine W.item i s _ _ (by simp; omega) ⟨st.1,st.2.1,st.2.2.1,st.2.2.2.1,st.2.2.2.2,p1.isList,p2.isList⟩ fun T vals h' tk z6 lV yZ qD hk => ⟨.ref T,rfl,W.go elts kk pos i T _ _ _ qD fun z7 jR qE => ?_⟩
    obtain ⟨x,y,hx,hy,rfl⟩ := z6
    have rB : xs[i]? = some (xs[i]'(by omega)) := List.getElem?_eq_getElem _
    have JI : ys[i]? = some (ys[i]'(by omega)) := List.getElem?_eq_getElem _
    obtain ⟨u,hu,ru⟩ := h9.get rB
    obtain ⟨u',aT,XF⟩ := rA.get JI
    have ex : x = u := by
      have : fU[i]? = some x := by simpa using hx
      rw [hu] at this; exact (Option.some.inj this).symm
    have ey : y = u' := by
      have : fh[i]? = some y := by simpa using hy
      rw [aT] at this; exact (Option.some.inj this).symm
    subst ex ey
    have sub : ∀ b ∈ [z,TO,i1,i2],b ∈ [z,TI,TO,i1,i2] := fun b hb => by
      simp only [List.mem_cons,List.not_mem_nil,or_false] at hb ⊢
      rcases hb with rfl | rfl | rfl | rfl <;> simp
    have z8 : IsTup z7 T [x,y].toArray := yZ.at fun o e => qE T o (W.apart i T _ qD) e
    refine ⟨.ref T,upd H T (.tup [xs[i]'(by omega),ys[i]'(by omega)]),I.EL (fs := [z,TO,i1,i2]) (fun b o hb e => qE b o hb (hk b o hb e)) (fun b hb => hf b (sub b hb)) lV ⟨by show 2 <= sizeLine; decide,[x,y],.cons ru (.cons XF .nil),z8⟩,rfl,
      ⟨T,_,_,I.ay.fresh lV,rB,JI,rfl,rfl⟩,⟨jR.1,jR.2.1,jR.2.2.1,jR.2.2.2.1,jR.2.2.2.2.1⟩,fun b hb => ?_⟩
    obtain ⟨o,eo,_⟩ : ∃ o,s.heap.get? b = some o /\ True := by
      obtain ⟨g1,g2,⟨a,c,g3⟩,⟨o1,g4,_⟩,⟨o2,g6,_⟩⟩ := st
      simp only [List.mem_cons,List.not_mem_nil,or_false] at hb
      rcases hb with rfl | rfl | rfl | rfl | rfl
      · exact ⟨_,g1,trivial⟩
      · exact ⟨_,g2,trivial⟩
      · exact ⟨_,g3,trivial⟩
      · exact ⟨_,g4,trivial⟩
      · exact ⟨_,g6,trivial⟩
    rw [aP (Nat.ne_of_lt (Nat.lt_of_lt_of_le (Heap.lt_size eo) lV))]
    exact (hf b hb).1
  done := by
    intro X hP hw hK hc i pins s σ H E I hf st hg
    subst hP hw hK
    obtain ⟨hZ,rq,rfl⟩ := hg
    obtain ⟨fU,h9,p1,lU⟩ := I.list hZ
    obtain ⟨fh,rA,p2,JH⟩ := I.list rq
    have e1 := h9.length
    have e2 := rA.length
    have W := WalksT.zip2 (prog := X.prog) (w := X.w) (A := X.A) (I.ok.hd hc) z TI TO i1 i2 l1 l2 D fU.toArray fh.toArray
    have en : min fU.toArray.size fh.toArray.size = min xs.length ys.length := by simp only [List.size_toArray]; omega
    refine W.done s _ _ (by rw [en]; exact ⟨st.1,st.2.1,st.2.2.1,st.2.2.2.1,st.2.2.2.2,p1.isList,p2.isList⟩) fun h' tk hk => ⟨rfl,I.xf (fs := [z,TO,i1,i2]) hk fun b hb => hf b ?_⟩
    simp only [List.mem_cons,List.not_mem_nil,or_false] at hb ⊢
    rcases hb with rfl | rfl | rfl | rfl <;> simp
  self := fun A i s Q E st h => wpAny_pyIter_zip st.1 h
theorem Nm {P : Program} {w : World} {K : PySem.W.Frag} {elts : List Expr} {kk : Nat} {pos : Pos} {e it l : Addr} {xs : List V} (JK : e ≠ it) (hle : l ≠ e) (JL : l ≠ it) :
    Turn P w K (.Tuple elts kk pos) (JG K l xs) [e,it] e (fun i h => (∃ old,IsEnum h e it i old) /\ h.IsListIter it l i) where
  mem := by simp
  obj := by
    rintro i h ⟨⟨old,h1⟩,⟨o1,h4,_,h5⟩⟩ b hb
    simp only [List.mem_cons,List.not_mem_nil,or_false] at hb
    rcases hb with rfl | rfl
    · exact ⟨_,h1,fun v z => by cases z⟩
    · exact ⟨_,h4,fun v z => by rw [h5] at z; cases z⟩
  keep := by
    rintro i h h' ⟨⟨old,h1⟩,h4⟩ k
    exact ⟨⟨old,k _ (by simp) _ h1⟩,h4.at fun o e => k _ (by simp) o e⟩
  item := by
    intro X hP hw hK hc i pins s σ H E I hf st hg
    subst hP hw hK
    obtain ⟨hZ,aS⟩ := hg
    obtain ⟨fU,h9,p1,lU⟩ := I.list hZ
    have e1 := h9.length
    have W := WalksT.enumerate (prog := X.prog) (w := X.w) (A := X.A) (I.ok.hd hc) e it l JK hle JL fU.toArray
    refine W.item i s _ _ (by simp; omega) ⟨st.1,st.2,p1.isList⟩ fun T vals h' tk z6 lV yZ qD hk => ⟨.ref T,rfl,W.go elts kk pos i T _ _ _ qD fun z7 jR qE => ?_⟩
    obtain ⟨t,x,hx,rfl⟩ := z6
    have rB : xs[i]? = some (xs[i]'(by omega)) := List.getElem?_eq_getElem _
    obtain ⟨u,hu,ru⟩ := h9.get rB
    have ex : x = u := by
      have : fU[i]? = some x := by simpa using hx
      rw [hu] at this; exact (Option.some.inj this).symm
    subst ex
    have z8 : IsTup z7 T [Value.int (i : Nat) t,x].toArray := yZ.at fun o e => qE T o (W.apart i T _ qD) e
    refine ⟨.ref T,upd H T (.tup [.int (i : Nat),xs[i]'(by omega)]),I.EL (fs := [e,it]) (fun b o hb e => qE b o hb (hk b o hb e)) hf lV ⟨by show 2 <= sizeLine; decide,[.int (i : Nat) t,x],.cons ⟨t,rfl⟩ (.cons ru .nil),z8⟩,rfl,
      ⟨T,_,I.ay.fresh lV,rB,rfl,rfl⟩,⟨jR.1,jR.2.1⟩,fun b hb => ?_⟩
    obtain ⟨o,eo,_⟩ : ∃ o,s.heap.get? b = some o /\ True := by
      obtain ⟨⟨old,g1⟩,⟨o1,g4,_⟩⟩ := st
      simp only [List.mem_cons,List.not_mem_nil,or_false] at hb
      rcases hb with rfl | rfl
      · exact ⟨_,g1,trivial⟩
      · exact ⟨_,g4,trivial⟩
    rw [aP (Nat.ne_of_lt (Nat.lt_of_lt_of_le (Heap.lt_size eo) lV))]
    exact (hf b hb).1
  done := by
    intro X hP hw hK hc i pins s σ H E I hf st hg
    subst hP hw hK
    obtain ⟨hZ,rfl⟩ := hg
    obtain ⟨fU,h9,p1,lU⟩ := I.list hZ
    have e1 := h9.length
    have W := WalksT.enumerate (prog := X.prog) (w := X.w) (A := X.A) (I.ok.hd hc) e it l JK hle JL fU.toArray
    have en : fU.toArray.size = xs.length := by simp only [List.size_toArray]; omega
    exact W.done s _ _ (by rw [en]; exact ⟨st.1,st.2,p1.isList⟩) fun h' tk hk => ⟨rfl,I.xf (fs := [e,it]) hk hf⟩
  self := fun A i s Q E st h => by
    obtain ⟨⟨old,h1⟩,_⟩ := st
    exact wpAny_pyIter_enum h1 h
def HY (K : PySem.W.Frag) (ta : TA) : TI := fun σ H R => ta σ H fun vs H1 => ∃ l1 l2 xs ys,vs = [.ref l1,.ref l2] /\ aD K H1 l1 xs /\ aD K H1 l2 ys /\ R (JF K l1 l2 xs ys) H1
def HZ (K : PySem.W.Frag) (ta : TA) : TI := fun σ H R => ta σ H fun vs H1 => ∃ l xs,vs = [.ref l] /\ aD K H1 l xs /\ R (JG K l xs) H1
section
variable {X : Cx} {elts : List Expr} {kk : Nat} {tp : Pos}
theorem Rb {a b : Expr} {ta : TA} {p pos : Pos} (hg : Gl X "zip") (hm : X.mg "zip" = none) (ha : PA X [a,b] ta) (hs : starEach [a,b] X.env = [(false,eval a X.env),(false,eval b X.env)] := by rfl) (fu : starEach [b] X.env = [(false,eval b X.env)] := by rfl) :
    PI X (.Tuple elts kk tp) (.Call (.Name "zip" p) [a,b] [] pos) (HY X.K ta) := by
  intro pins s σ H R I h
  refine Call_ (kD I hg hm Q5 (PyProof.Rows.callWith_type1 (ax (ha pos pins s σ H _ I h) fun us s1 ⟨vs,H1,I1,r1,q1⟩ => ?_) (by rw [hs,fu]) (by rw [fu]; rfl)))
  obtain ⟨l1,l2,xs,ys,rfl,hZ,rq,q⟩ := q1
  obtain ⟨u1,u2,rfl,c1,c2⟩ := r1.two
  cases c1
  cases c2
  obtain ⟨fU,h9,p1,lU⟩ := I1.list hZ
  obtain ⟨fh,rA,p2,JH⟩ := I1.list rq
  have uj : l1 < s1.heap.objs.size := by obtain ⟨o,n,e,_⟩ := p1; exact Heap.lt_size e
  have qY : l2 < s1.heap.objs.size := by obtain ⟨o,n,e,_⟩ := p2; exact Heap.lt_size e
  refine call_zip_2 p1.isList p2.isList fun h' hz XG XH XI XJ hsz hk => wpAny_pyIter_zip hz ?_
  have I2 : Inv X pins σ H1 { s1 with heap := h' } := I1.kept (t' := s1.toks) hk
  refine ⟨s1.heap.objs.size + 4,[s1.heap.objs.size + 4,s1.heap.objs.size + 2,s1.heap.objs.size + 3,s1.heap.objs.size,s1.heap.objs.size + 1],_,_,H1,rfl,I2,Og (PySem.W.ktu_apart _ _ _ uj qY),⟨hz,XG,⟨_,_,XH⟩,XI,XJ⟩,fun b hb => ?_,q⟩
  have fL : s1.heap.objs.size <= b := by
    simp only [List.mem_cons,List.not_mem_nil,or_false] at hb
    rcases hb with rfl | rfl | rfl | rfl | rfl <;> omega
  obtain ⟨f0,f1,f2,f3,f4,f5⟩ := I1.qB (H' := H1) fL (I1.ay.fresh fL)
  exact ⟨f0,f1,f2,f3,f4,f5⟩
theorem Pq {a : Expr} {ta : TA} {p pos : Pos} (hg : Gl X "enumerate") (hm : X.mg "enumerate" = none) (ha : PA X [a] ta) (hs : starEach [a] X.env = [(false,eval a X.env)] := by rfl) :
    PI X (.Tuple elts kk tp) (.Call (.Name "enumerate" p) [a] [] pos) (HZ X.K ta) := by
  intro pins s σ H R I h
  refine Call_ (kD I hg hm LR (PyProof.Rows.callWith_type1 (ax (ha pos pins s σ H _ I h) fun us s1 ⟨vs,H1,I1,r1,q1⟩ => ?_) hs rfl))
  obtain ⟨l,xs,rfl,hZ,q⟩ := q1
  obtain ⟨u1,rfl,c1⟩ := r1.one
  cases c1
  obtain ⟨fU,h9,p1,lU⟩ := I1.list hZ
  have uj : l < s1.heap.objs.size := by obtain ⟨o,n,e,_⟩ := p1; exact Heap.lt_size e
  refine call_enumerate_list p1.isList fun h' hE hI hsz hk => wpAny_pyIter_enum hE ?_
  have I2 : Inv X pins σ H1 { s1 with heap := h' } := I1.kept (t' := s1.toks) hk
  refine ⟨s1.heap.objs.size + 1,[s1.heap.objs.size + 1,s1.heap.objs.size],_,_,H1,rfl,I2,Nm (Nat.succ_ne_self _) (PySem.W.ktu_ne 1 uj) (Nat.ne_of_lt uj),⟨⟨_,hE⟩,hI⟩,fun b hb => ?_,q⟩
  have fL : s1.heap.objs.size <= b := by
    simp only [List.mem_cons,List.not_mem_nil,or_false] at hb
    rcases hb with rfl | rfl <;> omega
  obtain ⟨f0,f1,f2,f3,f4,f5⟩ := I1.qB (H' := H1) fL (I1.ay.fresh fL)
  exact ⟨f0,f1,f2,f3,f4,f5⟩
end
section
variable {ι : Type} {F : aU ι} {a b tg : Expr} {ρ : En} {ta bZ : Tr} {elts : List Expr} {kk : Nat} {tp pos : Pos}
def n6 (xs ys : List Dv) : List Dv := List.zipWith (fun x y => .tup [x,y]) xs ys
def kX (xs : List Dv) : List Dv := (List.range xs.length).zipWith (fun k x => .tup [di (k : Nat),x]) xs
theorem Pr {xs ys : List Dv} (hm : F.mg "zip" = none) (ha : Ev F a ρ ta) (hb : Ev F b ρ bZ) (ea : er ta = .lst xs) (eb : er bZ = .lst ys) {p : Pos} (hg : ∀ i,Gl (F.cx i) "zip" := by intro _; rfl)
    (hs : ∀ i,starEach [a,b] (F.cx i).env = [(false,eval a (F.cx i).env),(false,eval b (F.cx i).env)] := by intro _; rfl) (fu : ∀ i,starEach [b] (F.cx i).env = [(false,eval b (F.cx i).env)] := by intro _; rfl) :
    bA F (.Tuple elts kk tp) (.Call (.Name "zip" p) [a,b] [] pos) ρ (n6 xs ys) := by
  obtain ⟨τ,p,q⟩ := (ah ha (ah hb av fu) (fun i => by rw [hs i,fu i])).use
  refine ⟨HY F.K τ,fun i => F.hK i ▸ Rb (hg i) ((F.hm i).symm ▸ hm) (p i) (hs i) (fu i),fun σ G H R s r k => q σ G H _ s r fun vs G1 H1 s1 hx => ?_⟩
  obtain ⟨x,y,rfl,h1,h2⟩ := SX hx
  rw [ea] at h1
  rw [eb] at h2
  obtain ⟨l1,us,rfl,g1,g2⟩ := h1
  obtain ⟨l2,ws,rfl,g3,g4⟩ := h2
  have e1 := g2.length
  have e2 := g4.length
  refine ⟨l1,l2,us,ws,rfl,s1.s.seq g1,s1.s.seq g3,k _ G1 H1 s1 fun j G2 H2 sg sh => ⟨fun d hd => ?_,fun hz => ?_⟩⟩
  · unfold n6 at hd
    rw [List.getElem?_zipWith] at hd
    cases qx : xs[j]? with
    | none => rw [qx] at hd; cases hd
    | some dx =>
      cases qy : ys[j]? with
      | none => rw [qx,qy] at hd; cases hd
      | some dy =>
        rw [qx,qy] at hd
        cases hd
        obtain ⟨vx,x1,x2⟩ := g2.get qx
        obtain ⟨vy,y1,y2⟩ := g4.get qy
        have lx : j < us.length := (List.getElem?_eq_some_iff.mp x1).1
        have ly : j < ws.length := (List.getElem?_eq_some_iff.mp y1).1
        refine ⟨⟨(sg.trans sh).seq g1,(sg.trans sh).seq g3,by omega⟩,?_⟩
        rintro x H3 ⟨T,wx,wy,hT,z1,z2,rfl,rfl⟩
        rw [x1] at z1
        rw [y1] at z2
        cases z1
        cases z2
        refine ⟨_,.new sh hT,T,_,rfl,cE.of ck,_,_,rfl,(x2.mono sg).mono (ai.new (sh.free hT)),_,_,rfl,(y2.mono sg).mono (ai.new (sh.free hT)),rfl⟩
  · refine ⟨(sg.trans sh).seq g1,(sg.trans sh).seq g3,?_⟩
    rw [hz]
    unfold n6
    rw [List.length_zipWith,e1,e2]
theorem wC {xs : List Dv} (hm : F.mg "enumerate" = none) (ha : Ev F a ρ ta) (ea : er ta = .lst xs) {p : Pos} (hg : ∀ i,Gl (F.cx i) "enumerate" := by intro _; rfl)
    (hs : ∀ i,starEach [a] (F.cx i).env = [(false,eval a (F.cx i).env)] := by intro _; rfl) : bA F (.Tuple elts kk tp) (.Call (.Name "enumerate" p) [a] [] pos) ρ (kX xs) := by
  obtain ⟨τ,p,q⟩ := (ah ha av hs).use
  refine ⟨HZ F.K τ,fun i => F.hK i ▸ Pq (hg i) ((F.hm i).symm ▸ hm) (p i) (hs i),fun σ G H R s r k => q σ G H _ s r fun vs G1 H1 s1 hx => ?_⟩
  obtain ⟨x,rfl,h1⟩ := iG hx
  rw [ea] at h1
  obtain ⟨l1,us,rfl,g1,g2⟩ := h1
  have e1 := g2.length
  refine ⟨l1,us,rfl,s1.s.seq g1,k _ G1 H1 s1 fun j G2 H2 sg sh => ⟨fun d hd => ?_,fun hz => ?_⟩⟩
  · unfold kX at hd
    rw [List.getElem?_zipWith] at hd
    cases qx : xs[j]? with
    | none =>
      rw [qx] at hd
      cases q2 : (List.range xs.length)[j]? with
      | none => rw [q2] at hd; cases hd
      | some z => rw [q2] at hd; cases hd
    | some dx =>
      have lj : j < xs.length := (List.getElem?_eq_some_iff.mp qx).1
      rw [qx,List.getElem?_range lj] at hd
      cases hd
      obtain ⟨vx,x1,x2⟩ := g2.get qx
      refine ⟨⟨(sg.trans sh).seq g1,by omega⟩,?_⟩
      rintro x H3 ⟨T,wx,hT,z1,rfl,rfl⟩
      rw [x1] at z1
      cases z1
      exact ⟨_,.new sh hT,T,_,rfl,cE.of ck,_,_,rfl,⟨rfl,rfl⟩,_,_,rfl,(x2.mono sg).mono (ai.new (sh.free hT)),rfl⟩
  · refine ⟨(sg.trans sh).seq g1,?_⟩
    rw [hz]
    unfold kX
    rw [List.length_zipWith,List.length_range,Nat.min_self,e1]
theorem MN {n : Nat} {ds dd : List Dv} (e : Hm n (.tup ds) = some dd) : ds.length = n /\ dd = ds := by
  have e' : (if ds.length = n then some ds else none) = some dd := e
  by_cases h : ds.length = n
  · rw [if_pos h] at e'; cases e'; exact ⟨h,rfl⟩
  · rw [if_neg h] at e'; cases e'
theorem p7 (j1 j2 : Nat) {x y : Str} {px py : Pos} (hN : ∀ i,(F.cx i).N.Nodup) (h1 : ∀ i,(F.cx i).N[j1]? = some x := by intro _; rfl) (h2 : ∀ i,(F.cx i).N[j2]? = some y := by intro _; rfl)
    (hx : ∀ i,Loc (F.cx i).env.scope x := by intro _; first | exact Or.inl rfl | exact Or.inr rfl) (hy : ∀ i,Loc (F.cx i).env.scope y := by intro _; first | exact Or.inl rfl | exact Or.inr rfl)
    (fx : ∀ i,(F.cx i).fn x = true \/ (F.cx i).env.scope.names.lookup x = some .local := by intro _; first | exact .inl rfl | exact .inr rfl) (fy : ∀ i,(F.cx i).fn y = true \/ (F.cx i).env.scope.names.lookup y = some .local := by intro _; first | exact .inl rfl | exact .inr rfl) :
    iL F (.Tuple [.Name x px,.Name y py] kk tp) [j1,j2] (Hm 2) :=
  ⟨yK F.K 2 (qf (cU j1) (qf (cU j2) yJ)),fun i => F.hK i ▸ Fq (F.calm i) (sf (iS (hN i) (h1 i) (hx i) (fx i)) (sf (iS (hN i) (h2 i) (hy i) (fy i)) Ey)),fun d dd v σ G H Q e s h k => by
    cases d with
    | fl _ => cases e
    | lst _ => cases e
    | tup ds =>
      obtain ⟨hl,rfl⟩ := MN e
      obtain ⟨a,vs,rfl,q1,q2⟩ := h
      have hv : vs.length = 2 := by rw [<- q2.length]; exact hl
      refine ⟨a,vs,rfl,s.tup q1,hv,?_⟩
      match vs,hv with
      | [v1,v2],_ => exact ⟨v1,[v2],rfl,v2,[],rfl,rfl,k [v1,v2] q2⟩⟩
end
end L2
namespace L2
open PySem PySem.Spec PyProof.Rows
theorem Oh {X : Cx} {elt tg iter : Expr} {ifs : List Expr} {sc : Scope} {cl : List (Str × Addr)} {own : List Str} {fr : List Nat} {pos qF py : Pos} {wi : TI} {g : TG} {tt : TT} {te : TE} {y0 : Str} {j0 : Nat}
    (L : gH X sc cl fr) (hc : X.calm = true) (hi : PI X tg iter wi)
    (hg : ∀ C s H ex pn,PG (cD X own fr sc cl C s H ex pn) tg g)
    (ht : ∀ C s H ex pn (pins : List (Addr × Obj)) (s1 : Shared) (az : St) (H1 : Hp) (Q : Bool -> Hp -> Prop),Inv (cD X own fr sc cl C s H ex pn) pins az H1 s1 -> tt az H1 Q ->
      wpAny (model X.prog X.w) X.A (iT ifs (compEnvC sc (cellsFrom (C + 1) sc.names cl) C X.env)) (TP (cD X own fr sc cl C s H ex pn) pins az Q) cu s1)
    (he : ∀ C s H ex pn,PE (cD X own fr sc cl C s H ex pn) elt te) (XM : X.N.Nodup) (XN : X.N[j0]? = some y0) (XO : Loc X.env.scope y0)
    (jq : swapsWith (.ListComp elt [⟨tg,iter,ifs,0⟩] sc pos) (some (.Name y0 py)) qF.line X.env = pure true) (XQ : X.fn y0 = true \/ X.env.scope.names.lookup y0 = some .local) (hs : ∀ x,foldedSetIterable iter X.env x = pure x := by intro _; rfl) :
    PS X (.Assign [.Name y0 py] (.ListComp elt [⟨tg,iter,ifs,0⟩] sc pos) qF) (gP (ub wi g tt te own fr) (cU j0)) := by
  intro pins s σ H D I h
  rw [exec_Assign_Name_used _ _ _ _ jq]
  refine wpAny_bind (wpAny_standAt (wpAny_bind ?_))
  show wpAny _ X.A (do let _ <- comprehension (.ListComp elt [⟨tg,iter,ifs,0⟩] sc pos) sc X.env _ (newList []) false (eval iter X.env) (some (assign (.Name y0 py) X.env))) _ _ s
  refine wpAny_bind (wpAny_mono (wpAny_comprehension_free (use := some (assign (.Name y0 py) X.env)) (Q := fun _ s' => SP X pins D .next s') rfl hs L.HR L.kind L.names (ax (hi pins s σ H _ I h) fun v s1 h1 => ax h1 fun t7 s2 h2 => ?_)) (fun _ s' hq => wpAny_pure (wpAny_pure hq)) fun _ _ e => e)
  obtain ⟨it,fp,tn,J,H2,e,I2,T,aA,f2,h2⟩ := h2
  subst e
  refine wpAny_newObj_type ?_
  have I3 : Inv X pins σ (upd H2 s2.heap.objs.size (.lst [])) { s2 with heap := s2.heap.push { cls := .type "list",data := .seq ([] : List Value).toArray } } := I2.yU (t' := s2.toks) .nil (Nat.zero_le _)
  have n2 : H2 s2.heap.objs.size = none := I2.fresh
  obtain ⟨W,⟨m0,w0⟩,turn⟩ := h2 _ n2
  have qY : ∀ b ∈ fp,b < s2.heap.objs.size := fun b hb => by
    obtain ⟨o,eo,_⟩ := T.obj 0 _ aA b hb
    exact Heap.lt_size eo
  have cR : ∀ b ∈ fp,fT X pins (upd H2 s2.heap.objs.size (.lst [])) b := fun b hb => ⟨by rw [aP (Nat.ne_of_lt (qY b hb))]; exact (f2 b hb).1,(f2 b hb).2⟩
  generalize gf : ({ s2 with heap := s2.heap.push { cls := .type "list",data := .seq ([] : List Value).toArray } } : Shared) = s3 at I3
  have dk : tn 0 s3.heap := by
    rw [<- gf]
    exact T.keep 0 _ _ aA fun b hb o eo => Heap.get?_push_of_some _ eo
  have lL : ∀ b ∈ fp,b < s3.heap.objs.size := fun b hb => by
    obtain ⟨o,eo,_⟩ := T.obj 0 _ dk b hb
    exact Heap.lt_size eo
  generalize zI : upd H2 s2.heap.objs.size (.lst []) = H3 at I3 cR w0
  generalize s2.heap.objs.size = acc at turn w0 zI ⊢
  refine CW ?_
  have g9 : (pushCells (s3.heap.push { cls := .type "dict",data := .dict #[] }) sc.names).Ns s3.heap.objs.size fun _ => none := (Heap.Ns.new s3.heap (.type "dict")).keeps (pushCells_keeps _ _)
  have kp : ∀ b o,s3.heap.get? b = some o -> (pushCells (s3.heap.push { cls := .type "dict",data := .dict #[] }) sc.names).get? b = some o := fun b o eo => pushCells_keeps _ _ b o (Heap.get?_push_of_some _ eo)
  have lK : ∀ y c,(cellsFrom (s3.heap.objs.size + 1) sc.names cl).lookup y = some c -> cl.lookup y = some c \/ (pushCells (s3.heap.push { cls := .type "dict",data := .dict #[] }) sc.names).IsCell c none := fun y c e =>
    sE sc.names (s3.heap.push { cls := .type "dict",data := .dict #[] }) cl y c (by rw [Heap.size_push]; exact e)
  generalize Xv : pushCells (s3.heap.push { cls := .type "dict",data := .dict #[] }) sc.names = h4 at g9 kp lK
  have I4 := lcInv (own := own) (tk := s3.toks) L I3 cR lL g9 kp lK
  have qZ : tn 0 h4 := T.keep 0 _ _ dk fun b hb o eo => kp b o eo
  have stat : ∀ {H' : Hp},(∀ b ∈ fp,H' b = none) -> ∀ b ∈ fp,fT (cD X own fr sc cl s3.heap.objs.size s3 H3 fp (X.pn ++ pins)) [] H' b := fun {H'} hn b hb =>
    ⟨hn b hb,Nat.ne_of_lt (lL b hb),fun z => (List.mem_cons.mp (I3.pR b z)).elim (cR b hb).2.1 (cR b hb).2.2.1,.inl hb,fun y c e => (oZ _ _ _ y c e).elim (fun q => (cR b hb).2.2.2.2.1 y c (L.sub y c q)) fun q => Nat.ne_of_gt (Nat.lt_of_lt_of_le (lL b hb) (Nat.le_of_succ_le q.1)),fun p hp => (cR b hb).2.2.2.2.2 p (by
      have z : p ∈ (X.pn ++ pins) ++ [] := hp
      simpa using z)⟩
  have loop : codeAny (model X.prog X.w) X.A (.compLoop (.ListComp elt [⟨tg,iter,ifs,0⟩] sc pos) 0 (.ref it) (.ref acc) (compEnvC sc (cellsFrom (s3.heap.objs.size + 1) sc.names cl) s3.heap.objs.size X.env))
      (compPost (model X.prog X.w) X.A X.xe (some (assign (.Name y0 py) X.env)) (fun _ s' => SP X pins D .next s') (.ref acc) s3.heap.objs.size) { s3 with heap := h4,toks := s3.toks } := by
    refine Fy (fun n s' => ∃ i ys az H1,Inv (cD X own fr sc cl s3.heap.objs.size s3 H3 fp (X.pn ++ pins)) [] az H1 s' /\ tn i s'.heap /\ (∀ b ∈ fp,H1 b = none) /\ W i n ys az H1) ?_ m0 ⟨0,[],_,H3,I4,qZ,fun b hb => (cR b hb).1,w0⟩
    rintro n s5 ⟨i,ys,jh,H5,I5,jg,lJ,w5⟩
    obtain ⟨eK,hlen,hh⟩ := turn i n ys jh H5 w5
    rcases hh with ⟨stop,qn⟩ | ⟨go,N,hN,step⟩
    · refine ax (T.done (cD X own fr sc cl s3.heap.objs.size s3 H3 fp (X.pn ++ pins)) rfl rfl rfl hc i [] s5 jh H5 cu I5 (stat lJ) jg stop) fun r s6 ⟨hr,I6⟩ => ?_
      subst hr
      obtain ⟨m6,zJ,_⟩ := id I6.loc
      have back : ∀ h7,Heap.SameBut s3.heap.objs.size s6.heap h7 -> Inv X pins σ H5 { s6 with heap := h7 } := fun h7 ji => by
        have old : ∀ b o,s3.heap.get? b = some o -> b ≠ s3.heap.objs.size := fun b o eo => Nat.ne_of_lt (Heap.lt_size eo)
        have u6 : Un (cW X.stack) fp H3 H5 s3.heap s6.heap := I6.base
        have u7 : Un (cW X.stack) fp H3 H5 s3.heap h7 :=
          ⟨fun b o eo nn hb hx => (ji.2 b (old b o eo)).trans (u6.keep b o eo nn hb hx),fun b o eo nn hb hx => by
            obtain ⟨sl,q⟩ := u6.slot b o eo nn hb hx
            exact ⟨sl,(ji.2 b (old b o eo)).trans q⟩,u6.free,fun b o eo hx => by
            obtain ⟨o',q⟩ := u6.there b o eo hx
            exact ⟨o',(ji.2 b (old b o eo)).trans q⟩,u6.iE,u6.gN,u6.iF⟩
        have fC : H5 s3.heap.objs.size = none := I6.free
        have yX : bV X.prog X.w H5 h7 := fun b ob eb => by
          refine (I6.ay b ob eb).i6 (fun c w' gF q => (ji.2 c ?_).trans q) (fun _ q => q) fun _ _ q => q
          rintro rfl
          rcases gF with z | z
          · rw [<- z,fC] at eb; cases eb
          · rw [fC] at z; cases z
        exact I3.GL (s' := { s6 with heap := h7 }) I6.os u7 yX I6.bare fun b hb => ⟨(cR b hb).2.2.2.1,(cR b hb).2.1,(cR b hb).2.2.2.2.1,(cR b hb).2.2.2.2.2⟩
      have XR : H5 s3.heap.objs.size = none := I6.free
      show wpAny _ _ (assign (.Name y0 py) X.env (.ref acc)) _ X.xe s6
      refine wpAny_assign_Name (De (v := .ref acc) (back s6.heap (Heap.SameBut.refl ..)) XM XN XO rfl (fun s7 I7 ⟨a,sb,ha⟩ => ?_) XQ)
      have aC : s3.heap.objs.size ≠ a := by
        rcases ha with rfl | ha
        · exact Nat.ne_of_gt I3.lt
        · obtain ⟨v0,q0⟩ := I3.cell y0 a ha
          exact Nat.ne_of_gt q0.lt
      refine ⟨m6,zJ.sameBut sb aC,fun h8 XS => ⟨_,H5,?_,qn⟩⟩
      exact Inv.xf (t' := s7.toks) (fs := [s3.heap.objs.size]) I7 (fun b o hb e => (XS.2 b (fun z => hb (by rw [z]; exact .head _))).trans e) (fun b hb => by
        rw [List.mem_singleton.mp hb]
        exact I3.qB (H' := H5) (Nat.le_refl _) XR)
    · refine ax (T.item (cD X own fr sc cl s3.heap.objs.size s3 H3 fp (X.pn ++ pins)) rfl rfl rfl hc i [] s5 jh H5 cu I5 (stat lJ) jg go) fun r s6 ⟨u,hr,h6⟩ => ?_
      subst hr
      refine ax h6 fun _ s7 ⟨x,H7,I7,r7,y7,lM,zK⟩ => ?_
      have zM := I7.pinned (stat zK) (T.obj _ _ lM)
      refine ax (hg _ _ _ _ _ _ s7 jh H7 x u _ zM r7 (step x H7 y7)) fun _ s8 ⟨jk,H8,I8,q8⟩ => ?_
      have again : ∀ {zs : List V} {hJ : St} {H9 : Hp} {s9 : Shared},Inv (cD X own fr sc cl s3.heap.objs.size s3 H3 fp (X.pn ++ pins)) ([] ++ nA fp s7.heap) hJ H9 s9 -> N zs hJ H9 ->
          ∃ m,m < n /\ ∃ i ys az H1,Inv (cD X own fr sc cl s3.heap.objs.size s3 H3 fp (X.pn ++ pins)) [] az H1 s9 /\ tn i s9.heap /\ (∀ b ∈ fp,H1 b = none) /\ W i m ys az H1 := fun {zs hJ H9 s9} I9 n9 => by
        obtain ⟨m',hm,w9⟩ := hN zs hJ H9 n9
        refine ⟨m',hm,i + 1,zs,hJ,H9,I9.pd,T.keep _ _ _ lM fun b hb o e => (I9.pin (b,o) (List.mem_append_right _ (List.mem_append_right _ (mR hb e)))).1,fun b hb => ?_,w9⟩
        obtain ⟨o,e,d⟩ := T.obj _ _ lM b hb
        exact (I9.pin (b,o) (List.mem_append_right _ (List.mem_append_right _ (mR hb e)))).2.1
      refine ax (ht _ _ _ _ _ _ s8 jk H8 _ I8 q8) fun ok s9 ⟨H9,I9,q9⟩ => ?_
      cases ok with
      | false => exact again I9 (by simpa using q9)
      | true =>
        refine ax (he _ _ _ _ _ _ s9 jk H9 _ I9 q9) fun z zN ⟨y,zO,zP,zQ,lN,zR⟩ => ?_
        refine ax (mY _ zN jk zO (.ref acc) [y] (.ref acc) [z] (fun _ H' => N (ys ++ [y]) jk H') zP rfl (.cons zQ .nil) ⟨acc,ys,y,rfl,rfl,lN,hlen,zR⟩) fun _ Xw ⟨_,Xx,zS,_,zT⟩ => again zS zT
  rw [<- gf] at loop ⊢
  exact codeAny_compStart_list loop (zH (T.self _ 0 _ _ _ qZ (by rw [gf]; rw [gf] at loop; exact loop)))
section
variable {ι : Type} {F : aU ι} {elt tg iter : Expr} {ifs : List Expr} {sc : Scope} {own : List Str} {fr : List Nat} {cl : ι -> List (Str × Addr)} {ρ : En} {t : Tr} {pos qF py : Pos}
theorem y3 (h : eY F own fr sc cl elt tg iter ifs ρ t) : ∃ τ,uh F own fr sc cl elt tg iter ifs τ /\ ∀ σ G H fp Q,ai G H -> aE F.K G H ρ σ fp -> (∀ a ∈ fp,G a = none) -> Kv F.K G H t Q -> τ σ H Q :=
  let ⟨τ,v,y⟩ := h; ⟨τ,v,fun σ G H fp Q s r _ k => y σ G H Q s r.oy k⟩
theorem y4 (h : eY F own fr sc cl elt tg iter ifs (pk ρ) t) (c : Cl t) : ∃ τ,uh F own fr sc cl elt tg iter ifs τ /\ ∀ σ G H fp Q,ai G H -> aE F.K G H ρ σ fp -> (∀ a ∈ fp,G a = none) -> Kv F.K G H t Q -> τ σ H Q := by
  obtain ⟨τ,x,y⟩ := h
  refine ⟨τ,x,fun σ G H fp Q s r hg k => ?_⟩
  refine y σ (ef G H fp) H Q (ph s) (r.pk (ik hg) fun a ha => iU ha) fun v G' H' fq st o w => ?_
  refine k v G H' fq ⟨ai.refl _,st.h,s.trans st.h,fun a h h' => absurd h h'⟩ (o.cl c) ⟨w.n,fun a ha => s.free (w.n a ha),w.d⟩
theorem nG (j : Nat) {x : Str} (h : ∃ τ,uh F own fr sc cl elt tg iter ifs τ /\ ∀ σ G H fp Q,ai G H -> aE F.K G H ρ σ fp -> (∀ a ∈ fp,G a = none) -> Kv F.K G H t Q -> τ σ H Q) (L : ∀ i,gH (F.cx i) sc (cl i) fr) (hN : ∀ i,(F.cx i).N.Nodup) (hj : Nat.blt j ρ.length = true := by rfl) (hi : ∀ i,(F.cx i).N[j]? = some x := by intro _; rfl)
    (hx : ∀ i,Loc (F.cx i).env.scope x := by intro _; first | exact Or.inl rfl | exact Or.inr rfl) (jq : ∀ i,swapsWith (.ListComp elt [⟨tg,iter,ifs,0⟩] sc pos) (some (.Name x py)) qF.line (F.cx i).env = pure true := by intro _; rfl)
    (hf : ∀ i,(F.cx i).fn x = true \/ (F.cx i).env.scope.names.lookup x = some .local := by intro _; first | exact .inl rfl | exact .inr rfl) (hs : ∀ i x,foldedSetIterable iter (F.cx i).env x = pure x := by intro _ _; rfl) :
    Rn F (.Assign [.Name x py] (.ListComp elt [⟨tg,iter,ifs,0⟩] sc pos) qF) ρ (.nx (ρ.set j (some t))) := by
  obtain ⟨τ,⟨wi,g,tt,te,rfl,h1,h2,h3,h4⟩,z⟩ := h
  refine ⟨_,fun i => Oh (cl := cl i) (L i) (F.calm i) (h1 i) (fun C s H ex pn => h2 (i,⟨C,s,H,ex,pn⟩)) (fun C s H ex pn => h3 (i,⟨C,s,H,ex,pn⟩)) (fun C s H ex pn => h4 (i,⟨C,s,H,ex,pn⟩)) (hN i) (hi i) (hx i) (jq i) (hf i) (hs i),fun D σ G0 H0 G H r k => ?_⟩
  obtain ⟨fp,r⟩ := r
  exact z σ G H fp _ r.st.s r.own r.g fun v G1 H1 fq s1 o w => k _ G1 H1 (r.set (Nat.le_of_ble_eq_true hj) s1 o w)
theorem eY.as {d : Dv} (h : eY F own fr sc cl elt tg iter ifs ρ t) (e : er t = d) : eY F own fr sc cl elt tg iter ifs ρ (.fz d) := by
  obtain ⟨τ,v,q⟩ := h
  refine ⟨τ,v,fun σ G H Q s r k => q σ G H Q s r fun v G' H' fq st o w => ?_⟩
  exact k v (ef G' H' fq) H' [] (st.dg w) ⟨rfl,e ▸ o.hv (ik w.g) fun a ha => iU ha⟩ .nil
theorem eY.to {t' : Tr} (h : eY F own fr sc cl elt tg iter ifs ρ t) (e : t = t') : eY F own fr sc cl elt tg iter ifs ρ t' := e ▸ h
end
end L2
namespace L2
open PySem PySem.Spec PyProof.Rows
def FK (K : PySem.W.Frag) : V -> List V -> Hp -> VK -> Prop := fun x vs H Q => ∃ l xs y,x = .ref l /\ vs = [y] /\ aD K H l xs /\ dY y = true /\ xs.all dY = true /\ Q (.int (xs.countP fun z => cX z y)) H
theorem C7 {x : V} : ∀ {xs : List V} {us : List Value},Vals xs us -> xs.all dY = true -> us.countP (gZ x) = xs.countP fun y => cX y x
  | _,_,.nil,_ => rfl
  | y :: xs,u :: us,.cons r t,f => by
    rw [List.all_cons,Bool.and_eq_true] at f
    rw [List.countP_cons,List.countP_cons,C7 t f.2,xE r f.1]
section
variable {X : Cx}
theorem Oi : t9 X "list.count" (FK X.K) := by
  intro pins s σ H x vs v us Q I rx rv h
  obtain ⟨l,xs,y,rfl,rfl,hq,fy,fs,q⟩ := h
  cases rx
  obtain ⟨u,rfl,ru⟩ := rv.one
  obtain ⟨its,r,⟨⟨cl,dd,da,sl⟩,n,e,c1,c2,d1⟩,z⟩ := I.list hq
  simp only at c1 d1
  subst c1 d1
  refine call_meets F.slot_list_count ⟨_,e,rfl⟩ F.entry_list_count (F.args_list_count_2 _ _) (SeqAt.list_countAt l its.toArray n dd sl u (gZ y)) ⟨e,fun w hw => si ru fy r fs w (by simpa using hw),?_⟩
  refine ⟨.int _,H,I.tok _,⟨_,rfl⟩,?_⟩
  rw [show its.toArray.toList = its by simp,C7 r fs]
  exact q
end
section
variable {ι : Type} {F : aU ι} {e a b c : Expr} {es : List Expr} {ρ : En} {t ta bZ tc : Tr} {ts : List Tr} {pos : Pos}
theorem R8 {nm : Str} {id : String} {r : V -> List V -> Hp -> VK -> Prop} {xs : List Dv} {o : Expr} {to : Tr} (slot : Slot "list" nm id) (zE : typeOf (.builtin id) = pure (.type "method_descriptor")) (hm : ∀ i,Jt (F.cx i) id r) (ho : Ev F o ρ to) (eo : er to = .lst xs) (ha : fK F (e :: es) ρ ts)
    (h : ∀ G H x vs Q,ai G H -> Hv F.K G (er to) x -> aI F.K G (cJ ts) vs -> Kv F.K G H t Q -> r x vs H Q) {apos : Pos}
    (gL : ∀ i,attributeBase o nm (F.cx i).env (eval o (F.cx i).env) = eval o (F.cx i).env := by intro _; rfl)
    (gQ : ∀ i,((backTo pos (starEach (e :: es) (F.cx i).env)).all (fun x => !x.1) && (backToKw pos (keywordEach [] (F.cx i).env)).all (fun x => x.1.isSome) && decide ((e :: es).length + ([] : List Keyword).length + (if ([] : List Keyword).isEmpty then 0 else 1) < 30)) = true := by intro _; rfl)
    (hline : (apos.endLine == pos.line) = true := by rfl) (hs : ∀ i,starEach (e :: es) (F.cx i).env = (false,eval e (F.cx i).env) :: starEach es (F.cx i).env := by intro _; rfl) (xF : ∀ i,(backTo pos (starEach es (F.cx i).env)).any (·.1) = false := by intro _; rfl) :
    Ev F (.Call (.Attribute o nm apos) (e :: es) [] pos) ρ t := by
  obtain ⟨τ,p,q⟩ := ho.use
  obtain ⟨bT,p',q'⟩ := ha.use
  refine ⟨fZ F.K "list" r τ bT,fun i => F.hK i ▸ jM PySem.F.plainAttrs_list slot zE (hm i) (p i) (p' i) (gL i) (gQ i) hline (hs i) (xF i),fun σ G H Q s rr k => ?_⟩
  refine q σ G H _ s rr fun x G1 H1 s1 hx => ⟨?_,q' σ G1 H1 _ s1.s (rr.mono s1.g) fun vs G2 H2 s2 hv => h G2 H2 x vs Q s2.s (hx.mono s2.g) hv (k.step (s1.trans s2))⟩
  rw [eo] at hx
  obtain ⟨l,us,rfl,h1,h2⟩ := hx
  exact .inl ⟨rfl,_,s1.s.seq h1⟩
theorem Dr {K : PySem.W.Frag} {G : Hp} : ∀ {bs : List Bool} {vs : List V},aI K G (bs.map db) vs -> vs = bs.map V.bl
  | [],_,h => h
  | _ :: _,_,⟨x,r,h1,h2,h3⟩ => by subst h1; rw [aO h2,Dr h3]; rfl
theorem vF {α β : Type} (l : List α) (d : α) (f : α -> β) : (List.range l.length).map (fun k => f ((l[k]?).getD d)) = l.map f := by
  refine List.ext_getElem? fun i => ?_
  rw [List.getElem?_map,List.getElem?_map]
  rcases Nat.lt_or_ge i l.length with h | h
  · rw [List.getElem?_range h,List.getElem?_eq_getElem h]
    show some (f ((l[i]?).getD d)) = _
    rw [List.getElem?_eq_getElem h]
    rfl
  · rw [List.getElem?_eq_none (by simpa using h),List.getElem?_eq_none h]
    rfl
theorem FL : ∀ ds : List Dv,cJ (ds.map .fz) = ds
  | [] => rfl
  | d :: ds => by show d :: cJ (ds.map .fz) = _; rw [FL ds]
theorem iA (ds : List Dv) : er (.ow (ds.map .fz)) = .lst ds := by show Dv.lst _ = _; rw [FL]
theorem Ev.to {t' : Tr} (h : Ev F e ρ t) (q : t = t') : Ev F e ρ t' := q ▸ h
theorem Et.to {p q : Bool} (h : Et F e ρ p) (z : p = q) : Et F e ρ q := z ▸ h
theorem cg.to {t' : Tr} (h : cg F e ρ t) (q : t = t') : cg F e ρ t' := q ▸ h
theorem nH {A B : List Stmt} {o : Out} {p : Bool} (hc : fm F c ρ p) (hp : p = true) (h1 : bI F A ρ o) : Rn F (.If c A B pos) ρ o := yc hc (fun _ => h1) fun h => by rw [hp] at h; cases h
theorem Rc {A B : List Stmt} {o : Out} {p : Bool} (hc : fm F c ρ p) (hp : p = false) (h1 : bI F B ρ o) : Rn F (.If c A B pos) ρ o := yc hc (fun h => by rw [hp] at h; cases h) fun _ => h1
theorem du {A : List Stmt} {p : Bool} (hc : fm F c ρ p) (hp : p = false) : Rn F (.If c A [] pos) ρ (.nx ρ) := Rc hc hp w4
def Ia (dd : List Dv) (t : Tr) : Prop := ∃ ns : List Int,ns.length <= 63 /\ dd = [dis ns] /\ t = tb true
def tm (K : PySem.W.Frag) : Sp := fun vs H Q _ => ∃ (a : Addr) (ns : List Int),vs = [.ref a] /\ aD K H a (ns.map V.int) /\ ns.length <= 63 /\ ∀ H',Q (.bl true) H'
theorem Rf {P : Program} {w : World} {K : PySem.W.Frag} {mg : Str -> Option Value} {base : Heap} {k : Nat} {f : Addr} {fd : FuncData} (F : aR P w K mg base aq k f fd ["_law_script"] (spT K Ia)) : aR P w K mg base aq k f fd ["_law_script"] (tm K) :=
  F.imp fun vs H Q E ⟨a,ns,e,h1,h2,h3⟩ => ⟨H,[dis ns],tb true,ai.refl _,⟨.ref a,[],e,⟨a,_,rfl,h1,sk⟩,rfl⟩,⟨ns,h2,rfl,rfl⟩,fun v G' H' fq st o w => by rw [aO o.2]; exact h3 H'⟩
end
end L2
namespace dI
def gc (a b : Int) : Int := (Int.gcd a b : Int)
theorem p8 {a b : Int} (h : b ≠ 0) : 0 < gc a b := by
  have : 0 < Int.gcd a b := Int.gcd_pos_of_ne_zero_right _ h
  unfold gc; omega
theorem DV (a b : Int) : gc a b ∣ a := Int.gcd_dvd_left ..
theorem DW (a b : Int) : gc a b ∣ b := Int.gcd_dvd_right ..
theorem Pt (a : Int) : gc a 0 = (a.natAbs : Int) := by unfold gc; rw [Int.gcd_zero_right]
theorem Pu (a : Int) {b : Int} : gc b (a % b) = gc a b := by
  unfold gc
  congr 1
  apply Nat.dvd_antisymm
  · refine Int.dvd_gcd ?_ (Int.gcd_dvd_left ..)
    have h1 : (↑(Int.gcd b (a % b)) : Int) ∣ b := Int.gcd_dvd_left ..
    have h2 : (↑(Int.gcd b (a % b)) : Int) ∣ a % b := Int.gcd_dvd_right ..
    have := Int.dvd_add (Int.dvd_trans h1 (Int.dvd_mul_right b (a / b))) h2
    rwa [Int.mul_ediv_add_emod] at this
  · refine Int.dvd_gcd (Int.gcd_dvd_right ..) ?_
    have h1 : (↑(Int.gcd a b) : Int) ∣ a := Int.gcd_dvd_left ..
    have h2 : (↑(Int.gcd a b) : Int) ∣ b := Int.gcd_dvd_right ..
    rw [Int.emod_def]
    exact Int.dvd_sub h1 (Int.dvd_trans h2 (Int.dvd_mul_right b (a / b)))
theorem Rg (a b : Int) : gc (a.natAbs : Int) (b.natAbs : Int) = gc a b := by
  unfold gc; simp [Int.gcd]
theorem Pw {a b : Int} (h : 0 < b) : gc a b <= b := Int.le_of_dvd h (DW a b)
def lT (t b : Int) : Int := (if b < 0 then -t else t) / gc t b
def lB (t b : Int) : Int := (b.natAbs : Int) / gc t b
theorem Rh {t b : Int} (h : 0 < b) : lT t b = t / gc t b := by unfold lT; rw [if_neg (by omega)]
theorem Ri {t b : Int} (h : 0 < b) : lB t b = b / gc t b := by unfold lB; rw [show (b.natAbs : Int) = b by omega]
theorem xK (t b : Int) : lT t b * gc t b = if b < 0 then -t else t := by
  unfold lT
  refine Int.ediv_mul_cancel ?_
  split
  · exact Int.dvd_neg.mpr (DV t b)
  · exact DV t b
theorem xM (t b : Int) : lB t b * gc t b = (b.natAbs : Int) := by
  unfold lB
  refine Int.ediv_mul_cancel ?_
  exact Int.dvd_natAbs.mpr (DW t b)
theorem tq {t b : Int} (h : b ≠ 0) : 1 <= lB t b := by
  have h1 := xM t b
  have h2 := p8 (a := t) h
  have h3 : 0 < lB t b := Int.pos_of_mul_pos_left (by rw [h1]; omega) h2
  omega
theorem R9 {t b : Int} (h : b ≠ 0) : lB t b <= (b.natAbs : Int) := by
  unfold lB
  exact Int.ediv_le_self _ (by omega)
theorem Rj {t b : Int} (h : b ≠ 0) : (lT t b).natAbs <= t.natAbs := by
  have h1 := xK t b
  have h2 := p8 (a := t) h
  have h3 : (lT t b * gc t b).natAbs = t.natAbs := by rw [h1]; split <;> omega
  rw [Int.natAbs_mul] at h3
  have h4 : 1 <= (gc t b).natAbs := by omega
  calc (lT t b).natAbs = (lT t b).natAbs * 1 := by omega
    _ <= (lT t b).natAbs * (gc t b).natAbs := Nat.mul_le_mul_left _ h4
    _ = t.natAbs := h3
theorem xg {t b : Int} (h : b ≠ 0) : lT t b * b = t * lB t b := by
  have h1 := xK t b
  have h2 := xM t b
  have h3 := p8 (a := t) h
  apply Int.eq_of_mul_eq_mul_right (a := gc t b) (by omega)
  by_cases hb : b < 0
  · rw [if_pos hb] at h1
    have h4 : lB t b * gc t b = -b := by omega
    grind
  · rw [if_neg hb] at h1
    have h4 : lB t b * gc t b = b := by omega
    grind
theorem Ds {t b : Int} (h : b ≠ 0) : Int.gcd (lT t b) (lB t b) = 1 := by
  have h1 := xK t b
  have h2 := xM t b
  have h3 := p8 (a := t) h
  have z9 : ((Int.gcd (lT t b) (lB t b) : Int)) ∣ lT t b := Int.gcd_dvd_left ..
  have hd2 : ((Int.gcd (lT t b) (lB t b) : Int)) ∣ lB t b := Int.gcd_dvd_right ..
  have e1 : ((Int.gcd (lT t b) (lB t b) : Int)) * gc t b ∣ t := by
    have := Int.mul_dvd_mul z9 (Int.dvd_refl (gc t b))
    rw [h1] at this
    split at this
    · exact Int.dvd_neg.mp this
    · exact this
  have e2 : ((Int.gcd (lT t b) (lB t b) : Int)) * gc t b ∣ b := by
    have := Int.mul_dvd_mul hd2 (Int.dvd_refl (gc t b))
    rw [h2] at this
    exact Int.dvd_natAbs.mp this
  have e3 : ((Int.gcd (lT t b) (lB t b) : Int)) * gc t b ∣ gc t b := Int.dvd_coe_gcd e1 e2
  have e4 := Int.le_of_dvd h3 e3
  have e5 : 0 < Int.gcd (lT t b) (lB t b) := Int.gcd_pos_of_ne_zero_right _ (by have := tq (t := t) h; omega)
  by_cases hh : Int.gcd (lT t b) (lB t b) = 1
  · exact hh
  · have e6 : (2 : Int) <= ((Int.gcd (lT t b) (lB t b) : Nat) : Int) := by omega
    have : 2 * gc t b <= ((Int.gcd (lT t b) (lB t b) : Nat) : Int) * gc t b := Int.mul_le_mul_of_nonneg_right e6 (by omega)
    omega
theorem wD {t b p q : Int} (hb : b ≠ 0) (hq : 0 < q) (hg : Int.gcd p q = 1) (h : p * b = t * q) : p = lT t b /\ q = lB t b := by
  have c := xg (t := t) hb
  have g := Ds (t := t) hb
  have k := tq (t := t) hb
  have e : p * lB t b = lT t b * q := by
    apply Int.eq_of_mul_eq_mul_right (a := b) hb
    grind
  have d1 : q ∣ lB t b := by
    have z : q ∣ p * lB t b := by rw [e]; exact Int.dvd_mul_left _ _
    have z' : q.natAbs ∣ p.natAbs * (lB t b).natAbs := by rw [<- Int.natAbs_mul]; exact Int.natAbs_dvd_natAbs.mpr z
    have cp : Nat.Coprime q.natAbs p.natAbs := by
      have : Int.gcd q p = 1 := by rw [Int.gcd_comm]; exact hg
      exact this
    exact Int.natAbs_dvd_natAbs.mp (cp.dvd_of_dvd_mul_left z')
  have d2 : lB t b ∣ q := by
    have z : lB t b ∣ lT t b * q := by rw [<- e]; exact Int.dvd_mul_left _ _
    have z' : (lB t b).natAbs ∣ (lT t b).natAbs * q.natAbs := by rw [<- Int.natAbs_mul]; exact Int.natAbs_dvd_natAbs.mpr z
    have cp : Nat.Coprime (lB t b).natAbs (lT t b).natAbs := by
      have : Int.gcd (lB t b) (lT t b) = 1 := by rw [Int.gcd_comm]; exact g
      exact this
    exact Int.natAbs_dvd_natAbs.mp (cp.dvd_of_dvd_mul_left z')
  have eq : q = lB t b := Int.dvd_antisymm (by omega) (by omega) d1 d2
  refine ⟨?_,eq⟩
  rw [<- eq] at e
  exact Int.eq_of_mul_eq_mul_right (a := q) (by omega) e
theorem S1 {t b t' b' : Int} (hb : b ≠ 0) (fL : b' ≠ 0) (h : t * b' = t' * b) : lT t b = lT t' b' /\ lB t b = lB t' b' := by
  refine wD fL (by have := tq (t := t) hb; omega) (Ds hb) ?_
  have c := xg (t := t) hb
  apply Int.eq_of_mul_eq_mul_right (a := b) hb
  grind
end dI
namespace L2
open PySem PySem.Spec PyProof.Rows
theorem jG {lo : Int} {n j : Nat} {d : Dv} (h : (fi lo n)[j]? = some d) : j < n /\ d = di (lo + (j : Int)) := by
  rw [List.getElem?_map] at h
  rcases Nat.lt_or_ge j n with hj | hj
  · rw [List.getElem?_range hj] at h; cases h; exact ⟨hj,rfl⟩
  · rw [List.getElem?_eq_none (by simpa using hj)] at h; cases h
theorem eA {α β : Type} {f : α -> β} {l : List α} {j : Nat} {d : β} (h : (l.map f)[j]? = some d) : ∃ x,l[j]? = some x /\ d = f x := by
  rw [List.getElem?_map] at h
  cases q : l[j]? with
  | none => rw [q] at h; cases h
  | some x => rw [q] at h; cases h; exact ⟨x,rfl,rfl⟩
theorem dJ {α : Type} {l : List α} {i : Nat} {x : α} (h : l[i]? = some x) : l.take (i + 1) = l.take i ++ [x] := by rw [List.take_succ,h]; rfl
theorem bI.fg {ι : Type} {F : aU ι} {cz : List Stmt} {ρ ρ1 rC : En} (h : bI F cz ρ (.nx ρ1)) (f : Fg ρ1 rC) : bI F cz ρ (.nx rC) := by
  obtain ⟨τ,x,y⟩ := h
  exact ⟨τ,x,fun D σ G0 H0 G H r k => y D σ G0 H0 G H r fun ao G' H' r' => k ao G' H' (f.rs r')⟩
theorem oO {ι : Type} {F : aU ι} {cz : List Stmt} {ρ : En} {o : Out} {t : Tr} {d : Dv} (j : Nat) (hj : ρ[j]? = some (some t)) (e : er t = d) (h : bI F cz (ρ.set j (some (.fz d))) o) : bI F cz ρ o := ML j hj (e ▸ h)
theorem LV {ι : Type} {F : aU ι} {cz body : List Stmt} {ρ : En} {o : Out} {c : Expr} {pos : Pos} {α : Type} (S : α -> En) (Pp : α -> Prop) (p : α -> Bool) (μ : α -> Nat) (a0 : α) (e : S a0 = ρ) (h0 : Pp a0) (hc : ∀ a,Pp a -> fm F c (S a) (p a)) (hb : ∀ a,Pp a -> p a = true -> ∃ a',Pp a' /\ μ a' < μ a /\ bI F body (S a) (.nx (S a')))
    (fin : ∀ a,Pp a -> p a = false -> bI F cz (S a) o) (hx : ∀ i,(F.cx i).xe = cu := by intro _; rfl) : bI F (.While c body [] pos :: cz) ρ o := by
  subst e
  obtain ⟨a',h1,h2,h3⟩ := Ml S Pp p μ hc hb a0 h0 hx
  exact ak h3 (fin a' h1 h2)
def bH (ns : List Int) (k : Int) : Int := ns.getD k.toNat 0
theorem cell_in {ns : List Int} {k : Int} (h0 : 0 <= k) (h : k < ns.length) : aZ (ns.map di) k = some (di (bH ns k)) := by
  obtain ⟨j,rfl⟩ : ∃ j : Nat,k = (j : Int) := ⟨k.toNat,by omega⟩
  have hj : j < ns.length := by omega
  refine e9 ?_
  unfold bH
  rw [List.getElem?_map,List.getElem?_eq_getElem hj,List.getD_eq_getElem?_getD,show (j : Int).toNat = j by omega,List.getElem?_eq_getElem hj]
  rfl
theorem cell_out {ns : List Int} {k : Int} (h0 : 0 <= k) (h : ns.length <= k) : bH ns k = 0 := by
  unfold bH
  rw [List.getD_eq_getElem?_getD,List.getElem?_eq_none (by omega)]
  rfl
theorem DX {α β : Type} (f : α -> β) (l : List α) (a b : Option Int) : cutD (l.map f) a b = (cutD l a b).map f := by
  unfold cutD
  rw [List.length_map,List.map_take,List.map_drop]
theorem Oj {α : Type} (l : List α) (a b : Option Int) : (cutD l a b).length <= l.length := by
  unfold cutD
  rw [List.length_take,List.length_drop]
  omega
mutual
def fA : Dv -> Bool
  | .fl v => dY v
  | .lst ds => kY ds
  | .tup ds => kY ds
def kY : List Dv -> Bool
  | [] => true
  | d :: ds => fA d && kY ds
end
mutual
theorem pq : ∀ {d : Dv},fA d = true -> bR d d = true
  | .fl v,h => DM h
  | .lst ds,h => v9 h
  | .tup ds,h => v9 h
theorem v9 : ∀ {ds : List Dv},kY ds = true -> d9 ds ds = true
  | [],_ => rfl
  | d :: ds,h => by
    have h' : (fA d && kY ds) = true := h
    rw [Bool.and_eq_true] at h'
    show (bR d d && d9 ds ds) = true
    rw [pq h'.1,v9 h'.2]
    rfl
end
theorem wF {α : Type} {f : α -> Dv} (h : ∀ a,fA (f a) = true) : ∀ l : List α,kY (l.map f) = true
  | [] => rfl
  | a :: l => by
    show (fA (f a) && kY (l.map f)) = true
    rw [h a,wF h l]
    rfl
theorem pJ {n : Nat} : ∀ {ds : List Dv},(∀ d ∈ ds,cS d <= n) -> cO ds <= n
  | [],_ => Nat.zero_le _
  | d :: ds,h => by
    show max (cS d) (cO ds) <= n
    exact Nat.max_le.mpr ⟨h d (.head _),pJ fun x hx => h x (.tail _ hx)⟩
theorem sI (l : List Int) : fA (dis l) = true := wF (fun _ => rfl) l
theorem pK (l : List Int) : cS (dis l) <= 1 := by
  show cO _ + 1 <= 1
  have : cO (l.map di) <= 0 := pJ fun d hd => by
    obtain ⟨_,_,rfl⟩ := List.mem_map.mp hd
    exact Nat.le_refl _
  omega
theorem sJ {n : Nat} {ds : List Dv} (h : ∀ d ∈ ds,cS d <= n) : cS (.lst ds) <= n + 1 := Nat.succ_le_succ (pJ h)
theorem Px {n : Nat} {ds : List Dv} (h : ∀ d ∈ ds,cS d <= n) : cS (.tup ds) <= n + 1 := Nat.succ_le_succ (pJ h)
theorem xh {α : Type} {f : α -> Dv} (h : ∀ a,fA (f a) = true) (l : List α) : fA (.lst (l.map f)) = true := wF h l
end L2
namespace L2
open PySem PySem.Spec PyProof.Rows
theorem aB.setAt {K : PySem.W.Frag} {G H : Hp} : ∀ {us : List Tr} {vs : List V} {fq : List Addr} {m : Nat} {t : Tr} {v : V} {f : List Addr},aB K G H us vs fq -> m < us.length -> Ow K G H t v f -> fq.Nodup -> f.Nodup -> (∀ a ∈ f,a ∉ fq) ->
    ∃ fw,aB K G H (us.set m t) (vs.set m v) fw /\ fw.Nodup /\ ∀ a ∈ fw,a ∈ fq \/ a ∈ f
  | u :: us,_,_,0,t,v,f,⟨w,r,f1,f2,h1,h2,h3,h4⟩,_,o,nd,nf,dj => by
    subst h1 h2
    have cY := List.nodup_append.mp nd
    refine ⟨f ++ f2,⟨v,r,f,f2,rfl,rfl,o,h4⟩,List.nodup_append.mpr ⟨nf,cY.2.1,fun a ha b hb e => dj a ha (e ▸ List.mem_append_right _ hb)⟩,fun a ha => ?_⟩
    rcases List.mem_append.mp ha with z | z
    · exact .inr z
    · exact .inl (List.mem_append_right _ z)
  | u :: us,_,_,m + 1,t,v,f,⟨w,r,f1,f2,h1,h2,h3,h4⟩,hm,o,nd,nf,dj => by
    subst h1 h2
    have cY := List.nodup_append.mp nd
    obtain ⟨fw,q1,q2,q3⟩ := aB.setAt (m := m) h4 (Nat.lt_of_succ_lt_succ hm) o cY.2.1 nf fun a ha z => dj a ha (List.mem_append_right _ z)
    refine ⟨f1 ++ fw,⟨w,_,f1,fw,rfl,rfl,h3,q1⟩,List.nodup_append.mpr ⟨cY.1,q2,fun a ha b hb e => ?_⟩,fun a ha => ?_⟩
    · subst e
      rcases q3 a hb with z | z
      · exact cY.2.2 a ha a z rfl
      · exact dj a z (List.mem_append_left _ ha)
    · rcases List.mem_append.mp ha with z | z
      · exact .inl (List.mem_append_left _ z)
      · exact (q3 a z).imp (List.mem_append_right _) id
theorem m8 {ι : Type} {F : aU ι} {e : Expr} {ρ : En} {t : Tr} {pos : Pos} (j : Nat) {x : Str} {us : List Tr} {n : Int} {m : Nat} {nE : Expr} {p1 p2 : Pos} (h : ρ[j]? = some (some (.ow us))) (hn : cg F nE ρ (ti n)) (hm : dR us.length n = some m) (he : cg F e ρ t) (hN : ∀ i,(F.cx i).N[j]? = some x := by intro _; rfl)
    (hv : ∀ i,gS (F.cx i).env.scope x := by intro _; first | exact Or.inl rfl | exact Or.inr (Or.inl rfl) | exact Or.inr (Or.inr rfl)) (hd : (x == ("__debug__" : Str)) = false := by decide) (hc : (x == ("__classdict__" : Str)) = false := by decide)
    (hs : ∀ i,swapsWithSole [.Subscript (.Name x p1) nE p2] e pos.line (F.cx i).env = pure false := by intro _; rfl) (hw : ∀ i,swappedStores [.Subscript (.Name x p1) nE p2] e (F.cx i).env = pure none := by intro _; rfl)
    (h1 : ∀ i,(assignEach [.Subscript (.Name x p1) nE p2] (F.cx i).env).map (·.2) = [assign (.Subscript (.Name x p1) nE p2) (F.cx i).env] := by intro _; rfl)
    (hps : ∀ i,PG (F.cx i) (.Subscript (.Name x p1) nE p2) (yL (bb j) (uE F nE) x8)) :
    Rn F (.Assign [.Subscript (.Name x p1) nE p2] e pos) ρ (.nx (ρ.set j (some (.ow (us.set m t))))) := by
  obtain ⟨τ,y,z⟩ := he
  obtain ⟨Aa,yn,zn⟩ := hn
  refine ⟨gP τ (yL (bb j) (uE F nE) x8),fun i => QQ (y i) (hps i) (hs i) (hw i) (h1 i),fun D σ G0 H0 G H r k => ?_⟩
  obtain ⟨fp,r⟩ := r
  refine z σ G H fp _ r.st.s r.own r.g fun v1 G1 H1 f1 s1 o1 w1 => ?_
  have r1 : dH F.K G0 H0 G1 H1 ρ σ fp := ⟨r.st.trans s1,r.own.mono s1.g s1.h,r.own.off s1 r.g,r.n,r.d⟩
  obtain ⟨l0,zZ,z0,c1,c2,_⟩ := r1.mut h (.refl r1.st.s)
  refine ⟨_,c1,Aa,yn,zn σ G1 H1 fp _ r1.st.s r1.own r1.g fun vn G2 H2 f2 s2 o2 w2 => ?_⟩
  obtain ⟨l,vs,fq,d1,d2,d3,d4,d5,d6,d7⟩ := r.mut h (s1.trans s2)
  rw [c1] at d1
  cases d1
  have lW : m < us.length := (sD hm).2.1
  have nf : ∀ a ∈ f1,a ∉ fq := fun a ha hb => by
    obtain ⟨u,hu⟩ := r.own.there a (d6 a hb)
    rw [w1.n a ha] at hu; cases hu
  obtain ⟨fw,q1,q2,q3⟩ := d4.setAt lW (o1.mono s2.g s2.h) d5 w1.d nf
  refine ⟨l0,vs,n,m,rfl,aO o2.2,d3,by rw [<- d4.length]; exact hm,k σ G2 _ (d7 (us.set m t) (vs.set m v1) fw q1 q2 fun a ha => (q3 a ha).imp id fun z => ⟨w1.n a z,?_⟩)⟩
  cases q : G2 a with
  | none => rfl
  | some u =>
    obtain ⟨u',aT⟩ := o1.there a z
    have := s2.n a (w1.g a z) (by rw [q]; exact fun z => nomatch z)
    rw [aT] at this; cases this
end L2
namespace L2
open PySem PySem.Spec PyProof.Rows
def Rk (ta : TA) : TE := fun σ H Q => ta σ H fun vs H1 => ∃ j : Int,vs = [.int j] /\ ∀ p,H1 p = none -> Q (.ref p) (upd H1 p (.bQ 0 j))
section
variable {X : Cx}
theorem Nn {a : Expr} {ta : TA} {p pos : Pos} (hg : Gl X "range") (hm : X.mg "range" = none) (ha : PA X [a] ta) (hs : starEach [a] X.env = [(false,eval a X.env)] := by rfl) : PE X (.Call (.Name "range" p) [a] [] pos) (Rk ta) := by
  intro pins s σ H Q I h
  refine Call_ (kD I hg hm boot_range (PyProof.Rows.callWith_type1 (ax (ha pos pins s σ H _ I h) fun us s1 ⟨vs,H1,I1,r1,q1⟩ => ?_) hs rfl))
  obtain ⟨j,e,q⟩ := q1
  subst e
  cases r1 with
  | cons r rr =>
    cases rr
    obtain ⟨t,rfl⟩ := r
    refine call_range_1 ⟨.ref _,_,I1.laid (t' := s1.toks + 1 + 1) (o := .bQ 0 j) (fun b ob q => Heap.get?_push_of_some _ q) (Nat.le_refl _) ?_,rfl,q _ (I1.ay.fresh (Nat.le_refl _))⟩
    exact ⟨_,_,_,Heap.get?_push_size _ rfl⟩
theorem Ls (hc : X.calm = true) : eI X (.type "list") (fun xs H Q => ∃ p n,xs = [.ref p] /\ H p = some (.bQ 0 n) /\ 0 <= n /\ n < 2 ^ 20 /\ ∀ l,H l = none -> Q (.ref l) (upd H l (.lst ((List.range n.toNat).map fun i => .int (0 + ((i : Nat) : Int)))))) := by
  intro pins s σ H xs us Q I r h
  obtain ⟨p,n,rfl,hH,h0,h1,q⟩ := h
  obtain ⟨u,rfl,rx⟩ := vals1 r
  cases rx
  obtain ⟨t,u,v,e⟩ := (show bU X.prog X.w H s.heap p (.bQ 0 n) from I.ay p _ hH)
  have Sa : Builtin.Range.rangeSize 0 n 1 = (n.toNat : Nat) := by rw [rangeSize_pos (by decide) h0]; omega
  refine call_list_range (n := n.toNat) (I.ok.hd hc) e (MK h0 (by omega) (by decide) (by decide)) Sa (by omega) fun h' tk Ib c' kp e' it => ?_
  refine ⟨.ref s.heap.objs.size,_,I.laid (t' := tk) (o := .lst ((List.range n.toNat).map fun i => .int (0 + ((i : Nat) : Int)))) kp (Nat.le_refl _) ?_,rfl,q _ (I.ay.fresh (Nat.le_refl _))⟩
  have hs : sizeLine = 16777216 := sizeLine_eq
  refine ⟨by rw [List.length_map,List.length_range]; omega,Ib.toList,c',?_,by rw [Array.toArray_toList]; exact e'⟩
  obtain ⟨i1,i2⟩ := it
  have gen : ∀ (l : List Value) (k : Nat),(∀ j v,l[j]? = some v -> ∃ t,v = Value.int (0 + ((k + j : Nat) : Int)) t) -> Vals ((List.range l.length).map fun i => V.int (0 + ((k + i : Nat) : Int))) l := by
    intro l
    induction l with
    | nil => intro k _; exact .nil
    | cons a l ih =>
      intro k hk
      rw [List.length_cons,List.range_succ_eq_map,List.map_cons,List.map_map]
      obtain ⟨t,ht⟩ := hk 0 a rfl
      refine .cons ⟨t,by rw [ht]⟩ ?_
      have := ih (k + 1) (fun j v hj => by
        obtain ⟨t,ht⟩ := hk (j + 1) v hj
        exact ⟨t,by rw [ht,show k + (j + 1) = k + 1 + j by omega]⟩)
      refine (List.map_congr_left fun i _ => ?_) ▸ this
      show V.int (0 + ((k + 1 + i : Nat) : Int)) = V.int (0 + ((k + (i + 1) : Nat) : Int))
      rw [show k + 1 + i = k + (i + 1) by omega]
  have g0 := gen Ib.toList 0 fun j v hj => by
    obtain ⟨t,ht⟩ := i2 j v (by rw [<- Array.getElem?_toList]; exact hj)
    refine ⟨t,?_⟩
    rw [ht,Int.mul_one,Nat.zero_add]
  rw [Array.length_toList,i1] at g0
  have e0 : ((List.range n.toNat).map fun i => V.int (0 + ((0 + i : Nat) : Int))) = (List.range n.toNat).map fun i => V.int (0 + ((i : Nat) : Int)) := List.map_congr_left fun i _ => by rw [Nat.zero_add]
  rw [e0] at g0
  exact g0
def Ic (K : PySem.W.Frag) : List V -> Hp -> VK -> Prop := fun xs H Q => ∃ (p : Addr) (bs : List Bool),xs = [.ref p] /\ aD K H p (bs.map V.bl) /\ Q (.bl (bs.any id)) H
theorem range_any (bs : List Bool) : ((List.range bs.length).any fun i => (bs[i]?).getD false) = bs.any id := by
  have := congrArg (fun l : List Bool => l.any id) (vF bs false id)
  simp only [List.any_map,List.map_id] at this
  exact this
theorem Ol (hc : X.calm = true) : eI X (.builtin "any") (Ic X.K) := by
  intro pins s σ H xs us Q I r h
  obtain ⟨p,bs,rfl,hq,q⟩ := h
  cases r with
  | cons r1 rr =>
    cases rr
    cases r1
    obtain ⟨its,rv,pl,hz⟩ := I.list hq
    have hb := Ob rv
    have hl : s.heap.IsList p its.toArray := pl.isList
    have aS : p < s.heap.objs.size := by obtain ⟨_,e,_⟩ := hl; exact Heap.lt_size e
    refine call_any_walk (wpAny_pyIter_list hl ?_)
    refine ⟨s.heap.objs.size,[s.heap.objs.size,p],[s.heap.objs.size],its.toArray.size,_,_,fun i => (bs[i]?).getD false,rfl,Walks.list (A := X.A.in1) (I.ok.hd hc) _ p (Nat.ne_of_lt aS) its.toArray,
      ⟨⟨_,Heap.get?_push_size _ rfl,rfl,rfl⟩,hl.push _⟩,fun i v s' Q' E' hP hQ => ?_,fun h' tk hk => ?_⟩
    · obtain ⟨b,e,rfl⟩ := hb.get i v (by simpa using hP)
      simp only [e,Option.getD_some] at hQ
      exact wpAny_truthy_bool hQ
    · have e : ((List.range its.toArray.size).any fun i => (bs[i]?).getD false) = bs.any id := by
        rw [List.size_toArray,hb.length]; exact range_any bs
      rw [e]
      exact ⟨.bl _,H,I.kept (t' := tk) (LSm.kept_iter hk),rfl,q⟩
def unlike (ns : List Int) : Nat := (firstMet (fun i => ns.getD i 0) ns.length).length
theorem Lv (hc : X.calm = true) : eI X (.type "set") (fun xs H Q => ∃ (p : Addr) (ns : List Int),xs = [.ref p] /\ aD X.K H p (ns.map V.int) /\ ns.length < 1000 /\ ∀ l S,H l = none -> Q (.ref l) (upd H l (.set S (unlike ns)))) := by
  intro pins s σ H xs us Q I r h
  obtain ⟨p,ns,rfl,hq,hz,q⟩ := h
  obtain ⟨u,rfl,rx⟩ := vals1 r
  cases rx
  obtain ⟨its,rv,pl,_⟩ := I.list hq
  have hi := intsAre_of rv
  have hl := rv.length
  rw [List.length_map] at hl
  refine call_set_list (ns := ns) (I.ok.hd hc) pl.isList (by simpa using hi) (by rw [List.size_toArray,<- hl]; exact Nat.lt_of_lt_of_le (Nat.succ_lt_succ hz) (by decide)) fun h' tk hs kp => ?_
  have hsz : its.toArray.size = ns.length := by rw [List.size_toArray,<- hl]
  rw [hsz] at hs
  exact ⟨.ref s.heap.objs.size,_,I.laid (t' := tk) (o := .set _ (unlike ns)) (fun b o e => kp b o (Heap.lt_size e) e) (Nat.le_refl _) hs,rfl,q _ _ (I.ay.fresh (Nat.le_refl _))⟩
theorem Lw : eI X (.builtin "len") (fun xs H Q => ∃ p S n,xs = [.ref p] /\ H p = some (.set S n) /\ Q (.int n) H) := by
  intro pins s σ H xs us Q I r h
  obtain ⟨p,S,n,rfl,hH,q⟩ := h
  obtain ⟨u,rfl,rx⟩ := vals1 r
  cases rx
  obtain ⟨o,es,ep,t,h1,h2,h3,_,_,h4,h5,h6⟩ := (show bU X.prog X.w H s.heap p (.set S n) from I.ay p _ hH)
  subst h6
  refine call_len_set h1 h2 h3 h5 (by have : es.size < 4096 := h4; omega) ⟨.int _,H,I.tok _,⟨_,rfl⟩,q⟩
theorem LW {ns : List Int} (h : ns.Nodup) : unlike ns = ns.length := by
  have gen : ∀ i,i <= ns.length -> firstMet (fun i => ns.getD i 0) i = ns.take i := by
    intro i
    induction i with
    | zero => intro _; rw [firstMet_zero]; simp
    | succ i ih =>
      intro hi
      rw [firstMet_succ,ih (by omega)]
      have hx : ns[i]? = some (ns[i]'(by omega)) := List.getElem?_eq_getElem _
      rw [dJ hx]
      have e : ns.getD i 0 = ns[i]'(by omega) := by rw [List.getD_eq_getElem?_getD,hx]; rfl
      show step_dedup (ns.take i) (ns.getD i 0) = _
      rw [e]
      unfold step_dedup
      have : ((ns.take i).any (· == ns[i]'(by omega))) = false := by
        rw [Bool.eq_false_iff]
        intro z
        obtain ⟨y,hy,XT⟩ := List.any_eq_true.mp z
        have cF : y = ns[i]'(by omega) := by simpa using XT
        subst cF
        obtain ⟨j,hj,JM⟩ := List.mem_iff_getElem.mp hy
        rw [List.getElem_take] at JM
        rw [List.length_take] at hj
        have := (List.getElem_inj (xs := ns) h).mp JM
        omega
      rw [this]
      rfl
  unfold unlike
  rw [gen ns.length (Nat.le_refl _),List.take_length]
theorem LX : eI X (.builtin "sorted") (fun xs H Q => ∃ (p : Addr) (ns : List Int),xs = [.ref p] /\ aD X.K H p (ns.map V.int) /\ ns.length < 64 /\ ∀ (l : Addr) (ms : List Int),H l = none -> ms.Perm ns -> ms.Pairwise (· <= ·) -> Q (.ref l) (upd H l (.lst (ms.map V.int)))) := by
  intro pins s σ H xs us Q I r h
  obtain ⟨p,ns,rfl,hq,hz,q⟩ := h
  obtain ⟨u,rfl,rx⟩ := vals1 r
  cases rx
  obtain ⟨its,rv,pl,cG⟩ := I.list hq
  have hl := rv.length
  rw [List.length_map] at hl
  refine sorted_ints pl.isList (intsAre_of rv) (by omega) fun out ms io pm pw => ?_
  obtain ⟨e,he⟩ := sortedAll_at s.heap its out
  refine ⟨.ref (s.heap.objs.size + 1),_,I.laid (t' := s.toks) (o := .lst (ms.map V.int)) (fun b o e => sortedAll_old e) (Nat.le_succ _) ?_,rfl,q _ ms (I.ay.fresh (Nat.le_succ _)) pm pw⟩
  refine ⟨by rw [List.length_map,pm.length_eq]; rw [List.length_map] at cG; exact cG,out.toList,e,vX io,by rw [Array.toArray_toList]; exact he⟩
end
section
variable {ι : Type} {F : aU ι} {e a b c : Expr} {es : List Expr} {ρ : En} {t ta bZ : Tr} {ts : List Tr} {pos : Pos}
theorem jH (l : List Int) : (l.map di).map Tr.fz = l.map fun n => Tr.fz (di n) := by rw [List.map_map]; rfl
theorem CY {n : Int} (hm : F.mg "list" = none) (rk : F.mg "range" = none) (ha : Ev F a ρ (ti n)) (h0 : 0 <= n) (h1 : n < 2 ^ 20) {p1 p2 kZ : Pos} (hg : ∀ i,Gl (F.cx i) "list" := by intro _; rfl) (lP : ∀ i,Gl (F.cx i) "range" := by intro _; rfl)
    (hs : ∀ i,starEach [a] (F.cx i).env = [(false,eval a (F.cx i).env)] := by intro _; rfl) (fu : ∀ i,starEach [.Call (.Name "range" p2) [a] [] kZ] (F.cx i).env = [(false,eval (.Call (.Name "range" p2) [a] [] kZ) (F.cx i).env)] := by intro _; rfl) :
    Ev F (.Call (.Name "list" p1) [.Call (.Name "range" p2) [a] [] kZ] [] pos) ρ (.ow (((List.range n.toNat).map fun i => (0 + ((i : Nat) : Int))).map fun n => .fz (di n))) := by
  obtain ⟨τ,p,q⟩ := ha.use
  refine ⟨_,fun i => rY (Ls (F.calm i)) (hg i) ((F.hm i).symm ▸ hm) pF (bB (Nn (lP i) ((F.hm i).symm ▸ rk) (bB (p i) cB (hs i)) (hs i)) cB (fu i)) (by decide) (by decide) (fu i) rfl,fun σ G H Q s rr k => q σ G H _ s rr fun x G1 H1 s1 hx => ?_⟩
  refine ⟨n,by rw [aO hx],fun p0 uk => ⟨p0,n,rfl,ck,h0,h1,fun l hl => ?_⟩⟩
  have k2 := k.step (s1.trans (Step.gD (o := .bQ 0 n) s1.s uk))
  have e : ((List.range n.toNat).map fun i => V.int (0 + ((i : Nat) : Int))) = ((List.range n.toNat).map fun i => (0 + ((i : Nat) : Int))).map V.int := by rw [List.map_map]; rfl
  rw [e]
  refine k2.lst (s1.s.trans (ai.new uk)) ?_ hl
  rw [<- jH]
  exact sk.eO
theorem xN {bs : List Bool} (hm : F.mg "any" = none) (ha : Ev F e ρ ta) (ea : er ta = .lst (bs.map db)) {p' : Pos} (hg : ∀ i,Gl (F.cx i) "any" := by intro _; rfl)
    (hs : ∀ i,starEach [e] (F.cx i).env = [(false,eval e (F.cx i).env)] := by intro _; rfl) : Ev F (.Call (.Name "any" p') [e] [] pos) ρ (tb (bs.any id)) :=
  sr (r := Ic F.K) (fun i => F.hK i ▸ Ol (F.calm i)) hm Q3 (ah ha av hs) (fun G H vs Q s hx k => by
    obtain ⟨x,rfl,eX⟩ := iG hx
    rw [ea] at eX
    obtain ⟨l,ys,rfl,h1,h2⟩ := eX
    have := Dr h2
    subst this
    exact ⟨l,bs,rfl,s.seq h1,k.sc s rfl⟩) hg (by decide) (by decide) hs (fun _ => rfl)
theorem Rl : bootBuiltins "set" = some (.type "set") := by decide +kernel
theorem Np {ns : List Int} (hm : F.mg "len" = none) (rk : F.mg "set" = none) (ha : Ev F a ρ ta) (ea : er ta = dis ns) (hz : ns.length < 1000) {p1 p2 kZ : Pos} (hg : ∀ i,Gl (F.cx i) "len" := by intro _; rfl) (lP : ∀ i,Gl (F.cx i) "set" := by intro _; rfl)
    (hs : ∀ i,starEach [a] (F.cx i).env = [(false,eval a (F.cx i).env)] := by intro _; rfl) (fu : ∀ i,starEach [.Call (.Name "set" p2) [a] [] kZ] (F.cx i).env = [(false,eval (.Call (.Name "set" p2) [a] [] kZ) (F.cx i).env)] := by intro _; rfl) :
    Ev F (.Call (.Name "len" p1) [.Call (.Name "set" p2) [a] [] kZ] [] pos) ρ (ti (unlike ns : Nat)) := by
  obtain ⟨τ,p,q⟩ := ha.use
  refine ⟨gY _ (bt (gY (fun xs H Q => ∃ (p : Addr) (ns : List Int),xs = [.ref p] /\ aD F.K H p (ns.map V.int) /\ ns.length < 1000 /\ ∀ l S,H l = none -> Q (.ref l) (upd H l (.set S (unlike ns)))) (bt τ cm)) cm),fun i => pf Lw (hg i) ((F.hm i).symm ▸ hm) xI (bB (rY (F.hK i ▸ Lv (F.calm i)) (lP i) ((F.hm i).symm ▸ rk) Rl (bB (p i) cB (hs i)) (by decide) (by decide) (hs i) rfl) cB (fu i)) (by decide) (by decide) (fu i) rfl,fun σ G H Q s rr k => q σ G H _ s rr fun x G1 H1 s1 hx => ?_⟩
  rw [ea] at hx
  obtain ⟨l,ys,rfl,h1,h2⟩ := hx
  have := sj h2
  subst this
  refine ⟨l,ns,rfl,s1.s.seq h1,hz,fun l0 S um => ⟨l0,S,_,rfl,ck,?_⟩⟩
  exact (k.step (s1.trans (Step.gD (o := .set S (unlike ns)) s1.s um))).sc (s1.s.trans (ai.new um)) rfl
def sortI (ns : List Int) : List Int := ns.mergeSort (fun a b => decide (a <= b))
theorem sortI_perm (ns : List Int) : (sortI ns).Perm ns := List.mergeSort_perm ..
theorem DY (ns : List Int) : (sortI ns).Pairwise (· <= ·) := by
  have := List.pairwise_mergeSort (le := fun a b : Int => decide (a <= b)) (fun a b c h1 h2 => by simp only [decide_eq_true_eq] at *; omega) (fun a b => by simp only [Bool.or_eq_true,decide_eq_true_eq]; omega) ns
  exact this.imp fun h => by simpa using h
theorem C2 {a b : List Int} (p : a.Perm b) (ha : a.Pairwise (· <= ·)) (hb : b.Pairwise (· <= ·)) : a = b := List.Perm.eq_of_pairwise (fun x y _ _ h1 h2 => Int.le_antisymm h1 h2) ha hb p
theorem Nq {ns : List Int} (hm : F.mg "sorted" = none) (ha : Ev F e ρ ta) (ea : er ta = dis ns) (hz : ns.length < 64) {p' : Pos} (hg : ∀ i,Gl (F.cx i) "sorted" := by intro _; rfl)
    (hs : ∀ i,starEach [e] (F.cx i).env = [(false,eval e (F.cx i).env)] := by intro _; rfl) : Ev F (.Call (.Name "sorted" p') [e] [] pos) ρ (.ow ((sortI ns).map fun n => .fz (di n))) :=
  sr (r := fun xs H Q => ∃ (p : Addr) (ns : List Int),xs = [.ref p] /\ aD F.K H p (ns.map V.int) /\ ns.length < 64 /\ ∀ (l : Addr) (ms : List Int),H l = none -> ms.Perm ns -> ms.Pairwise (· <= ·) -> Q (.ref l) (upd H l (.lst (ms.map V.int)))) (fun i => F.hK i ▸ LX) hm Dn (ah ha av hs) (fun G H vs Q s hx k => by
    obtain ⟨x,rfl,eX⟩ := iG hx
    rw [ea] at eX
    obtain ⟨l,ys,rfl,h1,h2⟩ := eX
    have := sj h2
    subst this
    refine ⟨l,ns,rfl,s.seq h1,hz,fun l0 ms um pm pw => ?_⟩
    have em : ms = sortI ns := C2 (pm.trans (sortI_perm ns).symm) pw (DY ns)
    subst em
    refine k.lst s ?_ um
    rw [<- jH]
    exact sk.eO) hg (by decide) (by decide) hs (fun _ => rfl)
theorem DZ {K : PySem.W.Frag} {G : Hp} : ∀ {ws : List V} {vs : List V},aI K G (ws.map .fl) vs -> vs = ws /\ ws.all dY = true
  | [],_,h => ⟨h,rfl⟩
  | _ :: _,_,⟨x,r,h1,h2,h3⟩ => by
    obtain ⟨e1,e2⟩ := DZ h3
    subst h1
    refine ⟨by rw [h2.1,e1],?_⟩
    rw [List.all_cons,e2,h2.2]
    rfl
theorem Nr {v : V} {ws : List V} {o : Expr} {to : Tr} (ho : Ev F o ρ to) (eo : er to = .lst (ws.map .fl)) (ha : Ev F e ρ (.fz (.fl v))) {apos : Pos}
    (gL : ∀ i,attributeBase o "count" (F.cx i).env (eval o (F.cx i).env) = eval o (F.cx i).env := by intro _; rfl)
    (gQ : ∀ i,((backTo pos (starEach [e] (F.cx i).env)).all (fun x => !x.1) && (backToKw pos (keywordEach [] (F.cx i).env)).all (fun x => x.1.isSome) && decide (([e] : List Expr).length + ([] : List Keyword).length + (if ([] : List Keyword).isEmpty then 0 else 1) < 30)) = true := by intro _; rfl)
    (hline : (apos.endLine == pos.line) = true := by rfl) (hs : ∀ i,starEach [e] (F.cx i).env = [(false,eval e (F.cx i).env)] := by intro _; rfl) : Ev F (.Call (.Attribute o "count" apos) [e] [] pos) ρ (ti (ws.countP (fun z => cX z v) : Nat)) :=
  R8 (r := FK F.K) PySem.F.slot_list_count PySem.F.type_list_count (fun i => F.hK i ▸ Oi) ho eo (ah ha av hs) (fun G H x vs Q s hx hv k => by
    rw [eo] at hx
    obtain ⟨l,us,rfl,h1,h2⟩ := hx
    obtain ⟨rfl,hf⟩ := DZ h2
    obtain ⟨y,rfl,hy⟩ := iG hv
    refine ⟨l,_,y,rfl,rfl,s.seq h1,by rw [hy.1]; exact hy.2,hf,?_⟩
    rw [hy.1]
    exact k.sc s rfl) gL gQ hline hs (fun _ => rfl)
theorem aB.erase {K : PySem.W.Frag} {G H : Hp} : ∀ {us : List Tr} {vs : List V} {fq : List Addr} {m : Nat} {u : Tr},aB K G H us vs fq -> us[m]? = some u -> fq.Nodup -> ∃ v f fw,vs[m]? = some v /\ Ow K G H u v f /\ aB K G H (us.eraseIdx m) (vs.eraseIdx m) fw /\ fw.Nodup /\ f.Nodup /\ (∀ a ∈ fw,a ∈ fq) /\ (∀ a ∈ f,a ∈ fq) /\ ∀ a ∈ f,a ∉ fw
  | t :: us,_,_,0,u,⟨v,r,f1,f2,h1,h2,h3,h4⟩,hu,nd => by
    cases hu
    subst h1 h2
    have cY := List.nodup_append.mp nd
    exact ⟨v,f1,f2,rfl,h3,h4,cY.2.1,cY.1,fun a ha => List.mem_append_right _ ha,fun a ha => List.mem_append_left _ ha,fun a ha hb => cY.2.2 a ha a hb rfl⟩
  | t :: us,_,_,m + 1,u,⟨v,r,f1,f2,h1,h2,h3,h4⟩,hu,nd => by
    subst h1 h2
    have cY := List.nodup_append.mp nd
    obtain ⟨v',f,fw,q1,q2,q3,q4,q5,q6,q7,q8⟩ := aB.erase (m := m) h4 hu cY.2.1
    refine ⟨v',f,f1 ++ fw,q1,q2,⟨v,_,f1,fw,rfl,rfl,h3,q3⟩,List.nodup_append.mpr ⟨cY.1,q4,fun a ha b hb e => cY.2.2 a ha b (q6 b hb) e⟩,q5,fun a ha => ?_,fun a ha => List.mem_append_right _ (q7 a ha),fun a ha hb => ?_⟩
    · rcases List.mem_append.mp ha with z | z
      · exact List.mem_append_left _ z
      · exact List.mem_append_right _ (q6 a z)
    · rcases List.mem_append.mp hb with z | z
      · exact cY.2.2 a z a (q7 a ha) rfl
      · exact q8 a ha z
theorem Lx (j j2 : Nat) {x y : Str} {us ws : List Tr} {d : Dv} {n : Int} {m : Nat} {nE : Expr} {p1 p2 p3 p4 p5 p6 : Pos} (XU : j ≠ j2) (h : ρ[j]? = some (some (.ow us))) (h2 : ρ[j2]? = some (some (.ow ws))) (hn : cg F nE ρ (ti n)) (hm : dR ws.length n = some m) (hb : -(2 ^ 62) <= n /\ n < 2 ^ 62) (hu : ws[m]? = some (.fz d)) (hz : us.length < sizeLine)
    (hN : ∀ i,(F.cx i).N[j]? = some x := by intro _; rfl) (XW : ∀ i,(F.cx i).N[j2]? = some y := by intro _; rfl)
    (hv : ∀ i,gS (F.cx i).env.scope x := by intro _; first | exact Or.inl rfl | exact Or.inr (Or.inl rfl) | exact Or.inr (Or.inr rfl)) (XX : ∀ i,gS (F.cx i).env.scope y := by intro _; first | exact Or.inl rfl | exact Or.inr (Or.inl rfl) | exact Or.inr (Or.inr rfl))
    (hd : (x == ("__debug__" : Str)) = false := by decide) (hc : (x == ("__classdict__" : Str)) = false := by decide) (hd2 : (y == ("__debug__" : Str)) = false := by decide) (XY : (y == ("__classdict__" : Str)) = false := by decide)
    (gL : ∀ i,attributeBase (.Name x p1) "append" (F.cx i).env (eval (.Name x p1) (F.cx i).env) = eval (.Name x p1) (F.cx i).env := by intro _; rfl) (Rm : ∀ i,attributeBase (.Name y p4) "pop" (F.cx i).env (eval (.Name y p4) (F.cx i).env) = eval (.Name y p4) (F.cx i).env := by intro _; rfl)
    (gQ : ∀ i,((backTo p3 (starEach [.Call (.Attribute (.Name y p4) "pop" p5) [nE] [] p6] (F.cx i).env)).all (fun x => !x.1) && (backToKw p3 (keywordEach [] (F.cx i).env)).all (fun x => x.1.isSome) && decide (([.Call (.Attribute (.Name y p4) "pop" p5) [nE] [] p6] : List Expr).length + ([] : List Keyword).length + (if ([] : List Keyword).isEmpty then 0 else 1) < 30)) = true := by intro _; rfl)
    (Sb : ∀ i,((backTo p6 (starEach [nE] (F.cx i).env)).all (fun x => !x.1) && (backToKw p6 (keywordEach [] (F.cx i).env)).all (fun x => x.1.isSome) && decide (([nE] : List Expr).length + ([] : List Keyword).length + (if ([] : List Keyword).isEmpty then 0 else 1) < 30)) = true := by intro _; rfl)
    (hline : (p2.endLine == p3.line) = true := by rfl) (Ro : (p5.endLine == p6.line) = true := by rfl) (hs : ∀ i,starEach [.Call (.Attribute (.Name y p4) "pop" p5) [nE] [] p6] (F.cx i).env = [(false,eval (.Call (.Attribute (.Name y p4) "pop" p5) [nE] [] p6) (F.cx i).env)] := by intro _; rfl) (fu : ∀ i,starEach [nE] (F.cx i).env = [(false,eval nE (F.cx i).env)] := by intro _; rfl)
    (jq : ∀ i,swapsWith (.Call (.Attribute (.Name x p1) "append" p2) [.Call (.Attribute (.Name y p4) "pop" p5) [nE] [] p6] [] p3) none pos.line (F.cx i).env = pure false := by intro _; rfl) :
    Rn F (.Expr (.Call (.Attribute (.Name x p1) "append" p2) [.Call (.Attribute (.Name y p4) "pop" p5) [nE] [] p6] [] p3) pos) ρ (.nx ((ρ.set j2 (some (.ow (ws.eraseIdx m)))).set j (some (.ow (us ++ [.fz d]))))) := by
  obtain ⟨Aa,yn,zn⟩ := hn
  refine ⟨jL (fZ F.K "list" ky (bb j) (bt (fZ F.K "list" Fx (bb j2) (bt Aa cm)) cm)),fun i => kx (F.hK i ▸ jM PySem.F.plainAttrs_list PySem.F.slot_list_append PySem.F.type_list_append mY (kC (hN i) (hv i) hd hc) (bB (jM PySem.F.plainAttrs_list PySem.F.slot_list_pop PySem.F.type_list_pop N5 (kC (XW i) (XX i) hd2 XY) (bB (yn i) cB (fu i)) (Rm i) (Sb i) Ro (fu i) rfl) cB (hs i)) (gL i) (gQ i) hline (hs i) rfl) (jq i),fun D σ G0 H0 G H r k => ?_⟩
  obtain ⟨fp,r⟩ := r
  obtain ⟨l0,zZ,z0,c1,c2,_⟩ := r.mut h (.refl r.st.s)
  obtain ⟨l2,vs2,fq2,e1,e2,_⟩ := r.mut h2 (.refl r.st.s)
  refine ⟨_,c1,.inl ⟨rfl,_,aD.of c2⟩,_,e1,.inl ⟨rfl,_,aD.of e2⟩,?_⟩
  refine zn σ G H fp _ r.st.s r.own r.g fun vn G1 H1 f1 s1 o1 w1 => ?_
  obtain ⟨l,vs,fq,d1,d2,d3,d4,d5,d6,d7⟩ := r.mut h2 s1
  rw [e1] at d1
  cases d1
  obtain ⟨v,f,fw,g1,g2,g3,g4,g5,g6,g7,g8⟩ := d4.erase hu d5
  obtain ⟨rfl,rD⟩ := g2
  obtain ⟨XZ,ix2,ix3,ix4⟩ := sD hm
  refine ⟨l2,vs,n,m,v,rfl,by rw [aO o1.2],d3,by omega,by omega,by rw [<- d4.length]; exact XZ,g1,?_⟩
  have r2 := d7 (ws.eraseIdx m) (vs.eraseIdx m) fw g3 g4 fun a ha => .inl (g6 a ha)
  obtain ⟨fp2,r2⟩ := r2
  have j6 : (ρ.set j2 (some (.ow (ws.eraseIdx m))))[j]? = some (some (.ow us)) := by rw [List.getElem?_set_ne (Ne.symm XU)]; exact h
  obtain ⟨l3,JN,X0,b1,b2,b3,b4,b5,b6,b7⟩ := r2.mut j6 (.refl r2.st.s)
  rw [c1] at b1
  cases b1
  refine ⟨l0,JN,v,rfl,rfl,b2,by rw [<- b4.length]; exact hz,k σ G1 _ ?_⟩
  exact b7 (us ++ [.fz d]) (JN ++ [v]) (X0 ++ ([] ++ [])) (b4.append (us := [.fz d]) ⟨v,[],[],[],rfl,rfl,⟨rfl,rD⟩,rfl,rfl⟩) (by simpa using b5) fun a ha => .inl (by simpa using ha)
end
end L2
namespace L2
open PySem PySem.Spec PyProof.Rows
theorem xi {xs : List Dv} {k : Nat} {d : Dv} (h : (kX xs)[k]? = some d) : ∃ x,xs[k]? = some x /\ d = .tup [di (k : Nat),x] := by
  unfold kX at h
  rw [List.getElem?_zipWith] at h
  cases hx : xs[k]? with
  | none =>
    rw [hx] at h
    cases q2 : (List.range xs.length)[k]? with
    | none => rw [q2] at h; cases h
    | some z => rw [q2] at h; cases h
  | some x =>
    have lj : k < xs.length := (List.getElem?_eq_some_iff.mp hx).1
    rw [hx,List.getElem?_range lj] at h
    cases h
    exact ⟨x,rfl,rfl⟩
theorem ER (xs : List Dv) : (kX xs).length = xs.length := by unfold kX; rw [List.length_zipWith,List.length_range,Nat.min_self]
theorem kE {α : Type} (l : List α) (f : α -> Int) : er (.ow (l.map fun k => Tr.fz (di (f k)))) = dis (l.map f) := by
  show Dv.lst _ = Dv.lst _
  rw [iq,List.map_map,List.map_map]; rfl
theorem Om (ws : List V) : er (.ow (ws.map fun v => Tr.fz (.fl v))) = .lst (ws.map .fl) := by
  show Dv.lst _ = Dv.lst _
  rw [iq,List.map_map]; rfl
abbrev aM (l : List Int) : Tr := .ow (l.map fun n => .fz (di n))
abbrev kN (L : List (List Int)) : Tr := .ow (L.map aM)
theorem dN (l : List Int) : er (aM l) = dis l := by
  show Dv.lst _ = _
  rw [iq,List.map_map]; rfl
theorem D1 (L : List (List Int)) : er (kN L) = .lst (L.map dis) := by
  show Dv.lst _ = _
  rw [iq,List.map_map]
  congr 1
  exact List.map_congr_left fun l _ => dN l
theorem D2 : ∀ L : List (List Int),kW (L.map aM)
  | [] => True.intro
  | l :: L => ⟨pH l,D2 L⟩
theorem Oo (L : List (List Int)) : fA (.lst (L.map dis)) = true := xh sI L
theorem Oq (L : List (List Int)) : cS (.lst (L.map dis)) <= 2 := sJ fun d hd => by
  obtain ⟨m,_,rfl⟩ := List.mem_map.mp hd
  exact pK m
def aX (c : List Int) (os : List (List Int)) : Dv := .tup [dis c,.lst (os.map dis)]
theorem Py (c : List Int) (os : List (List Int)) : fA (aX c os) = true := by
  show (fA (dis c) && (fA (.lst (os.map dis)) && true)) = true
  rw [sI,Oo]; rfl
theorem Pz (c : List Int) (os : List (List Int)) : cS (aX c os) <= 3 := Px fun d hd => by
  rcases List.mem_cons.mp hd with rfl | hd
  · exact Nat.le_trans (pK c) (by decide)
  · rw [List.mem_singleton.mp hd]; exact Oq os
def gu (n : Nat) (o : List Int) : List Int := ((List.range n).filter fun k => !o.contains (0 + ((k : Nat) : Int))).map fun k => 0 + ((k : Nat) : Int)
def aJ (n : Nat) (o : List Int) : List Int := o ++ [(n : Int)] ++ gu n o
theorem o8 (n : Nat) (o : List Int) : (gu n o).length <= n := by
  unfold gu
  rw [List.length_map]
  have := List.length_filter_le (fun k => !o.contains (0 + ((k : Nat) : Int))) (List.range n)
  rwa [List.length_range] at this
structure cV (c : List Int) (os : List (List Int)) : Prop where
  c6 : c.length <= 6
  cnt : ∀ x ∈ c,0 <= x /\ x <= 9
  o1 : 1 <= os.length
  o6 : os.length <= 6
  nd : ∀ o ∈ os,o.Nodup
  bQ : ∀ o ∈ os,∀ x ∈ o,0 <= x /\ x < c.length
theorem Dt {n : Nat} {l : List Int} (nd : l.Nodup) (h : ∀ x ∈ l,0 <= x /\ x < n) : l.length <= n := by
  have sub : l ⊆ (List.range n).map fun k => ((k : Nat) : Int) := fun x hx => by
    obtain ⟨h0,h1⟩ := h x hx
    exact List.mem_map.mpr ⟨x.toNat,List.mem_range.mpr (by omega),by omega⟩
  have := nd.length_le_of_subset sub
  simpa using this
theorem cV.jS {c : List Int} {os : List (List Int)} (h : cV c os) {o : List Int} (ho : o ∈ os) : o.length <= 6 := Nat.le_trans (Dt (h.nd o ho) (h.bQ o ho)) h.c6
end L2
namespace L2
open PySem PySem.Spec PyProof.Rows
theorem bA.to {ι : Type} {F : aU ι} {tg iter : Expr} {ρ : En} {a b : List Dv} (h : bA F tg iter ρ a) (e : a = b) : bA F tg iter ρ b := e ▸ h
theorem C8 {α : Type} : ∀ {l : List α} {m : Nat} (h : m < l.length),(l[m] :: l.eraseIdx m).Perm l
  | x :: l,0,_ => .refl _
  | x :: l,m + 1,h => by
    have h' : m < l.length := by simpa using h
    show (l[m] :: x :: l.eraseIdx m).Perm (x :: l)
    exact (List.Perm.swap ..).trans ((C8 h').cons x)
theorem Du {α β : Type} (f : α -> β) : ∀ (l : List α) (m : Nat),(l.map f).eraseIdx m = (l.eraseIdx m).map f
  | [],_ => rfl
  | _ :: _,0 => rfl
  | x :: l,m + 1 => by
    show f x :: (l.map f).eraseIdx m = f x :: (l.eraseIdx m).map f
    rw [Du f l m]
end L2
namespace L2
open PySem PySem.Spec PyProof.Rows
section
variable {ι : Type} {F : aU ι} {e a b c : Expr} {es : List Expr} {ρ : En} {t ta bZ : Tr} {ts : List Tr} {pos : Pos}
theorem wG {α β : Type} (q : α -> Bool) (h : α -> β) (d : β) : ∀ l : List α,((List.range l.length).filter fun k => ((l[k]?).map q).getD false).map (fun k => ((l[k]?).map h).getD d) = (l.filter q).map h
  | [] => rfl
  | a :: l => by
    have ih := wG q h d l
    rw [List.length_cons,List.range_succ_eq_map,List.filter_cons,List.filter_cons,List.filter_map]
    show List.map _ (if q a = true then _ else _) = _
    cases q a with
    | true =>
      show h a :: ((_ : List Nat).map Nat.succ).map _ = h a :: _
      rw [List.map_map,<- ih]; rfl
    | false =>
      show ((_ : List Nat).map Nat.succ).map _ = _
      rw [List.map_map]; exact ih
variable {js : List Nat} {sp : Dv -> Option (List Dv)} {elt tg iter : Expr}
theorem S2 {α : Type} (l : List α) (g : α -> Dv) (q : α -> Bool) (h : α -> Tr) {ifs : List Expr} {sc : Scope} {own : List Str} {fr : List Nat} {cl : ι -> List (Str × Addr)} (hi : bA F tg iter ρ (l.map g)) (hg : iL (cy F own fr sc cl) tg js sp) (hU : ∀ j ∈ js,j < own.length) (hz : l.length < sizeLine)
    (step : ∀ a ∈ l,∃ dd,sp (g a) = some dd /\ El (cy F own fr sc cl) ifs (bF js (dd.map .fz) (cn own fr ρ)) (q a) /\ (q a = true -> Ev (cy F own fr sc cl) elt (bF js (dd.map .fz) (cn own fr ρ)) (h a)))
    (gq : ∀ dd : List Dv,fN js (bF js (dd.map .fz) (cn own fr ρ)) = cn own fr ρ) : eY F own fr sc cl elt tg iter ifs ρ (.ow ((l.filter q).map h)) := by
  have := rp (ifs := ifs) hi hg hU (fun k => ((l[k]?).map q).getD false) (fun k => ((l[k]?).map h).getD tn) (by rw [List.length_map]; exact hz) (fun k d hd => by
    obtain ⟨a,ha,rfl⟩ := eA hd
    obtain ⟨dd,s1,s2,s3⟩ := step a (List.mem_of_getElem? ha)
    refine ⟨dd,s1,?_,?_⟩
    · show El _ _ _ (((l[k]?).map q).getD false)
      rw [ha]; exact s2
    · show ((l[k]?).map q).getD false = true -> Ev _ _ _ (((l[k]?).map h).getD tn)
      rw [ha]; exact s3) gq
  rw [List.length_map,wG] at this
  exact this
theorem y6 {α : Type} (l : List α) (g : α -> Dv) (h : α -> Tr) {sc : Scope} {own : List Str} {fr : List Nat} {cl : ι -> List (Str × Addr)} (hi : bA F tg iter ρ (l.map g)) (hg : iL (cy F own fr sc cl) tg js sp) (hU : ∀ j ∈ js,j < own.length) (hz : l.length < sizeLine)
    (step : ∀ a ∈ l,∃ dd,sp (g a) = some dd /\ Ev (cy F own fr sc cl) elt (bF js (dd.map .fz) (cn own fr ρ)) (h a))
    (gq : ∀ dd : List Dv,fN js (bF js (dd.map .fz) (cn own fr ρ)) = cn own fr ρ) : eY F own fr sc cl elt tg iter [] ρ (.ow (l.map h)) := by
  have := S2 l g (fun _ => true) h hi hg hU hz (fun a ha => let ⟨dd,s1,s2⟩ := step a ha; ⟨dd,s1,nF,fun _ => s2⟩) gq
  rwa [List.filter_eq_self.mpr fun _ _ => rfl] at this
theorem p9 {α : Type} (l : List α) (g : α -> Dv) (q : α -> Bool) (h : α -> Tr) {ifs : List Expr} {sc : Scope} {own : List Str} {fr : List Nat} {cl : ι -> List (Str × Addr)} (L : ∀ i,gH (F.cx i) sc (cl i) fr) (hi : bA F tg iter ρ (l.map g)) (hg : iL (cy F own fr sc cl) tg js sp) (hU : ∀ j ∈ js,j < own.length) (hz : l.length < sizeLine)
    (step : ∀ a ∈ l,∃ dd,sp (g a) = some dd /\ El (cy F own fr sc cl) ifs (bF js (dd.map .fz) (cn own fr ρ)) (q a) /\ (q a = true -> Ev (cy F own fr sc cl) elt (bF js (dd.map .fz) (cn own fr ρ)) (h a)))
    (gq : ∀ dd : List Dv,fN js (bF js (dd.map .fz) (cn own fr ρ)) = cn own fr ρ) (hs : ∀ i x,foldedSetIterable iter (F.cx i).env x = pure x := by intro _ _; rfl) : Ev F (.ListComp elt [⟨tg,iter,ifs,0⟩] sc pos) ρ (.ow ((l.filter q).map h)) := by
  have := kM (ifs := ifs) (pos := pos) L hi hg hU (fun k => ((l[k]?).map q).getD false) (fun k => ((l[k]?).map h).getD tn) (by rw [List.length_map]; exact hz) (fun k d hd => by
    obtain ⟨a,ha,rfl⟩ := eA hd
    obtain ⟨dd,s1,s2,s3⟩ := step a (List.mem_of_getElem? ha)
    refine ⟨dd,s1,?_,?_⟩
    · show El _ _ _ (((l[k]?).map q).getD false)
      rw [ha]; exact s2
    · show ((l[k]?).map q).getD false = true -> Ev _ _ _ (((l[k]?).map h).getD tn)
      rw [ha]; exact s3) gq hs
  rw [List.length_map,wG] at this
  exact this
theorem kF {α : Type} (l : List α) (g : α -> Dv) (h : α -> Tr) {sc : Scope} {own : List Str} {fr : List Nat} {cl : ι -> List (Str × Addr)} (L : ∀ i,gH (F.cx i) sc (cl i) fr) (hi : bA F tg iter ρ (l.map g)) (hg : iL (cy F own fr sc cl) tg js sp) (hU : ∀ j ∈ js,j < own.length) (hz : l.length < sizeLine)
    (step : ∀ a ∈ l,∃ dd,sp (g a) = some dd /\ Ev (cy F own fr sc cl) elt (bF js (dd.map .fz) (cn own fr ρ)) (h a))
    (gq : ∀ dd : List Dv,fN js (bF js (dd.map .fz) (cn own fr ρ)) = cn own fr ρ) (hs : ∀ i x,foldedSetIterable iter (F.cx i).env x = pure x := by intro _ _; rfl) : Ev F (.ListComp elt [⟨tg,iter,[],0⟩] sc pos) ρ (.ow (l.map h)) := by
  have := p9 (pos := pos) l g (fun _ => true) h L hi hg hU hz (fun a ha => let ⟨dd,s1,s2⟩ := step a ha; ⟨dd,s1,nF,fun _ => s2⟩) gq hs
  rwa [List.filter_eq_self.mpr fun _ _ => rfl] at this
theorem jC {α : Type} (l : List α) (h : α -> Tr) : er (.ow (l.map h)) = .lst (l.map fun a => er (h a)) := by
  show Dv.lst (cJ _) = _
  rw [iq,List.map_map]; rfl
end
end L2
namespace L2
open PySem PySem.Spec PyProof.Rows dI
section
variable {ι : Type} {F : aU ι} {e a b c : Expr} {es : List Expr} {ρ : En} {t ta bZ : Tr} {ts : List Tr} {pos : Pos}
theorem D3 {k : Nat} {f : Addr} {fd : FuncData} {ps : List Str} {R : List Dv -> Tr -> Prop} {x : Str} {n : Int} {tk : Tok} (Fn : Kn F.P F.w F.K F.mg F.base aq k x f fd ps (spT F.K R)) (B : Binds F.K fd ps [.int n tk]) (hk : k <= F.room) (ha : fK F (e :: es) ρ ts) (hR : R (cJ ts ++ [di n]) t) {p' : Pos} (hg : ∀ i,Gl (F.cx i) x := by intro _; rfl) (dQ : (x == ("__debug__" : Str)) = false := by decide)
    (he : ∀ i,starEach (e :: es) (F.cx i).env = (false,eval e (F.cx i).env) :: starEach es (F.cx i).env := by intro _; rfl) (dD : ∀ i,(backTo pos (starEach es (F.cx i).env)).any (·.1) = false := by intro _; rfl) : Ev F (.Call (.Name x p') (e :: es) [] pos) ρ t := by
  obtain ⟨τ,y,z⟩ := ha.use
  refine ⟨iC (spT F.K R) [.int n] E0 τ,fun i => ?_,fun σ G H Q s rr k => z σ G H _ s rr fun vs G1 H1 s1 hx => ?_⟩
  · have jn : Kn (F.cx i).prog (F.cx i).w (F.cx i).K (F.cx i).mg (F.cx i).base aq k x f fd ps (spT F.K R) := by
      rw [F.hP i,F.hw i,F.hK i,F.hm i,F.hb i]
      exact Fn
    exact EC jn.ok ((F.hr i).mono hk) (hg i) jn.zU jn.kp (by rw [F.hK i]; exact B) (.cons ⟨tk,rfl⟩ .nil) x9 (y i) dQ (he i) (dD i)
  · show spT F.K R (vs ++ [.int n]) H1 Q E0
    have app : ∀ {ds : List Dv} {vs : List V},aI F.K G1 ds vs -> aI F.K G1 (ds ++ [di n]) (vs ++ [.int n]) := by
      intro ds
      induction ds with
      | nil => intro vs h; have h' : vs = [] := h; subst h'; exact ⟨_,_,rfl,⟨rfl,rfl⟩,rfl⟩
      | cons d ds ih => intro vs ⟨x,r,h1,h2,h3⟩; subst h1; exact ⟨x,_,rfl,h2,ih h3⟩
    exact ⟨G1,_,t,s1.s,app hx,hR,k.step s1⟩
theorem EV {q : Bool} (hm : F.mg "int" = none) (ha : Ev F e ρ (tb q)) {p' : Pos} (hg : ∀ i,Gl (F.cx i) "int" := by intro _; rfl)
    (hs : ∀ i,starEach [e] (F.cx i).env = [(false,eval e (F.cx i).env)] := by intro _; rfl) : Ev F (.Call (.Name "int" p') [e] [] pos) ρ (ti (if q then 1 else 0)) :=
  wB (r := fun xs H Q => (∃ i,xs = [.int i] /\ Q (.int i) H) \/ ∃ k,xs = [.bl k] /\ Q (.int (if k then 1 else 0)) H) (fun i => Nb) hm FC (ah ha av hs) (fun G H vs Q s hx k => by
    obtain ⟨x,rfl,eX⟩ := iG hx
    exact .inr ⟨q,by rw [aO eX],k.sc s rfl⟩) hg (by decide) (by decide) hs (fun _ => rfl)
end
abbrev dF (p : Int × Int) : Dv := .tup [di p.1,di p.2]
abbrev tF (p : Int × Int) : Tr := .fz (dF p)
def fW (W s : Int) : Int × Int := (lT s W,lB s W)
theorem kG {W s : Int} (h : 0 < W) : 0 < (fW W s).2 := by have := tq (t := s) (show W ≠ 0 by omega); show 0 < lB s W; omega
theorem Hn {W s : Int} (h : 0 < W) : (fW W s).2 <= W := by have := R9 (t := s) (show W ≠ 0 by omega); show lB s W <= W; omega
theorem FN {W s : Int} (h : 0 < W) : (fW W s).1.natAbs <= s.natAbs := Rj (show W ≠ 0 by omega)
theorem m9 {W s : Int} (h : 0 < W) : (fW W s).1 * W = s * (fW W s).2 := xg (show W ≠ 0 by omega)
theorem EW {W s t b : Int} (h : 0 < W) (hb : b ≠ 0) (e : t * W = s * b) : (lT t b,lB t b) = fW W s := by
  obtain ⟨h1,h2⟩ := S1 hb (show W ≠ 0 by omega) e
  show _ = (_,_)
  rw [h1,h2]
theorem EX {W s t : Int} (h : 0 < W) : (lT ((fW W s).1 * (fW W t).2 + (fW W t).1 * (fW W s).2) ((fW W s).2 * (fW W t).2),lB ((fW W s).1 * (fW W t).2 + (fW W t).1 * (fW W s).2) ((fW W s).2 * (fW W t).2)) = fW W (s + t) := by
  have p1 := kG (s := s) h
  have p2 := kG (s := t) h
  have c1 := m9 (s := s) h
  have c2 := m9 (s := t) h
  generalize (fW W s).1 = a at *
  generalize (fW W s).2 = b at *
  generalize (fW W t).1 = c at *
  generalize (fW W t).2 = d at *
  refine EW h (by have := Int.mul_pos p1 p2; omega) ?_
  have e1 : (a * d + c * b) * W = (a * W) * d + (c * W) * b := by
    rw [Int.add_mul,Int.mul_right_comm a d W,Int.mul_right_comm c b W]
  rw [e1,c1,c2,Int.add_mul,Int.mul_assoc s b d,Int.mul_assoc t d b,Int.mul_comm d b]
theorem Rp {W s t : Int} (h : 0 < W) (e : fW W s = fW W t) : s = t := by
  have c1 := m9 (s := s) h
  have c2 := m9 (s := t) h
  rw [e] at c1
  have p := kG (s := t) h
  have : s * (fW W t).2 = t * (fW W t).2 := by rw [<- c1,<- c2]
  exact Int.eq_of_mul_eq_mul_right (by omega) this
theorem PB {W : Int} (h : 0 < W) : fW W 0 = (0,1) := by
  have := wD (t := 0) (b := W) (p := 0) (q := 1) (by omega) (by decide) (by decide) (by rw [Int.zero_mul,Int.zero_mul])
  show (_,_) = _
  rw [<- this.1,<- this.2]
theorem Sd {W s t : Int} (h : 0 < W) : (fW W s).1 * (fW W t).2 < (fW W t).1 * (fW W s).2 ↔ s < t := by
  have p1 := kG (s := s) h
  have p2 := kG (s := t) h
  have c1 := m9 (s := s) h
  have c2 := m9 (s := t) h
  generalize (fW W s).1 = a at *
  generalize (fW W s).2 = b at *
  generalize (fW W t).1 = c at *
  generalize (fW W t).2 = d at *
  have bd : 0 < b * d := Int.mul_pos p1 p2
  have e1 : a * d * W = s * (b * d) := by rw [Int.mul_right_comm,c1,Int.mul_assoc]
  have e2 : c * b * W = t * (b * d) := by rw [Int.mul_right_comm,c2,Int.mul_assoc,Int.mul_comm d b]
  constructor
  · intro z
    have := Int.mul_lt_mul_of_pos_right z h
    rw [e1,e2] at this
    exact Int.lt_of_mul_lt_mul_right this (by omega)
  · intro z
    have := Int.mul_lt_mul_of_pos_right z bd
    rw [<- e1,<- e2] at this
    exact Int.lt_of_mul_lt_mul_right this (by omega)
end L2
namespace L2
open PySem PySem.Spec PyProof.Rows
section
variable {ι : Type} {F : aU ι} {e a b c : Expr} {es : List Expr} {ρ : En} {t ta bZ : Tr} {ts : List Tr} {pos : Pos}
theorem Rn.to {st : Stmt} {ρ1 rC : En} (h : Rn F st ρ (.nx ρ1)) (e : ρ1 = rC) : Rn F st ρ (.nx rC) := e ▸ h
end
end L2
namespace L2
open PySem PySem.Spec PyProof.Rows
theorem RS.dg {K : PySem.W.Frag} {G0 H0 G H : Hp} {ρ : En} {σ : St} {j : Nat} {t : Tr} (r : RS K G0 H0 G H ρ σ) (h : ρ[j]? = some (some t)) : ∃ G1,RS K G0 H0 G1 H (ρ.set j (some (.fz (er t)))) σ := by
  obtain ⟨fp,r⟩ := r
  obtain ⟨v,f,fr,q1,q2,q3,q4⟩ := r.own.split h
  have nd := q4.nodup_iff.mp r.d
  have inf : ∀ a ∈ f,a ∈ fp := fun a ha => q4.mem_iff.mpr (List.mem_append_left _ ha)
  have inr : ∀ a ∈ fr,a ∈ fp := fun a ha => q4.mem_iff.mpr (List.mem_append_right _ ha)
  have w : Nw H0 G f := ⟨fun a ha => r.n a (inf a ha),fun a ha => r.g a (inf a ha),(List.nodup_append.mp nd).1⟩
  have hv : Hv K (ef G H f) (er t) v := q2.hv (ik w.g) fun a ha => iU ha
  have S3 : aE K (ef G H f) H (ρ.set j none) σ fr := q3.mono (ik w.g) (ai.refl H)
  have hj : j < ρ.length := by
    rcases Nat.lt_or_ge j ρ.length with z | z
    · exact z
    · rw [List.getElem?_eq_none z] at h; cases h
  obtain ⟨gg,p1,p2⟩ := S3.put (oN hj) (t := .fz (er t)) (v := v) (f := []) ⟨rfl,hv⟩
  rw [List.set_set] at p1
  have es : σ.set j (some v) = σ := by
    refine List.ext_getElem? fun i => ?_
    rw [List.getElem?_set]
    split
    · rename_i e
      subst e
      split
      · exact q1.symm
      · rename_i z; rw [List.getElem?_eq_none (by omega)] at q1; cases q1
    · rfl
  rw [es] at p1
  have Ab : ∀ a ∈ gg,a ∈ fr := fun a ha => by simpa using p2.mem_iff.mp ha
  refine ⟨ef G H f,gg,r.st.dg w,p1,fun a ha => ?_,fun a ha => r.n a (inr a (Ab a ha)),p2.nodup_iff.mpr (by simpa using (List.nodup_append.mp nd).2.1)⟩
  have hn : a ∉ f := fun z => (List.nodup_append.mp nd).2.2 a z a (Ab a ha) rfl
  rw [m7 hn]
  exact r.g a (inr a (Ab a ha))
section
variable {ι : Type} {F : aU ι} {cz : List Stmt} {ρ : En} {o : Out} {t : Tr}
theorem PC (j : Nat) (h : ρ[j]? = some (some t)) (hr : bI F cz (ρ.set j (some (.fz (er t)))) o) : bI F cz ρ o := by
  obtain ⟨τ,x,y⟩ := hr
  exact ⟨τ,x,fun D σ G0 H0 G H r k => by
    obtain ⟨G1,r1⟩ := r.dg h
    exact y D σ G0 H0 G1 H r1 k⟩
end
theorem Se {X : Cx} {jb : List Str} {jm : List Nat} {bW : Scope} {j4 : List (Str × Addr)} {C : Addr} {s : Shared} {H : Hp} {ex : List Addr} {pn : List (Addr × Obj)} {sc : Scope} {fr : List Nat} (N2 : List Str)
    (L : DP N2 bW sc fr) (zW : ∀ y,(y,NameKind.free) ∈ bW.names -> ∃ c,j4.lookup y = some c) (eN : (jb ++ jm.map fun j => X.N.getD j "") = N2 := by rfl) :
    gH (cD X jb jm bW j4 C s H ex pn) sc (eJ (cellsFrom (C + 1) bW.names j4) sc.names []) fr := by
  subst eN
  exact SV L zW
end L2
namespace L2
open PySem PySem.Spec PyProof.Rows
theorem xj {K : PySem.W.Frag} {G H : Hp} : ∀ {o : List Int} {xs : List V} {fq : List Addr},aB K G H (o.map fun n => .fz (di n)) xs fq -> xs = o.map V.int /\ fq = []
  | [],_,_,h => h
  | n :: o,_,_,⟨v,r,f1,f2,h1,h2,⟨h3,rj⟩,h4⟩ => by
    obtain ⟨e1,e2⟩ := xj h4
    subst h1 h2 h3 e1 e2
    rw [aO rj]
    exact ⟨rfl,rfl⟩
theorem EY {K : PySem.W.Frag} {G H : Hp} : ∀ {os : List (List Int)} {vs : List V} {fq : List Addr},aB K G H (os.map aM) vs fq -> ∃ ps : List (Addr × List Int),vs = ps.map (fun p => V.ref p.1) /\ fq = ps.map (·.1) /\ ps.map (·.2) = os /\ ∀ p ∈ ps,H p.1 = some (.lst (p.2.map V.int))
  | [],_,_,⟨h1,h2⟩ => ⟨[],h1,h2,rfl,fun _ z => nomatch z⟩
  | o :: os,_,_,⟨v,r,f1,f2,h1,h2,⟨a,xs,fa,g1,g2,g3,g4⟩,h4⟩ => by
    obtain ⟨ps,e1,e2,e3,e4⟩ := EY h4
    obtain ⟨i1,i2⟩ := xj g3
    subst h1 h2 e1 e2 g1 g4 i1 i2
    refine ⟨(a,o) :: ps,rfl,rfl,by rw [List.map_cons,e3],fun p hp => ?_⟩
    rcases List.mem_cons.mp hp with rfl | hp
    · exact g2
    · exact e4 p hp
def Md (f : List Addr) (H H2 : Hp) : Prop := ∀ b o,b ∉ f -> H b = some o -> H2 b = some o
theorem Md.refl {f : List Addr} {H : Hp} : Md f H H := fun _ _ _ h => h
theorem Md.trans {f : List Addr} {H H1 H2 : Hp} (a : Md f H H1) (b : Md f H1 H2) : Md f H H2 := fun x o n h => b x o n (a x o n h)
theorem Md.upd {f : List Addr} {H : Hp} {l : Addr} {o : HO} (hl : l ∈ f) : Md f H (L2.upd H l o) := fun b u n h => by
  rw [aP (show b ≠ l from fun z => n (z ▸ hl))]; exact h
theorem Md.same {f : List Addr} {H H' : Hp} (s : ai H H') : Md f H H' := fun b o _ h => s b o h
theorem Md.sub {f f' : List Addr} {H H' : Hp} (m : Md f H H') (s : ∀ a ∈ f,a ∈ f') : Md f' H H' := fun b o n h => m b o (fun z => n (s b z)) h
mutual
theorem Ow.agree {K : PySem.W.Frag} {G H H2 : Hp} : ∀ {t : Tr} {v : V} {fp : List Addr},Ow K G H t v fp -> (∀ a ∈ fp,H2 a = H a) -> Ow K G H2 t v fp
  | .fz _,_,_,h,_ => h
  | .ow _,_,_,⟨b,vs,fq,h1,h2,h3,h4⟩,n => by
    subst h4
    exact ⟨b,vs,fq,h1,(n b (.head _)).trans h2,aB.agree h3 fun a z => n a (.tail _ z),rfl⟩
  | .tp _,_,_,⟨b,vs,fq,h1,h2,h3,h4⟩,n => by
    subst h4
    exact ⟨b,vs,fq,h1,(n b (.head _)).trans h2,aB.agree h3 fun a z => n a (.tail _ z),rfl⟩
theorem aB.agree {K : PySem.W.Frag} {G H H2 : Hp} : ∀ {ts : List Tr} {vs : List V} {fp : List Addr},aB K G H ts vs fp -> (∀ a ∈ fp,H2 a = H a) -> aB K G H2 ts vs fp
  | [],_,_,h,_ => h
  | _ :: _,_,_,⟨v,r,f1,f2,h1,h2,h3,h4⟩,n => by
    subst h2
    exact ⟨v,r,f1,f2,h1,rfl,h3.agree fun a z => n a (List.mem_append_left _ z),aB.agree h4 fun a z => n a (List.mem_append_right _ z)⟩
end
theorem aE.agree {K : PySem.W.Frag} {G H H2 : Hp} : ∀ {ρ : En} {σ : St} {fp : List Addr},aE K G H ρ σ fp -> (∀ a ∈ fp,H2 a = H a) -> aE K G H2 ρ σ fp
  | [],_,_,h,_ => h
  | none :: _,_,_,⟨o,r,h1,h2⟩,n => ⟨o,r,h1,aE.agree h2 n⟩
  | some _ :: _,_,_,⟨v,r,f1,f2,h1,h2,h3,h4⟩,n => by
    subst h2
    exact ⟨v,r,f1,f2,h1,rfl,h3.agree fun a z => n a (List.mem_append_left _ z),aE.agree h4 fun a z => n a (List.mem_append_right _ z)⟩
theorem aE.oe {K : PySem.W.Frag} {G H : Hp} {u : Option V} : ∀ {ρ : En} {σ : St} {fp : List Addr} {y : Nat},aE K G H ρ σ fp -> ρ[y]? = some none -> aE K G H ρ (σ.set y u) fp
  | none :: _,_,_,0,⟨o,r,h1,h2⟩,_ => by subst h1; exact ⟨u,r,rfl,h2⟩
  | none :: _,_,_,y + 1,⟨o,r,h1,h2⟩,h => by subst h1; exact ⟨o,_,rfl,aE.oe (y := y) h2 h⟩
  | some _ :: _,_,_,0,_,h => by cases h
  | some _ :: _,_,_,y + 1,⟨v,r,f1,f2,h1,h2,h3,h4⟩,h => by subst h1; exact ⟨v,_,f1,f2,rfl,h2,h3,aE.oe (y := y) h4 h⟩
theorem RS.oe {K : PySem.W.Frag} {G0 H0 G H : Hp} {ρ : En} {σ : St} {y : Nat} {u : Option V} (r : RS K G0 H0 G H ρ σ) (h : ρ[y]? = some none) : RS K G0 H0 G H ρ (σ.set y u) := by
  obtain ⟨fp,r⟩ := r
  exact ⟨fp,r.st,r.own.oe h,r.g,r.n,r.d⟩
end L2
namespace L2
open PySem PySem.Spec PyProof.Rows
section
variable {κ : Type} [DecidableEq κ]
def eW (aj : List (κ × V)) (k : κ) : Option V := (aj.find? fun kv => decide (kv.1 = k)).map (·.2)
def putK (aj : List (κ × V)) (k : κ) (v : V) : List (κ × V) :=
  if (aj.any fun kv => decide (kv.1 = k)) = true then aj.map (fun kv => if kv.1 = k then (kv.1,v) else kv) else aj ++ [(k,v)]
theorem wH {p : κ × V} {r : List (κ × V)} {k : κ} (e : p.1 = k) : eW (p :: r) k = some p.2 := by simp [eW,List.find?_cons,e]
theorem wI {p : κ × V} {r : List (κ × V)} {k : κ} (e : ¬ p.1 = k) : eW (p :: r) k = eW r k := by simp [eW,List.find?_cons,e]
theorem D4 (k : κ) : ∀ aj : List (κ × V),(aj.any fun kv => decide (kv.1 = k)) = (eW aj k).isSome
  | [] => rfl
  | p :: r => by
    rw [List.any_cons]
    by_cases e : p.1 = k
    · simp only [wH e,decide_eq_true e,Bool.true_or,Option.isSome_some]
    · rw [wI e,decide_eq_false e,Bool.false_or]; exact D4 k r
theorem C3 (aj : List (κ × V)) (k : κ) (v : V) : (putK aj k v).length <= aj.length + 1 := by
  unfold putK
  split
  · rw [List.length_map]; omega
  · rw [List.length_append,List.length_cons,List.length_nil]; omega
theorem fS.Nt {o : Option V} {u : Option Value} (r : fS o u) : o.isSome = u.isSome := by
  cases o with
  | none => cases u with
    | none => rfl
    | some _ => exact (show False from r).elim
  | some _ => cases u with
    | none => exact (show False from r).elim
    | some _ => rfl
theorem fS.getD {o : Option V} {u : Option Value} {d : V} {d' : Value} (r : fS o u) (rd : RelV d d') : RelV (o.getD d) (u.getD d') := by
  cases o with
  | none => cases u with
    | none => exact rd
    | some _ => exact (show False from r).elim
  | some _ => cases u with
    | none => exact (show False from r).elim
    | some _ => exact r
theorem KV.val {aj : List (κ × V)} {vs : List (κ × Value)} (r : KV aj vs) (k : κ) : fS (eW aj k) (valueAt vs k) := by
  unfold KV at r
  induction r with
  | nil => exact True.intro
  | @cons p q ps qs h t ih =>
    obtain ⟨h1,h2⟩ := h
    by_cases e : p.1 = k
    · have e' : q.1 = k := h1.symm.trans e
      have b : valueAt (q :: qs) k = some q.2 := by simp [valueAt,List.find?_cons,e']
      rw [wH e,b]; exact h2
    · have e' : ¬ q.1 = k := fun z => e (h1.trans z)
      have b : valueAt (q :: qs) k = valueAt qs k := by simp [valueAt,List.find?_cons,e']
      rw [wI e,b]; exact ih
theorem KV.any {aj : List (κ × V)} {vs : List (κ × Value)} (r : KV aj vs) (k : κ) : (aj.any fun kv => decide (kv.1 = k)) = vs.any fun kv => decide (kv.1 = k) := by
  unfold KV at r
  induction r with
  | nil => rfl
  | cons h t ih => rw [List.any_cons,List.any_cons,ih,h.1]
theorem KV.repl {aj : List (κ × V)} {vs : List (κ × Value)} (r : KV aj vs) (k : κ) {y : V} {u : Value} (ry : RelV y u) :
    KV (aj.map fun kv => if kv.1 = k then (kv.1,y) else kv) (vs.map fun kv => if kv.1 = k then (kv.1,u) else kv) := by
  unfold KV at r ⊢
  induction r with
  | nil => exact .nil
  | @cons p q ps qs h t ih =>
    rw [List.map_cons,List.map_cons]
    refine .cons ?_ ih
    obtain ⟨h1,h2⟩ := h
    by_cases e : p.1 = k
    · rw [if_pos e,if_pos (h1.symm.trans e)]; exact ⟨h1,ry⟩
    · rw [if_neg e,if_neg (fun z => e (h1.trans z))]; exact ⟨h1,h2⟩
theorem KV.put {aj : List (κ × V)} {vs : List (κ × Value)} (r : KV aj vs) (k : κ) {y : V} {u : Value} (ry : RelV y u) : KV (putK aj k y) (stored vs k u) := by
  unfold putK stored
  rw [r.any k]
  by_cases e : (vs.any fun kv => decide (kv.1 = k)) = true
  · rw [if_pos e,if_pos e]; exact r.repl k ry
  · rw [if_neg e,if_neg e]; exact Paired.snoc r ⟨rfl,ry⟩
theorem KV.length {aj : List (κ × V)} {vs : List (κ × Value)} (r : KV aj vs) : aj.length = vs.length := Paired.length r
end
theorem tu {P : Program} {w : World} {k : Key} {u : Value} (r : RelV (kV k) u) : (e8 P w).is k u = true := by
  cases k with
  | inl i => obtain ⟨t,e⟩ := (show ∃ t,u = Value.int i t from r); subst e; exact Mh P w i t
  | inr x => obtain ⟨t,e⟩ := (show ∃ t,u = Value.str x t from r); subst e; exact Mi P w x t
theorem Dw {P : Program} {w : World} : ∀ {ks : List Key} {us : List Value},Vals (ks.map kV) us -> ItemsAre (e8 P w) ks us
  | [],_,r => by rw [List.map_nil] at r; cases r; exact .nil
  | k :: ks,_,r => by
    rw [List.map_cons] at r
    cases r with
    | cons h t => exact .cons (tu h) (Dw t)
abbrev KT (H : Hp) : List (List Key × V) -> List (List Key × Addr × Value) -> Prop := Paired fun p q => p.1 = q.1 /\ H q.2.1 = some (.tup (p.1.map kV)) /\ RelV p.2 q.2.2
theorem KT.val {H : Hp} {aj : List (List Key × V)} {xs : List (List Key × Addr × Value)} (r : KT H aj xs) (k : List Key) : fS (eW aj k) ((atKey xs k).map (·.2)) := by
  induction r with
  | nil => exact True.intro
  | @cons p q ps qs h t ih =>
    obtain ⟨h1,_,h2⟩ := h
    by_cases e : p.1 = k
    · have e' : q.1 = k := h1.symm.trans e
      have b : atKey (q :: qs) k = some q.2 := by simp [atKey,List.find?_cons,e']
      rw [wH e,b]; exact h2
    · have e' : ¬ q.1 = k := fun z => e (h1.trans z)
      have b : atKey (q :: qs) k = atKey qs k := by simp [atKey,List.find?_cons,e']
      rw [wI e,b]; exact ih
theorem KT.repl {H : Hp} {aj : List (List Key × V)} {xs : List (List Key × Addr × Value)} (r : KT H aj xs) (k : List Key) {y : V} {u : Value} (ry : RelV y u) :
    KT H (aj.map fun kv => if kv.1 = k then (kv.1,y) else kv) (xs.map (putAt k u)) := by
  induction r with
  | nil => exact .nil
  | @cons p q ps qs h t ih =>
    rw [List.map_cons,List.map_cons]
    refine .cons ?_ ih
    obtain ⟨h1,h2,h3⟩ := h
    unfold putAt
    by_cases e : p.1 = k
    · rw [if_pos e,if_pos (h1.symm.trans e)]; exact ⟨h1,h2,ry⟩
    · rw [if_neg e,if_neg (fun z => e (h1.trans z))]; exact ⟨h1,h2,h3⟩
theorem KT.put {H : Hp} {aj : List (List Key × V)} {xs : List (List Key × Addr × Value)} (r : KT H aj xs) (k : List Key) {b : Addr} {y : V} {u : Value} (hb : H b = some (.tup (k.map kV))) (ry : RelV y u) :
    KT H (putK aj k y) (storedH xs k b u) := by
  have e : (aj.any fun kv => decide (kv.1 = k)) = (atKey xs k).isSome := by
    rw [D4,(r.val k).Nt,Option.isSome_map]
  unfold putK storedH
  rw [e]
  by_cases q : (atKey xs k).isSome = true
  · rw [if_pos q,if_pos q]; exact r.repl k ry
  · rw [if_neg q,if_neg q]; exact Paired.snoc r ⟨rfl,hb,ry⟩
theorem KT.keeps {H H' : Hp} {aj : List (List Key × V)} {xs : List (List Key × Addr × Value)} (r : KT H aj xs) (ht : ∀ b ys,H b = some (.tup ys) -> H' b = some (.tup ys)) : KT H' aj xs :=
  Paired.yF r fun _ _ z => ⟨z.1,ht _ _ z.2.1,z.2.2⟩
section
variable {P : Program} {w : World} {H : Hp} {h : Heap} {a : Addr}
theorem Ho {u : HO} (ok : bV P w H h) (e : Rd H a u) : bU P w H h a u := e.ok ok
theorem qk {aj : List (Key × V)} (ok : bV P w H h) (e : Rd H a (.dK aj)) : aj.length <= sizeLine /\ (a == sysModules) = false /\ ∃ vs,KV aj vs /\ h.DictOf (e8 P w) a vs :=
  show bU P w H h a (.dK aj) from Ho ok e
theorem Sf {aj : List (Key × V)} (ok : bV P w H h) (e : H a = some (.dK aj)) : aj.length <= sizeLine /\ (a == sysModules) = false /\ ∃ vs,KV aj vs /\ h.DictOf (e8 P w) a vs := qk ok (.inl e)
theorem kH {ks : List Key} (ok : bV P w H h) (e : H a = some (.tup (ks.map kV))) : (tupleKind (e8 P w)).is h ks a := by
  obtain ⟨_,its,r,o,h1,h2,n,h3⟩ := (show bU P w H h a (.tup (ks.map kV)) from ok a _ e)
  exact ⟨o,its.toArray,n,h1,h2,h3,by simpa using Dw r⟩
theorem qm {aj : List (List Key × V)} (ok : bV P w H h) (e : Rd H a (.dT aj)) : aj.length <= sizeLine /\ (a == sysModules) = false /\
    ∃ xs,KT H aj xs /\ h.DictOfH (tupleKind (e8 P w)) a xs := by
  obtain ⟨z,y,xs,r,o,es,ep,h1,h2,h3,h4,h5⟩ := (show bU P w H h a (.dT aj) from Ho ok e)
  refine ⟨z,y,xs,r,o,es,ep,h1,h2,h3,h4,fun x hx => ?_,h5⟩
  have all : ∀ {l : List (List Key × V)} {m : List (List Key × Addr × Value)},KT H l m -> ∀ x ∈ m,(tupleKind (e8 P w)).is h x.1 x.2.1 := by
    intro l m q
    induction q with
    | nil => intro x hx; exact nomatch hx
    | @cons p q ps qs hq t ih =>
      intro x hx
      rcases List.mem_cons.mp hx with e | hx
      · subst e
        exact kH ok (by rw [<- hq.1]; exact hq.2.1)
      · exact ih x hx
  exact all r x hx
theorem Sg {aj : List (List Key × V)} (ok : bV P w H h) (e : H a = some (.dT aj)) : aj.length <= sizeLine /\ (a == sysModules) = false /\
    ∃ xs,KT H aj xs /\ h.DictOfH (tupleKind (e8 P w)) a xs := qm ok (.inl e)
end
def jc (H : Hp) (a : Addr) (y : V) (r : Option V) : Prop :=
  (∃ aj k,Rd H a (.dK aj) /\ y = kV k /\ r = eW aj k) \/ ∃ aj k b,Rd H a (.dT aj) /\ y = .ref b /\ H b = some (.tup (k.map kV)) /\ r = eW aj k
def qG (H : Hp) (a : Addr) (y v : V) (H' : Hp) : Prop :=
  (∃ aj k,H a = some (.dK aj) /\ y = kV k /\ aj.length < sizeLine /\ H' = upd H a (.dK (putK aj k v))) \/
  ∃ aj k b,H a = some (.dT aj) /\ y = .ref b /\ H b = some (.tup (k.map kV)) /\ aj.length < sizeLine /\ H' = upd H a (.dT (putK aj k v))
theorem jc.t {H : Hp} {a b : Addr} {aj : List (List Key × V)} {k : List Key} (e : H a = some (.dT aj)) (eb : H b = some (.tup (k.map kV))) : jc H a (.ref b) (eW aj k) := .inr ⟨aj,k,b,.inl e,rfl,eb,rfl⟩
theorem qG.t {H : Hp} {a b : Addr} {aj : List (List Key × V)} {k : List Key} {v : V} (e : H a = some (.dT aj)) (eb : H b = some (.tup (k.map kV))) (hl : aj.length < sizeLine) :
    qG H a (.ref b) v (upd H a (.dT (putK aj k v))) := .inr ⟨aj,k,b,e,rfl,eb,hl,rfl⟩
section
variable {X : Cx} {pins : List (Addr × Obj)} {σ : St} {H : Hp} {s : Shared} {a : Addr} {y v : V} {u r : Value} {o : Option V} {A : Around} {E : Value -> Shared -> Prop}
theorem Inv.big (I : Inv X pins σ H s) : sysModules < s.heap.objs.size := by
  have h : mainGlobals < s.heap.objs.size := (I.mod.glob.keeps I.bk).lt
  exact Nat.lt_trans (by decide) h
theorem Nu {Q : Value -> Shared -> Prop} (hu : A.units + 1 < cLine) (I : Inv X pins σ H s) (g : jc H a y (some v)) (ry : RelV y u) (h : ∀ w' s',Inv X pins σ H s' -> RelV v w' -> Q w' s') :
    wpAny (model X.prog X.w) A (getItem (.ref a) u) Q E s := by
  rcases g with ⟨aj,k,e,ey,l⟩ | ⟨aj,k,b,e,ey,eb,l⟩
  · subst ey
    obtain ⟨z,hd,vs,rel,dd⟩ := qk I.ay e
    obtain ⟨w',hw,fY⟩ := fS.some_of (v := v) (o := valueAt vs k) (by rw [l]; exact rel.val k)
    exact wpAny_getItem_of (tu ry) dd.mapOf hw (h w' _ (I.tok _) fY)
  · subst ey
    cases (show u = Value.ref b from ry)
    obtain ⟨z,hd,xs,rel,dd⟩ := qm I.ay e
    obtain ⟨w',hw,fY⟩ := fS.some_of (v := v) (o := (atKey xs k).map (·.2)) (by rw [l]; exact rel.val k)
    obtain ⟨p,hp,Ac⟩ := Option.map_eq_some_iff.mp hw
    refine wpAny_getItem_heap (tupleKind_room_in1 hu) (kH I.ay eb) dd hp ?_
    rw [Ac]
    exact h w' _ (I.tok _) fY
theorem EZ {h' : Heap} {t' : Nat} {ob : HO} (I : Inv X pins σ H s) (mu : qM (H a)) (hs : Heap.SameBut a s.heap h') (he : ∃ q,h'.get? a = some q) (new : bU X.prog X.w (upd H a ob) h' a ob) :
    Inv X pins σ (upd H a ob) { s with heap := h',toks := t' } :=
  I.write (x := a) (e := a) mu (.inl rfl) (fun b q hb z => (hs.2 b hb).trans z) he new
theorem Rq {P : Program} {w : World} {H' : Hp} {h' : Heap} {aj : List (Key × V)} {vs : List (Key × Value)} (z : aj.length <= sizeLine) (hd : (a == sysModules) = false) (rel : KV aj vs) (dd : h'.DictOf (e8 P w) a vs) :
    bU P w H' h' a (.dK aj) := ⟨z,hd,vs,rel,dd⟩
theorem Nv {H' : Hp} {Q : Unit -> Shared -> Prop} (hu : A.units + 1 < cLine) (I : Inv X pins σ H s) (g : qG H a y v H') (ry : RelV y u) (rv : RelV v r) (h : ∀ s',Inv X pins σ H' s' -> Q () s') :
    wpAny (model X.prog X.w) A (setItem (.ref a) u r) Q E s := by
  rcases g with ⟨aj,k,e,ey,l,eH⟩ | ⟨aj,k,b,e,ey,eb,l,eH⟩
  · subst ey eH
    obtain ⟨z,hd,vs,rel,dd⟩ := Sf I.ay e
    have hz : vs.length <= sizeLine := by rw [<- rel.length]; exact z
    have hl : (putK aj k v).length <= sizeLine := by have := C3 aj k v; omega
    refine wpAny_setItem_pairs (hsz := hz) (tu ry) dd fun h' uo hs => h _ ?_
    have he : ∃ q,h'.get? a = some q := let ⟨q,_,_,hq,_⟩ := uo; ⟨q,hq⟩
    exact EZ I (by rw [e]; exact True.intro) hs he (Rq hl hd (rel.put k rv) uo)
  · subst ey eH
    cases (show u = Value.ref b from ry)
    obtain ⟨z,hd,xs,rel,dd⟩ := Sg I.ay e
    have hz : xs.length <= sizeLine := by rw [<- Paired.length rel]; exact z
    have hl : (putK aj k v).length <= sizeLine := by have := C3 aj k v; omega
    refine wpAny_setItem_heap (hsz := hz) (tupleKind_room_in1 hu) (kH I.ay eb) dd fun h' uo hs => h _ ?_
    obtain ⟨q,es,ep,hq,h2,h3,h4,_,h5⟩ := uo
    refine EZ I (by rw [e]; exact True.intro) hs ⟨q,hq⟩ ⟨hl,hd,_,(rel.put k eb rv).keeps fun c ys ec => ?_,q,es,ep,hq,h2,h3,h4,h5⟩
    rw [aP (RW ec e (fun z => nomatch z))]
    exact ec
end
def Ie (i : Expr) : Prop := ∀ ov iv,subscripted i false ov iv = operate [ov,iv] (getItem ov iv)
theorem PD {prog : Program} {w : World} {A : Around} {E : Value -> Shared -> Prop} {s : Shared} {env : Env} {value slice : Expr} {pos : Pos} {T id : String} {Q : Value -> Shared -> Prop}
    (hl : typeLookup (.type T) "__getitem__" = pure (some (.builtin id))) (hs : Ie slice)
    (h : wpAny (model prog w) A (eval value env) (fun o bf => wpAny (model prog w) A (eval slice env) (fun i kS => kS.TypeIs o T /\ wpAny (model prog w) A (getItem o i) Q E kS) E bf) E s) :
    wpAny (model prog w) A (eval (.Subscript value slice pos) env) Q E s := by
  refine Subscript_ (wpAny_mono h (fun o bf S4 => wpAny_mono S4 (fun i kS y8 => ?_) fun _ _ x => x) fun _ _ x => x)
  obtain ⟨hT,y8⟩ := y8
  unfold subscriptTail
  refine wpAny_bind ?_
  rw [getitemInPython_of_ne hT.not_modules]
  refine wpAny_bind (wpAny_specialOf hT hl ?_)
  have fin : wpAny (model prog w) A (subscripted slice false o i) (fun r Ig => wpAny (model prog w) A (letTemporaryGo value o r >>= fun _ => pure r) Q E Ig) E kS := by
    rw [hs o i]
    exact wpAny_operating (wpAny_mono y8 (fun r Ig S5 => wpAny_bind (wpAny_letTemporaryGo (wpAny_pure S5))) fun _ _ x => x)
  first
    | exact wpAny_pure (wpAny_bind fin)
    | exact wpAny_bind (wpAny_pure (wpAny_bind fin))
    | exact wpAny_bind fin
theorem Mm {X : Cx} {pins : List (Addr × Obj)} {σ : St} {H : Hp} {s : Shared} {a : Addr} {y : V} {o : Option V} (I : Inv X pins σ H s) (g : jc H a y o) : s.TypeIs (.ref a) "dict" := by
  rcases g with ⟨aj,k,e,_,_⟩ | ⟨aj,k,b,e,_,_,_⟩
  · obtain ⟨_,_,vs,_,dd⟩ := qk I.ay e
    exact dd.typeIs
  · obtain ⟨_,_,xs,_,dd⟩ := qm I.ay e
    exact dd.typeIs
def ye (td ty : TE) : TE := fun σ H Q => td σ H fun x H1 => ty σ H1 fun y H2 => ∃ a v,x = .ref a /\ jc H2 a y (some v) /\ Q v H2
def yf (td ty tv : TE) : TS := fun D σ H => tv σ H fun v H1 => td σ H1 fun x H2 => ty σ H2 fun y H3 => ∃ a H4,x = .ref a /\ qG H3 a y v H4 /\ D.nx σ H4
section
variable {X : Cx} {o i e value : Expr} {pos pos' aaj : Pos} {td ty tv : TE}
theorem PF (hu : X.A.units + 1 < cLine) (ho : PE X o td) (hi : PE X i ty) (hs : Ie i) : PE X (.Subscript o i pos) (ye td ty) := by
  intro pins s σ H Q I h
  refine PD PySem.F.slot_dict_getitem.lookup hs (ax (ho pins s σ H _ I h) fun u s1 ⟨x,H1,I1,rx,q1⟩ => ax (hi pins s1 σ H1 _ I1 q1) fun iv s2 ⟨y,H2,I2,ry,a,v,ex,g,q2⟩ => ?_)
  subst ex
  obtain rfl : u = Value.ref a := rx
  exact ⟨Mm I2 g,Nu hu I2 g ry fun w' s3 I3 fY => ⟨v,H2,I3,fY,q2⟩⟩
theorem PH (hu : X.A.units + 1 < cLine) (ho : PE X o td) (hi : PE X i ty) (hv : PE X value tv) (hs : swapsWith value (some (.Subscript o i pos')) pos.line X.env = pure false) :
    PS X (.Assign [.Subscript o i pos'] value pos) (yf td ty tv) := by
  intro pins s σ H D I h
  refine wpAny_Assign_Subscript (ax (hv pins s σ H _ I h) fun r s1 ⟨v,H1,I1,rv,q1⟩ => ax (ho pins s1 σ H1 _ I1 q1) fun u s2 ⟨x,H2,I2,rx,q2⟩ => ax (hi pins s2 σ H2 _ I2 q2) fun iv s3 ⟨y,H3,I3,ry,a,H4,ex,g,q3⟩ => ?_) hs
  subst ex
  obtain rfl : u = Value.ref a := rx
  exact Nv hu I3 g ry rv fun s4 I4 => ⟨σ,H4,I4,q3⟩
end
theorem Ot {P : Program} {w : World} {H : Hp} (h : Heap) (hb : sysModules < h.objs.size) : bU P w H (h.push { cls := .type "dict",data := .dict #[] }) h.objs.size (.dT []) :=
  ⟨Nat.zero_le _,beq_eq_false_iff_ne.mpr (Ne.symm (Nat.ne_of_lt hb)),[],.nil,_,#[],0,Heap.get?_push_size _ rfl,⟨rfl,rfl,rfl⟩,rfl,rfl,List.nodup_nil⟩
def Rr : TE := fun _ H Q => ∀ p,H p = none -> Q (.ref p) (upd H p (.dT []))
section
variable {X : Cx} {pos : Pos}
theorem Ou : PE X (.Dict [] [] pos) Rr := fun pins s σ H Q I h =>
  wpAny_Dict_empty ⟨.ref s.heap.objs.size,_,I.laid (a := s.heap.objs.size) (o := .dT []) (t' := s.toks) (fun _ _ q => Heap.get?_push_of_some _ q) (Nat.le_refl _) (Ot s.heap I.big),rfl,h _ (I.ay.fresh (Nat.le_refl _))⟩
end
structure M2 (X : Cx) (o : Expr) (m : Str) (apos : Pos) (e f : Expr) (fe : Pos) : Prop where
  base : attributeBase o m X.env (eval o X.env) = eval o X.env
  few : ((backTo fe (starEach [e,f] X.env)).all (fun x => !x.1) && (backToKw fe (keywordEach [] X.env)).all (fun x => x.1.isSome)
    && decide (([e,f] : List Expr).length + ([] : List Keyword).length + (if ([] : List Keyword).isEmpty then 0 else 1) < 30)) = true
  line : (apos.endLine == fe.line) = true
  trees : backTo fe (starEach [e,f] X.env) = [(false,eval e X.env),(false,eval f X.env)]
def JO (H : Hp) (a : Addr) : Prop := (∃ aj,Rd H a (.dK aj)) \/ ∃ aj,Rd H a (.dT aj)
theorem Rt {X : Cx} {pins : List (Addr × Obj)} {σ : St} {H : Hp} {s : Shared} {a : Addr} (I : Inv X pins σ H s) (d : JO H a) :
    s.TypeIs (.ref a) "dict" /\ (∀ b,Value.ref a = .ref b -> ∃ ob,s.heap.get? b = some ob /\ ob.dict = none) /\ (a == sysModules) = false := by
  rcases d with ⟨aj,e⟩ | ⟨aj,e⟩
  · obtain ⟨_,hd,vs,_,dd⟩ := qk I.ay e
    refine ⟨dd.typeIs,fun b q => ?_,hd⟩
    cases q
    obtain ⟨ob,_,_,h1,h2,_⟩ := dd
    exact ⟨ob,h1,h2.2.1⟩
  · obtain ⟨_,hd,xs,_,dd⟩ := qm I.ay e
    refine ⟨dd.typeIs,fun b q => ?_,hd⟩
    cases q
    obtain ⟨ob,_,_,h1,h2,_⟩ := dd
    exact ⟨ob,h1,h2.2.1⟩
section
variable {X : Cx} {pins : List (Addr × Obj)} {σ : St} {H : Hp} {s : Shared} {a : Addr} {y d : V} {u r : Value} {o : Option V} {A : Around} {E : Value -> Shared -> Prop}
theorem Ru {Q : Value -> Shared -> Prop} (hu : A.units + 1 < cLine) (I : Inv X pins σ H s) (g : jc H a y o) (ry : RelV y u) (rd : RelV d r) (h : ∀ w' s',Inv X pins σ H s' -> RelV (o.getD d) w' -> Q w' s') :
    wpAny (model X.prog X.w) A (call (.builtin "dict.get") [.ref a,u,r]) Q E s := by
  rcases g with ⟨aj,k,e,ey,l⟩ | ⟨aj,k,b,e,ey,eb,l⟩
  · subst ey
    obtain ⟨z,hd,vs,rel,dd⟩ := qk I.ay e
    refine call_meetsIn PySem.F.slot_dict_get dd.typeIs PySem.F.entry_dict_get (PySem.F.args_dict_get_3 _ _ _) (meets_dict_get_default (e8 X.prog X.w) a (tu ry) hd r) ⟨_,dd.mapOf,h _ _ (I.tok _) ?_⟩
    rw [l]
    exact (rel.val k).getD rd
  · subst ey
    cases (show u = Value.ref b from ry)
    obtain ⟨z,hd,xs,rel,dd⟩ := qm I.ay e
    refine call_meetsIn PySem.F.slot_dict_get dd.typeIs PySem.F.entry_dict_get (PySem.F.args_dict_get_3 _ _ _) (meetsH_dict_get_default (tupleKind (e8 X.prog X.w)) a b hd r) ⟨tupleKind_room_in1 hu,k,xs,kH I.ay eb,dd,h _ _ (I.tok _) ?_⟩
    rw [l]
    exact (rel.val k).getD rd
end
def xO (td ty tx : TE) : TE := fun σ H Q => td σ H fun x H1 => ∃ a,x = .ref a /\ JO H1 a /\ ty σ H1 fun y H2 => tx σ H2 fun z H3 => ∃ o,jc H3 a y o /\ Q (o.getD z) H3
section
variable {X : Cx} {o e f : Expr} {apos fe : Pos} {td ty tx : TE}
theorem Ov (hu : X.A.units + 1 < cLine) (ho : PE X o td) (he : PE X e ty) (hf : PE X f tx) (m : M2 X o "get" apos e f fe) : PE X (.Call (.Attribute o "get" apos) [e,f] [] fe) (xO td ty tx) := by
  intro pins s σ H Q I h
  refine wpAny_Call_method m.base m.few m.line PySem.F.plainAttrs_dict PySem.F.slot_dict_get PySem.F.type_dict_get (ax (ho pins s σ H _ I h) fun u s1 ⟨x,H1,I1,rx,a,ex,d,q1⟩ => ?_)
  subst ex
  obtain rfl : u = Value.ref a := rx
  obtain ⟨t1,t2,_⟩ := Rt I1 d
  refine ⟨t1,t2,?_⟩
  rw [m.trees]
  refine Calls.callWith_builtin rfl (Calls.evalArgs_plain (Calls.spliced_cons (ax (he pins s1 σ H1 _ I1 q1) fun iv s2 ⟨y,H2,I2,ry,q2⟩ =>
    Calls.spliced_cons (ax (hf pins s2 σ H2 _ I2 q2) fun fv s3 ⟨z,H3,I3,rz,ov,g,q3⟩ => Calls.spliced_nil ?_))))
  exact Ru hu I3 g ry rz fun w' s4 I4 fY => ⟨_,H3,I4,fY,q3⟩
end
end L2
namespace L2
open PySem PySem.Spec PyProof.Rows
section
variable {ι : Type} {F : aU ι} {e a b c : Expr} {ρ : En} {t ta bZ : Tr} {pos : Pos}
theorem FO {u v : V} (ha : Ev F a ρ (.fz (.fl u))) (hb : Ev F b ρ (.fz (.fl v))) (hs : yO u v = true) : Et F (.Compare a [.Eq] [b] pos) ρ (decide (u = v)) :=
  iW (fun _ => x5) ha hb (fun G H x y Q s hx hy k => by rw [aO hx,aO hy]; exact ⟨hs,k⟩) (fO _)
end
end L2
namespace L2
open PySem PySem.Spec PyProof.Rows
theorem fm.to {ι : Type} {F : aU ι} {e : Expr} {ρ : En} {p q : Bool} (h : fm F e ρ p) (z : p = q) : fm F e ρ q := z ▸ h
end L2
namespace L2
open PySem PySem.Spec PyProof.Rows
theorem PJ (a b : Int) : cX (.int a) (.int b) = decide (a = b) := by
  show (a == b) = _
  by_cases h : a = b
  · rw [decide_eq_true h]; simpa using h
  · rw [decide_eq_false h]; simpa using h
theorem xk : ∀ a b : List Int,bR (dis a) (dis b) = decide (a = b)
  | [],[] => rfl
  | [],_ :: _ => rfl
  | _ :: _,[] => rfl
  | x :: a,y :: b => by
    have ih : d9 (a.map di) (b.map di) = decide (a = b) := xk a b
    show (cX (.int x) (.int y) && d9 (a.map di) (b.map di)) = _
    rw [ih,PJ]
    by_cases h : x = y <;> by_cases h2 : a = b <;> simp [h,h2]
end L2
namespace So
open PySem PyProof.Rows
abbrev GC := Option (Option Nat) × Nat × Nat
abbrev SM := StateT SortSt Sem
def y9 : Bool -> Keyed -> Array Keyed -> Nat -> Nat -> Nat -> SM (Option Nat) := sortPriv% PySem.Builtin.gallop
def X1 : Array Keyed -> Array Keyed -> SM (Array Keyed) := sortPriv% PySem.Builtin.mergeLo
def X2 : Array Keyed -> Array Keyed -> SM (Array Keyed) := sortPriv% PySem.Builtin.mergeHi
def qH (left : Bool) (key : Keyed) (arr : Array Keyed) (base i : Nat) : SM (Option Bool) := do
  let x <- elem' arr (base + i)
  if left = true then lt' x key else do
    let r <- lt' key x
    pure (r.map fun b => !b)
section
variable {prog : Program} {w : World} {A : Around} {E : Value -> Shared -> Prop} {s : Shared}
theorem E1 {left : Bool} {key : Keyed} {arr : Array Keyed} {base n hint : Nat} {st : SortSt} {Q : Option Nat -> SortSt -> Prop} (p : Nat -> Bool)
    (rE : ∀ (i : Nat) (Q : Option Bool -> SortSt -> Prop),i < n -> Q (some (p i)) st -> wpS (model prog w) A E s (qH left key arr base i) Q st)
    (mono : ∀ i j,i <= j -> j < n -> p j = true -> p i = true) (hh : hint < n)
    (h : ∀ k,k <= n -> (∀ i,i < k -> p i = true) -> (∀ i,k <= i -> i < n -> p i = false) -> Q (some k) st) :
    wpS (model prog w) A E s (y9 left key arr base n hint) Q st := by
  have yg : ∀ i j,i <= j -> j < n -> p i = false -> p j = false := fun i j h1 h2 h3 => by
    cases e : p j with
    | false => rfl
    | true => rw [mono i j h1 h2 e] at h3; cases h3
  refine wpS_bind (rE hint _ hh ?_)
  dsimp only
  have bin : ∀ lo hi,lo <= hi -> hi <= n -> (∀ i,i < lo -> p i = true) -> (∀ i,hi <= i -> i < n -> p i = false) ->
      ∀ f : Nat -> GC -> SM (ForInStep GC),(∀ (x lo hi : Nat) (Q : ForInStep GC -> SortSt -> Prop),hi <= n ->
        (hi <= lo -> Q (.done (none,lo,hi)) st) -> (lo < hi -> p (lo + (hi - lo) / 2) = true -> Q (.yield (none,lo + (hi - lo) / 2 + 1,hi)) st) -> (lo < hi -> p (lo + (hi - lo) / 2) = false -> Q (.yield (none,lo,lo + (hi - lo) / 2)) st) ->
        wpS (model prog w) A E s (f x (none,lo,hi)) Q st) ->
      wpS (model prog w) A E s (forIn [0:n] ((none,lo,hi) : GC) f) (fun c af => af = st /\ ∃ lo,c = (none,lo,lo) /\ lo <= n /\ (∀ i,i < lo -> p i = true) /\ (∀ i,lo <= i -> i < n -> p i = false)) st := by
    intro lo hi h1 h2 h3 h4 f hf
    refine wpS_forRange (I := fun x c af => af = st /\ ∃ lo hi,c = (none,lo,hi) /\ lo <= hi /\ hi <= n /\ hi - lo <= n - x /\ (∀ i,i < lo -> p i = true) /\ (∀ i,hi <= i -> i < n -> p i = false)) ?_ ?_ ⟨rfl,lo,hi,rfl,h1,h2,by omega,h3,h4⟩
    · rintro x c af _ hx ⟨rfl,lo,hi,rfl,a1,a2,a3,a4,a5⟩
      refine hf x lo hi _ a2 (fun z => ?_) (fun z e => ?_) (fun z e => ?_)
      · have : lo = hi := by omega
        subst this
        exact ⟨rfl,lo,rfl,a2,a4,a5⟩
      · exact ⟨rfl,_,_,rfl,by omega,a2,by omega,fun i uq => mono i (lo + (hi - lo) / 2) (by omega) (by omega) e,a5⟩
      · exact ⟨rfl,_,_,rfl,by omega,by omega,by omega,a4,fun i b1 b2 => yg (lo + (hi - lo) / 2) i b1 b2 e⟩
    · rintro c af ⟨rfl,lo,hi,rfl,a1,a2,a3,a4,a5⟩
      have : lo = hi := by omega
      subst this
      exact ⟨rfl,lo,rfl,a2,a4,a5⟩
  cases hp : p hint with
  | true =>
    simp only [if_true]
    refine wpS_bind (wpS_mono (wpS_forRange (I := fun x c af => af = st /\ ∃ l o,c = (none,l,o) /\ o = 2 * l + 1 /\ x <= l /\ hint + l < n /\ p (hint + l) = true)
      (Q := fun c af => af = st /\ ∃ l o,c = (none,l,o) /\ l < o /\ hint + l < n /\ p (hint + l) = true /\ (n - hint <= o \/ p (hint + o) = false)) ?_ ?_ ⟨rfl,0,1,rfl,rfl,Nat.le_refl _,hh,hp⟩) ?_)
    · rintro x c af _ hx ⟨rfl,l,o,rfl,a1,a2,a3,a4⟩
      dsimp only
      by_cases eQ : o >= n - hint
      · rw [if_pos eQ]
        exact wpS_pure ⟨rfl,l,o,rfl,by omega,a3,a4,.inl eQ⟩
      · rw [if_neg eQ]
        refine wpS_bind (rE (hint + o) _ (by omega) ?_)
        dsimp only
        cases e : p (hint + o) with
        | true =>
          simp only [Bool.not_true,Bool.false_eq_true,if_false]
          exact wpS_pure ⟨rfl,o,2 * o + 1,rfl,rfl,by omega,by omega,e⟩
        | false =>
          simp only [Bool.not_false,if_true]
          exact wpS_pure ⟨rfl,l,o,rfl,by omega,a3,a4,.inr e⟩
    · rintro c af ⟨rfl,l,o,rfl,a1,a2,a3,a4⟩
      exact ⟨rfl,l,o,rfl,by omega,a3,a4,.inl (by omega)⟩
    · rintro c af ⟨rfl,l,o,rfl,a1,a2,a3,a4⟩
      dsimp only
      refine wpS_bind (wpS_mono (bin (hint + l + 1) (hint + min o (n - hint)) (by omega) (by omega) (fun i hi => mono i (hint + l) (by omega) (by omega) a3) (fun i b1 b2 => ?_) _ (fun x lo hi Q hn k1 k2 k3 => ?_)) ?_)
      · rcases a4 with z | z
        · omega
        · by_cases ho : hint + o <= i
          · exact yg (hint + o) i ho b2 z
          · omega
      · dsimp only
        by_cases eQ : lo >= hi
        · rw [if_pos eQ]; exact wpS_pure (k1 eQ)
        · rw [if_neg eQ]
          refine wpS_bind (rE _ _ (by omega) ?_)
          dsimp only
          cases e : p (lo + (hi - lo) / 2) with
          | true => simp only [if_true]; exact wpS_pure (k2 (by omega) e)
          | false => simp only [Bool.false_eq_true,if_false]; exact wpS_pure (k3 (by omega) e)
      · rintro c af ⟨rfl,lo,rfl,b1,b2,b3⟩
        exact wpS_pure (h lo b1 b2 b3)
  | false =>
    simp only [Bool.false_eq_true,if_false]
    refine wpS_bind (wpS_mono (wpS_forRange (I := fun x c af => af = st /\ ∃ l o,c = (none,l,o) /\ o = 2 * l + 1 /\ x <= l /\ l <= hint /\ p (hint - l) = false)
      (Q := fun c af => af = st /\ ∃ l o,c = (none,l,o) /\ l < o /\ l <= hint /\ p (hint - l) = false /\ (hint + 1 <= o \/ (o <= hint /\ p (hint - o) = true))) ?_ ?_ ⟨rfl,0,1,rfl,rfl,Nat.le_refl _,Nat.zero_le _,hp⟩) ?_)
    · rintro x c af _ hx ⟨rfl,l,o,rfl,a1,a2,a3,a4⟩
      dsimp only
      by_cases eQ : o >= hint + 1
      · rw [if_pos eQ]
        exact wpS_pure ⟨rfl,l,o,rfl,by omega,a3,a4,.inl eQ⟩
      · rw [if_neg eQ]
        refine wpS_bind (rE (hint - o) _ (by omega) ?_)
        dsimp only
        cases e : p (hint - o) with
        | true =>
          simp only [if_true]
          exact wpS_pure ⟨rfl,l,o,rfl,by omega,a3,a4,.inr ⟨by omega,e⟩⟩
        | false =>
          simp only [Bool.false_eq_true,if_false]
          exact wpS_pure ⟨rfl,o,2 * o + 1,rfl,rfl,by omega,by omega,e⟩
    · rintro c af ⟨rfl,l,o,rfl,a1,a2,a3,a4⟩
      exact ⟨rfl,l,o,rfl,by omega,a3,a4,.inl (by omega)⟩
    · rintro c af ⟨rfl,l,o,rfl,a1,a2,a3,a4⟩
      dsimp only
      refine wpS_bind (wpS_mono (bin (hint + 1 - min o (hint + 1)) (hint - l) (by omega) (by omega) (fun i hi => ?_) (fun i b1 b2 => yg (hint - l) i b1 b2 a3) _ (fun x lo hi Q hn k1 k2 k3 => ?_)) ?_)
      · rcases a4 with z | z
        · omega
        · exact mono i (hint - o) (by omega) (by omega) z.2
      · dsimp only
        by_cases eQ : lo >= hi
        · rw [if_pos eQ]; exact wpS_pure (k1 eQ)
        · rw [if_neg eQ]
          refine wpS_bind (rE _ _ (by omega) ?_)
          dsimp only
          cases e : p (lo + (hi - lo) / 2) with
          | true => simp only [if_true]; exact wpS_pure (k2 (by omega) e)
          | false => simp only [Bool.false_eq_true,if_false]; exact wpS_pure (k3 (by omega) e)
      · rintro c af ⟨rfl,lo,rfl,b1,b2,b3⟩
        exact wpS_pure (h lo b1 b2 b3)
end
end So
namespace So
open PySem PyProof.Rows
section
variable {κ : KeyKind}
def kf (κ : KeyKind) (x : Keyed) : κ.α := (κ.keyOf x.1).getD κ.dflt
def dm (κ : KeyKind) (l : List Keyed) : Prop := l.Pairwise fun x y => κ.kle (kf κ x) (kf κ y)
def Kd (κ : KeyKind) (l : List Keyed) : Prop := ∀ x ∈ l,(κ.keyOf x.1).isSome = true
structure MI (κ : KeyKind) (a b out : List Keyed) (ia ib : Nat) : Prop where
  p : (out ++ (a.drop ia ++ b.drop ib)).Perm (a ++ b)
  x : dm κ (out ++ a.drop ia)
  y : dm κ (out ++ b.drop ib)
def Gd (κ : KeyKind) (a b m : List Keyed) : Prop := m.Perm (a ++ b) /\ dm κ m
variable {a b out : List Keyed} {ia ib : Nat}
theorem cA {l r : List Keyed} : dm κ (l ++ r) ↔ dm κ l /\ dm κ r /\ ∀ x ∈ l,∀ y ∈ r,κ.kle (kf κ x) (kf κ y) := List.pairwise_append
theorem MI.tD (h : MI κ a b out ia ib) (hb : b.length <= ib) : Gd κ a b (out ++ a.drop ia ++ b.drop ib) := by
  have e : b.drop ib = [] := List.drop_eq_nil_of_le hb
  have p := h.p
  rw [e,List.append_nil] at p ⊢
  exact ⟨p,h.x⟩
theorem MI.Sh (h : MI κ a b out ia ib) (ha : a.length <= ia) : Gd κ a b (out ++ a.drop ia ++ b.drop ib) := by
  have e : a.drop ia = [] := List.drop_eq_nil_of_le ha
  have p := h.p
  rw [e,List.nil_append] at p
  rw [e,List.append_nil]
  exact ⟨p,h.y⟩
theorem MI.Si (h : MI κ a b out ia ib) (hl : ∀ x ∈ b.drop ib,∀ y ∈ a.drop ia,κ.kle (kf κ x) (kf κ y)) : Gd κ a b (out ++ b.drop ib ++ a.drop ia) := by
  refine ⟨?_,?_⟩
  · refine List.Perm.trans ?_ h.p
    rw [List.append_assoc]
    exact List.Perm.append_left _ List.perm_append_comm
  · have hx := cA.mp h.x
    refine cA.mpr ⟨h.y,hx.2.1,fun x eh y hy => ?_⟩
    rcases List.mem_append.mp eh with z | z
    · exact hx.2.2 x z y hy
    · exact hl x z y hy
theorem MI.qo (h : MI κ a b out ia ib) (k : Nat) (hl : ∀ x ∈ (a.drop ia).take k,∀ y ∈ b.drop ib,κ.kle (kf κ x) (kf κ y)) : MI κ a b (out ++ (a.drop ia).take k) (ia + k) ib := by
  have e : (a.drop ia).take k ++ a.drop (ia + k) = a.drop ia := by rw [<- List.drop_drop]; exact List.take_append_drop k _
  have hy := cA.mp h.y
  have hx := cA.mp h.x
  refine ⟨?_,?_,?_⟩
  · have := h.p
    rw [<- e] at this
    rw [List.append_assoc]
    rw [List.append_assoc] at this
    exact this
  · rw [List.append_assoc,e]; exact h.x
  · rw [cA,cA]
    have hs : dm κ ((a.drop ia).take k) := List.Pairwise.sublist (List.take_sublist k _) hx.2.1
    refine ⟨⟨hy.1,hs,fun x eh y cF => hx.2.2 x eh y (List.mem_of_mem_take cF)⟩,hy.2.1,fun x eh y cF => ?_⟩
    rcases List.mem_append.mp eh with z | z
    · exact hy.2.2 x z y cF
    · exact hl x z y cF
theorem MI.qu (h : MI κ a b out ia ib) (k : Nat) (hl : ∀ x ∈ (b.drop ib).take k,∀ y ∈ a.drop ia,κ.kle (kf κ x) (kf κ y)) : MI κ a b (out ++ (b.drop ib).take k) ia (ib + k) := by
  have e : (b.drop ib).take k ++ b.drop (ib + k) = b.drop ib := by rw [<- List.drop_drop]; exact List.take_append_drop k _
  have hy := cA.mp h.y
  have hx := cA.mp h.x
  refine ⟨?_,?_,?_⟩
  · refine List.Perm.trans ?_ h.p
    generalize (b.drop ib).take k = B1 at e
    generalize b.drop (ib + k) = B2 at e
    rw [<- e]
    generalize a.drop ia = A1
    rw [List.append_assoc]
    refine List.Perm.append_left _ ?_
    rw [<- List.append_assoc,<- List.append_assoc]
    exact List.Perm.append_right _ List.perm_append_comm
  · rw [cA,cA]
    have hs : dm κ ((b.drop ib).take k) := List.Pairwise.sublist (List.take_sublist k _) hy.2.1
    refine ⟨⟨hx.1,hs,fun x eh y cF => hy.2.2 x eh y (List.mem_of_mem_take cF)⟩,hx.2.1,fun x eh y cF => ?_⟩
    rcases List.mem_append.mp eh with z | z
    · exact hx.2.2 x z y cF
    · exact hl x z y cF
  · rw [List.append_assoc,e]; exact h.y
theorem nk {l : List Keyed} {i : Nat} {x : Keyed} (h : l[i]? = some x) : l.drop i = x :: l.drop (i + 1) := by
  obtain ⟨h1,rfl⟩ := List.getElem?_eq_some_iff.mp h
  exact List.drop_eq_getElem_cons h1
theorem ko {l : List Keyed} {i : Nat} {x : Keyed} (h : dm κ (l.drop i)) (e : l[i]? = some x) : ∀ y ∈ l.drop i,κ.kle (kf κ x) (kf κ y) := fun y hy => by
  rw [nk e] at h hy
  rcases List.mem_cons.mp hy with rfl | z
  · exact KeyOrd.kle_refl _
  · exact (List.pairwise_cons.mp h).1 y z
theorem MI.nS {y : Keyed} (h : MI κ a b out ia ib) (e : a[ia]? = some y) (hl : ∀ z ∈ b.drop ib,κ.kle (kf κ y) (kf κ z)) : MI κ a b (out ++ [y]) (ia + 1) ib := by
  have := h.qo 1 (by rw [nk e]; intro x hx z hz; rw [List.take_succ_cons,List.take_zero,List.mem_singleton] at hx; rw [hx]; exact hl z hz)
  rw [nk e] at this
  exact this
theorem MI.nT {y : Keyed} (h : MI κ a b out ia ib) (e : b[ib]? = some y) (hl : ∀ z ∈ a.drop ia,κ.kle (kf κ y) (kf κ z)) : MI κ a b (out ++ [y]) ia (ib + 1) := by
  have := h.qu 1 (by rw [nk e]; intro x hx z hz; rw [List.take_succ_cons,List.take_zero,List.mem_singleton] at hx; rw [hx]; exact hl z hz)
  rw [nk e] at this
  exact this
end
abbrev de (st : SortSt) (g : Nat) : SortSt := SortSt.mk' (kindOf st) (arrOf st) (pendingOf st) g (failedOf st)
theorem nq {α : Type} (a : Array α) (i : Nat) : (a.extract i a.size).toList = a.toList.drop i := by
  rw [Array.toList_extract,List.extract_eq_take_drop,List.take_of_length_le (by rw [List.length_drop,Array.length_toList]; omega)]
theorem E2 {α : Type} (a : Array α) (i k : Nat) : (a.extract i (i + k)).toList = (a.toList.drop i).take k := by simp [List.extract_eq_take_drop]
structure gh (prog : Program) (w : World) (A : Around) (E : Value -> Shared -> Prop) (s : Shared) (kd : SortKind) (κ : KeyKind) : Prop where
  lt : ∀ (st : SortSt) (x y : Keyed) (Q : Option Bool -> SortSt -> Prop),kindOf st = kd -> (κ.keyOf x.1).isSome = true -> (κ.keyOf y.1).isSome = true -> Q (some (κ.blt (kf κ x) (kf κ y))) st -> wpS (model prog w) A E s (lt' x y) Q st
section
variable {prog : Program} {w : World} {A : Around} {E : Value -> Shared -> Prop} {s : Shared} {kd : SortKind} {κ : KeyKind}
theorem cH {arr : Array Keyed} {i : Nat} {x : Keyed} {st : SortSt} {Q : Keyed -> SortSt -> Prop} (e : arr[i]? = some x) (h : Q x st) : wpS (model prog w) A E s (elem' arr i) Q st := by
  rw [elem'_eq,e]; exact wpS_pure h
theorem X3 (C : gh prog w A E s kd κ) {key x : Keyed} {arr : Array Keyed} {base i : Nat} {st : SortSt} {Q : Option Bool -> SortSt -> Prop} (hk : kindOf st = kd) (e : arr[base + i]? = some x) (k1 : (κ.keyOf key.1).isSome = true) (k2 : (κ.keyOf x.1).isSome = true) (h : Q (some (κ.blt (kf κ x) (kf κ key))) st) :
    wpS (model prog w) A E s (qH true key arr base i) Q st := by
  unfold qH
  refine wpS_bind (cH e ?_)
  rw [if_pos rfl]
  exact C.lt st x key _ hk k2 k1 h
theorem X4 (C : gh prog w A E s kd κ) {key x : Keyed} {arr : Array Keyed} {base i : Nat} {st : SortSt} {Q : Option Bool -> SortSt -> Prop} (hk : kindOf st = kd) (e : arr[base + i]? = some x) (k1 : (κ.keyOf key.1).isSome = true) (k2 : (κ.keyOf x.1).isSome = true) (h : Q (some (!κ.blt (kf κ key) (kf κ x))) st) :
    wpS (model prog w) A E s (qH false key arr base i) Q st := by
  unfold qH
  refine wpS_bind (cH e ?_)
  rw [if_neg (by decide)]
  exact wpS_bind (C.lt st key x _ hk k1 k2 (wpS_pure h))
def kA (κ : KeyKind) (arr : Array Keyed) (i : Nat) : κ.α := match arr[i]? with | some x => kf κ x | none => κ.dflt
theorem bx {arr : Array Keyed} {i : Nat} {x : Keyed} (e : arr[i]? = some x) : kA κ arr i = kf κ x := by unfold kA; rw [e]
theorem dz {α : Type} {arr : Array α} {i : Nat} (h : i < arr.size) : ∃ x,arr[i]? = some x /\ x ∈ arr.toList := ⟨arr[i],getElem?_pos arr i h,by simp⟩
theorem jJ {arr : Array Keyed} (h : dm κ arr.toList) {i j : Nat} (bE : i <= j) (hj : j < arr.size) : κ.kle (kA κ arr i) (kA κ arr j) := by
  have li : i < arr.toList.length := by rw [Array.length_toList]; omega
  have lj : j < arr.toList.length := by rw [Array.length_toList]; omega
  have ei : arr[i]? = some arr.toList[i] := by rw [<- Array.getElem?_toList,List.getElem?_eq_getElem li]
  have ej : arr[j]? = some arr.toList[j] := by rw [<- Array.getElem?_toList,List.getElem?_eq_getElem lj]
  rw [bx ei,bx ej]
  rcases Nat.lt_or_ge i j with z | z
  · exact List.pairwise_iff_getElem.mp h i j li lj z
  · have : i = j := by omega
    subst this
    exact KeyOrd.kle_refl _
theorem mem_mid {arr : Array Keyed} {i k : Nat} {x : Keyed} (h : x ∈ (arr.toList.drop i).take k) : ∃ j,j < k /\ arr[i + j]? = some x := by
  obtain ⟨n,hn,e⟩ := List.getElem_of_mem h
  rw [List.length_take] at hn
  refine ⟨n,by omega,?_⟩
  rw [<- Array.getElem?_toList,<- List.getElem?_drop,<- e]
  rw [List.getElem_take,List.getElem?_eq_getElem]
theorem wa (C : gh prog w A E s kd κ) {key : Keyed} {arr : Array Keyed} {base n hint : Nat} {st : SortSt} {Q : Option Nat -> SortSt -> Prop} (hk : kindOf st = kd) (k1 : (κ.keyOf key.1).isSome = true) (ka : Kd κ arr.toList) (hn : base + n <= arr.size) (hh : hint < n)
    (rF : ∀ i j,i <= j -> j < n -> κ.kle (kA κ arr (base + i)) (kA κ arr (base + j)))
    (h : ∀ k,k <= n -> (∀ i,i < k -> κ.kle (kA κ arr (base + i)) (kf κ key)) -> (∀ i,k <= i -> i < n -> κ.klt (kf κ key) (kA κ arr (base + i))) -> Q (some k) st) :
    wpS (model prog w) A E s (y9 false key arr base n hint) Q st := by
  refine E1 (fun i => !κ.blt (kf κ key) (kA κ arr (base + i))) (fun i Q hi hq => ?_) (fun i j bE hj e => ?_) hh (fun k Ad h1 h2 => h k Ad (fun i hi => ?_) (fun i b1 b2 => ?_))
  · obtain ⟨x,ex,mx⟩ := dz (arr := arr) (i := base + i) (by omega)
    rw [bx ex] at hq
    exact X4 C hk ex k1 (ka x mx) hq
  · have e' : κ.blt (kf κ key) (kA κ arr (base + j)) = false := by simpa using e
    have : κ.kle (kA κ arr (base + i)) (kf κ key) := KeyOrd.kle_trans (rF i j bE hj) e'
    unfold KeyOrd.kle at this
    rw [this]; rfl
  · have := h1 i hi
    show κ.blt _ _ = false
    simpa using this
  · have := h2 i b1 b2
    show κ.blt _ _ = true
    simpa using this
theorem wJ (C : gh prog w A E s kd κ) {key : Keyed} {arr : Array Keyed} {base n hint : Nat} {st : SortSt} {Q : Option Nat -> SortSt -> Prop} (hk : kindOf st = kd) (k1 : (κ.keyOf key.1).isSome = true) (ka : Kd κ arr.toList) (hn : base + n <= arr.size) (hh : hint < n)
    (rF : ∀ i j,i <= j -> j < n -> κ.kle (kA κ arr (base + i)) (kA κ arr (base + j)))
    (h : ∀ k,k <= n -> (∀ i,i < k -> κ.klt (kA κ arr (base + i)) (kf κ key)) -> (∀ i,k <= i -> i < n -> κ.kle (kf κ key) (kA κ arr (base + i))) -> Q (some k) st) :
    wpS (model prog w) A E s (y9 true key arr base n hint) Q st := by
  refine E1 (fun i => κ.blt (kA κ arr (base + i)) (kf κ key)) (fun i Q hi hq => ?_) (fun i j bE hj e => ?_) hh (fun k Ad h1 h2 => h k Ad (fun i hi => h1 i hi) (fun i b1 b2 => h2 i b1 b2))
  · obtain ⟨x,ex,mx⟩ := dz (arr := arr) (i := base + i) (by omega)
    rw [bx ex] at hq
    exact X3 C hk ex k1 (ka x mx) hq
  · exact KeyOrd.klt_of_kle_of_klt (rF i j bE hj) e
end
end So
namespace So
open PySem PyProof.Rows
section
variable {prog : Program} {w : World} {A : Around} {E : Value -> Shared -> Prop} {s : Shared} {kd : SortKind} {κ : KeyKind}
theorem PL (C : gh prog w A E s kd κ) {a b : Array Keyed} {st : SortSt} {Q : Array Keyed -> SortSt -> Prop} (hk : kindOf st = kd) (ka : Kd κ a.toList) (kb : Kd κ b.toList) (sa : dm κ a.toList) (sb : dm κ b.toList) (na : 0 < a.size) (nb : 0 < b.size)
    (h0 : ∀ x y,b[0]? = some x -> a[0]? = some y -> κ.kle (kf κ x) (kf κ y)) (hl : ∀ x ∈ b.toList,∀ y,a[a.size - 1]? = some y -> κ.kle (kf κ x) (kf κ y))
    (h : ∀ (m : Array Keyed) g,Gd κ a.toList b.toList m.toList -> Q m (de st g)) : wpS (model prog w) A E s (X1 a b) Q st := by
  have la : a.toList.length = a.size := Array.length_toList
  have lb : b.toList.length = b.size := Array.length_toList
  have ga : ∀ {i x},a[i]? = some x -> a.toList[i]? = some x := fun {i x} e => by rw [Array.getElem?_toList]; exact e
  have gb : ∀ {i x},b[i]? = some x -> b.toList[i]? = some x := fun {i x} e => by rw [Array.getElem?_toList]; exact e
  have dl : ∀ (out : Array Keyed) ia ib,(out ++ a.extract ia a.size ++ b.extract ib b.size).toList = out.toList ++ a.toList.drop ia ++ b.toList.drop ib := fun out ia ib => by
    rw [Array.toList_append,Array.toList_append,nq,nq]
  have ll : ∀ (out : Array Keyed) ia ib,(out ++ b.extract ib b.size ++ a.extract ia a.size).toList = out.toList ++ b.toList.drop ib ++ a.toList.drop ia := fun out ia ib => by
    rw [Array.toList_append,Array.toList_append,nq,nq]
  have last : ∀ {out : Array Keyed} {ia ib},MI κ a.toList b.toList out.toList ia ib -> ia + 1 = a.size -> Gd κ a.toList b.toList (out ++ b.extract ib b.size ++ a.extract ia a.size).toList := fun {out ia ib} mi e => by
    rw [ll]
    refine mi.Si fun x hx y hy => ?_
    obtain ⟨z,ez,_⟩ := dz (arr := a) (i := ia) (by omega)
    rw [nk (ga ez),List.drop_eq_nil_of_le (by omega),List.mem_singleton] at hy
    rw [hy]
    exact hl x (List.mem_of_mem_drop hx) z (by rw [show a.size - 1 = ia by omega]; exact ez)
  refine wpS_bind (wpS_lift (wpAny_rule ⟨rfl,?_⟩))
  (with_reducible conv => arg 5; whnf)
  obtain ⟨x0,e0,m0⟩ := dz nb
  refine wpS_bind (cH e0 ?_)
  (with_reducible conv => arg 5; whnf)
  obtain ⟨y0,f0,_⟩ := dz na
  have rG : MI κ a.toList b.toList [x0] 0 1 := by
    have : MI κ a.toList b.toList [] 0 0 := ⟨List.Perm.refl _,sa,sb⟩
    refine this.nT (gb e0) fun z hz => KeyOrd.kle_trans (h0 x0 y0 e0 f0) (ko (i := 0) sa (ga f0) z hz)
  by_cases ft : (1 == b.size) = true
  · rw [if_pos ft]
    have := (beq_iff_eq.mp ft).symm
    exact wpS_pure (h _ (gallopOf st) (by rw [dl]; exact rG.tD (by omega)))
  rw [if_neg ft]
  have S6 : 1 ≠ b.size := fun z => ft (beq_iff_eq.mpr z)
  by_cases jt : (0 + 1 == a.size) = true
  · rw [if_pos jt]
    have := (beq_iff_eq.mp jt)
    exact wpS_pure (h _ (gallopOf st) (last rG this))
  rw [if_neg jt]
  have S7 : 0 + 1 ≠ a.size := fun z => jt (beq_iff_eq.mpr z)
  refine wpS_bind (wpS_get ?_)
  (with_reducible conv => arg 5; whnf)
  generalize gallopOf st = X5
  refine wpS_bind (wpS_mono (wpS_forRange (I := fun t c af => (∃ g,af = de st g) /\ ∃ out ia ib mg,c = (none,out,ia,ib,mg) /\ MI κ a.toList b.toList out.toList ia ib /\ ia + 1 < a.size /\ ib < b.size /\ t <= ia + ib)
    (Q := fun c af => (∃ g,af = de st g) /\ ∃ m,c.1 = some m /\ Gd κ a.toList b.toList m.toList) ?_ ?_ ⟨⟨gallopOf st,rfl⟩,_,0,1,_,rfl,rG,by omega,by omega,by omega⟩) ?_)
  rotate_left
  · rintro c af ⟨_,out,ia,ib,mg,rfl,mi,h1,h2,h3⟩
    omega
  · rintro c af ⟨⟨g,rfl⟩,m,e,gd⟩
    dsimp only
    rw [e]
    exact wpS_pure (h m g gd)
  rintro t c af _ ht ⟨⟨g,rfl⟩,out,ia,ib,mg,rfl,mi,h1,h2,h3⟩
  (with_reducible conv => arg 5; whnf)
  (try dsimp -zeta only)
  refine wpS_bind (wpS_mono (wpS_forRange (I := fun q c af => af = de st g /\ ∃ out ia ib ac bc,c = (none,out,ia,ib,ac,bc) /\ MI κ a.toList b.toList out.toList ia ib /\ ia + 1 < a.size /\ ib < b.size /\ t + q <= ia + ib)
    (Q := fun c af => af = de st g /\ ((∃ m,c.1 = some m /\ Gd κ a.toList b.toList m.toList) \/ ∃ out ia ib ac bc,c = (none,out,ia,ib,ac,bc) /\ MI κ a.toList b.toList out.toList ia ib /\ ia + 1 < a.size /\ ib < b.size /\ t + 1 <= ia + ib)) ?_ ?_ ⟨rfl,out,ia,ib,0,0,rfl,mi,h1,h2,by omega⟩) ?_)
  rotate_left
  · rintro c af ⟨_,out,ia,ib,ac,bc,rfl,mi,h1,h2,h3⟩
    omega
  rotate_left
  · clear mi h1 h2 h3
    rintro q c af _ hq ⟨rfl,out,ia,ib,ac,bc,rfl,mi,h1,h2,h3⟩
    (with_reducible conv => arg 5; whnf)
    (try dsimp -zeta only)
    obtain ⟨xb,eb,mb⟩ := dz h2
    obtain ⟨xa,ea,ma⟩ := dz (arr := a) (i := ia) (by omega)
    have sA := (cA.mp mi.x).2.1
    have sB := (cA.mp mi.y).2.1
    refine wpS_bind (cH eb (wpS_bind (cH ea (wpS_bind (C.lt _ xb xa _ hk (kb _ mb) (ka _ ma) ?_)))))
    (try dsimp -zeta only)
    cases aS : κ.blt (kf κ xb) (kf κ xa) with
    | true =>
      rw [if_pos rfl]
      refine wpS_bind (cH eb ?_)
      (with_reducible conv => arg 5; whnf)
      have bp : MI κ a.toList b.toList (out.push xb).toList ia (ib + 1) := by
        rw [Array.toList_push]
        exact mi.nT (gb eb) fun z hz => KeyOrd.kle_trans (KeyOrd.kle_of_klt aS) (ko sA (ga ea) z hz)
      by_cases hz : (ib + 1 == b.size) = true
      · rw [if_pos hz]
        have := beq_iff_eq.mp hz
        exact wpS_pure ⟨rfl,.inl ⟨_,rfl,by rw [dl]; exact bp.tD (by omega)⟩⟩
      · rw [if_neg hz]
        have cG : ib + 1 ≠ b.size := fun z => hz (beq_iff_eq.mpr z)
        split
        · exact wpS_pure ⟨rfl,.inr ⟨_,_,_,_,_,rfl,bp,h1,by omega,by omega⟩⟩
        · exact wpS_pure ⟨rfl,_,_,_,_,_,rfl,bp,h1,by omega,by omega⟩
    | false =>
      rw [if_neg (by decide)]
      refine wpS_bind (cH ea ?_)
      (with_reducible conv => arg 5; whnf)
      have bp : MI κ a.toList b.toList (out.push xa).toList (ia + 1) ib := by
        rw [Array.toList_push]
        exact mi.nS (ga ea) fun z hz => KeyOrd.kle_trans aS (ko sB (gb eb) z hz)
      by_cases hz : (ia + 1 + 1 == a.size) = true
      · rw [if_pos hz]
        exact wpS_pure ⟨rfl,.inl ⟨_,rfl,last bp (beq_iff_eq.mp hz)⟩⟩
      · rw [if_neg hz]
        have cG : ia + 1 + 1 ≠ a.size := fun z => hz (beq_iff_eq.mpr z)
        split
        · exact wpS_pure ⟨rfl,.inr ⟨_,_,_,_,_,rfl,bp,by omega,h2,by omega⟩⟩
        · exact wpS_pure ⟨rfl,_,_,_,_,_,rfl,bp,by omega,h2,by omega⟩
  clear mi h1 h2 h3
  rintro c af ⟨rfl,⟨m,e,gd⟩ | ⟨out,ia,ib,ac,bc,rfl,mi,h1,h2,h3⟩⟩
  · obtain ⟨c1,c2⟩ := c
    simp only at e
    subst e
    (with_reducible conv => arg 5; whnf)
    (try dsimp -zeta only)
    exact wpS_pure ⟨⟨g,rfl⟩,m,rfl,gd⟩
  (with_reducible conv => arg 5; whnf)
  (try dsimp -zeta only)
  refine wpS_bind (wpS_lift (wpAny_rule ⟨rfl,?_⟩))
  (with_reducible conv => arg 5; whnf)
  refine wpS_bind (wpS_mono (wpS_forRange (I := fun q c af => (∃ g,af = de st g) /\ ∃ out ia ib mg ac bc,c = (none,out,ia,ib,mg,ac,bc) /\ MI κ a.toList b.toList out.toList ia ib /\ ia + 1 < a.size /\ ib < b.size /\ t + 1 + q <= ia + ib)
    (Q := fun c af => (∃ g,af = de st g) /\ ((∃ m,c.1 = some m /\ Gd κ a.toList b.toList m.toList) \/ ∃ out ia ib mg ac bc,c = (none,out,ia,ib,mg,ac,bc) /\ MI κ a.toList b.toList out.toList ia ib /\ ia + 1 < a.size /\ ib < b.size /\ t + 1 <= ia + ib)) ?_ ?_ ⟨⟨g,rfl⟩,out,ia,ib,_,ac,bc,rfl,mi,h1,h2,by omega⟩) ?_)
  rotate_left
  · rintro c af ⟨_,out,ia,ib,mg,ac,bc,rfl,mi,h1,h2,h3⟩
    omega
  · rintro c af ⟨⟨g,rfl⟩,⟨m,e,gd⟩ | ⟨out,ia,ib,mg,ac,bc,rfl,mi,h1,h2,h3⟩⟩
    · obtain ⟨c1,c2⟩ := c
      simp only at e
      subst e
      (with_reducible conv => arg 5; whnf)
      (try dsimp -zeta only)
      exact wpS_pure ⟨⟨g,rfl⟩,m,rfl,gd⟩
    · (with_reducible conv => arg 5; whnf)
      (try dsimp -zeta only)
      (with_reducible conv => arg 5; whnf)
      exact wpS_bind (wpS_modify (wpS_pure ⟨⟨_,rfl⟩,out,ia,ib,_,rfl,mi,h1,h2,h3⟩))
  clear mi h1 h2 h3
  rintro q c af _ hq ⟨⟨g,rfl⟩,out,ia,ib,mg,ac,bc,rfl,mi,h1,h2,h3⟩
  (extract_lets +onlyGivenNames -merge -underBinder PN PQ PR PU PV PX PY PZ P0 P1 Ox; subst PN PQ PR PU PV PX PY PZ P0 P1 Ox)
  (try dsimp -zeta only)
  extract_lets +onlyGivenNames -merge -underBinder FP
  obtain ⟨jp,dU⟩ : ∃ z,z = FP := ⟨FP,rfl⟩
  rw [<- dU]
  suffices J : ∀ mg,wpS (model prog w) A E s (jp () mg) _ (de st g) by
    (try dsimp -zeta only)
    split
    · (with_reducible conv => arg 5; whnf); exact J _
    · exact J _
  intro mg
  rw [dU]
  (try dsimp -zeta only)
  refine wpS_bind (wpS_modify ?_)
  obtain ⟨xb,eb,mb⟩ := dz h2
  refine wpS_bind (cH eb ?_)
  refine wpS_bind (wa C (key := xb) hk (kb _ mb) ka (by omega) (by omega) (fun i j bE hj => jJ sa (by omega) (by omega)) fun k k1 k2 k3 => ?_)
  (try dsimp -zeta only)
  (try dsimp -zeta only)
  (rw [show k = id k from rfl]; extract_lets +onlyGivenNames -merge -underBinder Sj; subst Sj; (try dsimp -zeta only [id]))
  extract_lets +onlyGivenNames -merge -underBinder FQ
  obtain ⟨rH,gR⟩ : ∃ z,z = FQ := ⟨FQ,rfl⟩
  rw [<- gR]
  have sB := (cA.mp mi.y).2.1
  suffices J2 : ∀ (out : Array Keyed) (ia : Nat),MI κ a.toList b.toList out.toList ia ib -> ia + 1 < a.size -> t + 1 + q <= ia + ib -> κ.klt (kf κ xb) (kA κ a ia) -> wpS (model prog w) A E s (rH () out ia) _ (de st mg) by
    by_cases ic : k > 0
    · rw [if_pos ic]
      (with_reducible conv => arg 5; whnf)
      have bp : MI κ a.toList b.toList (out ++ a.extract ia (ia + k)).toList (ia + k) ib := by
        rw [Array.toList_append,E2]
        refine mi.qo k fun x hx z hz => ?_
        obtain ⟨j,hj,ex⟩ := mem_mid hx
        have := k2 j hj
        rw [bx ex] at this
        exact KeyOrd.kle_trans this (ko sB (gb eb) z hz)
      by_cases hz : (ia + k + 1 == a.size) = true
      · rw [if_pos hz]
        exact wpS_pure ⟨⟨_,rfl⟩,.inl ⟨_,rfl,last bp (beq_iff_eq.mp hz)⟩⟩
      · rw [if_neg hz]
        have cG : ia + k + 1 ≠ a.size := fun z => hz (beq_iff_eq.mpr z)
        by_cases hy : (ia + k == a.size) = true
        · rw [if_pos hy]
          have := beq_iff_eq.mp hy
          exact wpS_pure ⟨⟨_,rfl⟩,.inl ⟨_,rfl,by rw [dl]; exact bp.Sh (by omega)⟩⟩
        · rw [if_neg hy]
          have cF : ia + k ≠ a.size := fun z => hy (beq_iff_eq.mpr z)
          exact J2 _ _ bp (by omega) (by omega) (k3 k (Nat.le_refl _) (by omega))
    · rw [if_neg ic]
      exact J2 _ _ mi h1 h3 (k3 0 (by omega) (by omega))
  clear mi h1 h3 k1 k2 k3 sB
  intro out ia mi h1 h3 aS
  rw [gR]
  (try dsimp -zeta only)
  obtain ⟨xa,ea,ma⟩ := dz (arr := a) (i := ia) (by omega)
  rw [bx ea] at aS
  have sA := (cA.mp mi.x).2.1
  refine wpS_bind (cH eb ?_)
  (with_reducible conv => arg 5; whnf)
  have bp : MI κ a.toList b.toList (out.push xb).toList ia (ib + 1) := by
    rw [Array.toList_push]
    exact mi.nT (gb eb) fun z hz => KeyOrd.kle_trans (KeyOrd.kle_of_klt aS) (ko sA (ga ea) z hz)
  by_cases hz : (ib + 1 == b.size) = true
  · rw [if_pos hz]
    have := beq_iff_eq.mp hz
    exact wpS_pure ⟨⟨_,rfl⟩,.inl ⟨_,rfl,by rw [dl]; exact bp.tD (by omega)⟩⟩
  rw [if_neg hz]
  have cG : ib + 1 ≠ b.size := fun z => hz (beq_iff_eq.mpr z)
  refine wpS_bind (cH ea ?_)
  refine wpS_bind (wJ C (key := xa) hk (ka _ ma) kb (by omega) (by omega) (fun i j bE hj => jJ sb (by omega) (by omega)) fun k k1 k2 k3 => ?_)
  (try dsimp -zeta only)
  (try dsimp -zeta only)
  (rw [show k = id k from rfl]; extract_lets +onlyGivenNames -merge -underBinder Sl; subst Sl; (try dsimp -zeta only [id]))
  extract_lets +onlyGivenNames -merge -underBinder FR
  obtain ⟨Ae,qI⟩ : ∃ z,z = FR := ⟨FR,rfl⟩
  rw [<- qI]
  suffices J3 : ∀ (out : Array Keyed) (ib : Nat),MI κ a.toList b.toList out.toList ia ib -> ib < b.size -> t + 1 + q <= ia + ib -> κ.kle (kf κ xa) (kA κ b ib) -> wpS (model prog w) A E s (Ae () out ib) _ (de st mg) by
    by_cases ic : k > 0
    · rw [if_pos ic]
      (with_reducible conv => arg 5; whnf)
      have oE : MI κ a.toList b.toList (out.push xb ++ b.extract (ib + 1) (ib + 1 + k)).toList ia (ib + 1 + k) := by
        rw [Array.toList_append,E2]
        refine bp.qu k fun x hx z hz => ?_
        obtain ⟨j,hj,ex⟩ := mem_mid hx
        have := k2 j hj
        rw [bx ex] at this
        exact KeyOrd.kle_trans (KeyOrd.kle_of_klt this) (ko sA (ga ea) z hz)
      by_cases hy : (ib + 1 + k == b.size) = true
      · rw [if_pos hy]
        have := beq_iff_eq.mp hy
        exact wpS_pure ⟨⟨_,rfl⟩,.inl ⟨_,rfl,by rw [dl]; exact oE.tD (by omega)⟩⟩
      · rw [if_neg hy]
        have cF : ib + 1 + k ≠ b.size := fun z => hy (beq_iff_eq.mpr z)
        exact J3 _ _ oE (by omega) (by omega) (k3 k (Nat.le_refl _) (by omega))
    · rw [if_neg ic]
      exact J3 _ _ bp (by omega) (by omega) (k3 0 (by omega) (by omega))
  clear mi bp h2 h3 k1 k2 k3 sA hz cG eb
  intro out ib mi h2 h3 hle
  rw [qI]
  (try dsimp -zeta only)
  obtain ⟨xc,ec,mc⟩ := dz h2
  rw [bx ec] at hle
  have sB := (cA.mp mi.y).2.1
  refine wpS_bind (cH ea ?_)
  (with_reducible conv => arg 5; whnf)
  have bp : MI κ a.toList b.toList (out.push xa).toList (ia + 1) ib := by
    rw [Array.toList_push]
    exact mi.nS (ga ea) fun z hz => KeyOrd.kle_trans hle (ko sB (gb ec) z hz)
  by_cases hz : (ia + 1 + 1 == a.size) = true
  · rw [if_pos hz]
    exact wpS_pure ⟨⟨_,rfl⟩,.inl ⟨_,rfl,last bp (beq_iff_eq.mp hz)⟩⟩
  · rw [if_neg hz]
    have cG : ia + 1 + 1 ≠ a.size := fun z => hz (beq_iff_eq.mpr z)
    split
    · exact wpS_pure ⟨⟨_,rfl⟩,.inr ⟨_,_,_,_,_,_,rfl,bp,by omega,h2,by omega⟩⟩
    · exact wpS_pure ⟨⟨_,rfl⟩,_,_,_,_,_,_,rfl,bp,by omega,h2,by omega⟩
end
end So
namespace So
open PySem PyProof.Rows
structure MH (κ : KeyKind) (a b r : List Keyed) (na nb : Nat) : Prop where
  p : ((a.take na ++ b.take nb) ++ r).Perm (a ++ b)
  x : dm κ (a.take na ++ r)
  y : dm κ (b.take nb ++ r)
section
variable {κ : KeyKind} {a b r : List Keyed} {na nb : Nat}
theorem MH.qo (h : MH κ a b r na nb) (t : Nat) (ht : t <= na) (hl : ∀ x ∈ b.take nb,∀ y ∈ (a.take na).drop t,κ.kle (kf κ x) (kf κ y)) : MH κ a b ((a.take na).drop t ++ r) t nb := by
  have e : a.take t ++ (a.take na).drop t = a.take na := by
    have := List.take_append_drop t (a.take na)
    rwa [List.take_take,Nat.min_eq_left ht] at this
  have hx := h.x
  have hp := h.p
  have hy := cA.mp h.y
  generalize (a.take na).drop t = A2 at e hl
  rw [<- e] at hx hp
  rw [List.append_assoc] at hx
  have X6 := cA.mp hx
  refine ⟨List.Perm.trans ?_ hp,hx,cA.mpr ⟨hy.1,X6.2.1,fun x eh y cF => ?_⟩⟩
  · generalize a.take t = A1
    generalize b.take nb = B
    rw [List.append_assoc,List.append_assoc A1 A2 B,List.append_assoc A1 (A2 ++ B) r]
    refine List.Perm.append_left _ ?_
    rw [<- List.append_assoc]
    exact List.Perm.append_right _ List.perm_append_comm
  · rcases List.mem_append.mp cF with z | z
    · exact hl x eh y z
    · exact hy.2.2 x eh y z
theorem MH.qu (h : MH κ a b r na nb) (t : Nat) (ht : t <= nb) (hl : ∀ x ∈ a.take na,∀ y ∈ (b.take nb).drop t,κ.kle (kf κ x) (kf κ y)) : MH κ a b ((b.take nb).drop t ++ r) na t := by
  have e : b.take t ++ (b.take nb).drop t = b.take nb := by
    have := List.take_append_drop t (b.take nb)
    rwa [List.take_take,Nat.min_eq_left ht] at this
  have hy := h.y
  have hp := h.p
  have hx := cA.mp h.x
  generalize (b.take nb).drop t = B2 at e hl
  rw [<- e] at hy hp
  rw [List.append_assoc] at hy
  have X7 := cA.mp hy
  refine ⟨?_,cA.mpr ⟨hx.1,X7.2.1,fun x eh y cF => ?_⟩,hy⟩
  · rw [<- List.append_assoc,List.append_assoc (a.take na)]
    exact hp
  · rcases List.mem_append.mp cF with z | z
    · exact hl x eh y z
    · exact hx.2.2 x eh y z
theorem r6 {l : List Keyed} {n : Nat} {x : Keyed} (e : l[n]? = some x) : (l.take (n + 1)).drop n = [x] := by
  obtain ⟨h1,rfl⟩ := List.getElem?_eq_some_iff.mp e
  rw [List.take_succ_eq_append_getElem h1,List.drop_append_of_le_length (by rw [List.length_take]; omega),List.drop_eq_nil_of_le (by rw [List.length_take]; omega),List.nil_append]
theorem MH.nS {y : Keyed} (h : MH κ a b r (na + 1) nb) (e : a[na]? = some y) (hl : ∀ z ∈ b.take nb,κ.kle (kf κ z) (kf κ y)) : MH κ a b (y :: r) na nb := by
  have := h.qo na (Nat.le_succ _) (by rw [r6 e]; intro x hx z hz; rw [List.mem_singleton.mp hz]; exact hl x hx)
  rwa [r6 e] at this
theorem MH.nT {y : Keyed} (h : MH κ a b r na (nb + 1)) (e : b[nb]? = some y) (hl : ∀ z ∈ a.take na,κ.kle (kf κ z) (kf κ y)) : MH κ a b (y :: r) na nb := by
  have := h.qu nb (Nat.le_succ _) (by rw [r6 e]; intro x hx z hz; rw [List.mem_singleton.mp hz]; exact hl x hx)
  rwa [r6 e] at this
theorem MH.done (h : MH κ a b r na nb) (hz : na = 0 \/ nb = 0) : Gd κ a b (a.take na ++ b.take nb ++ r) := by
  refine ⟨h.p,?_⟩
  rcases hz with rfl | rfl
  · rw [List.take_zero,List.nil_append]; exact h.y
  · rw [List.take_zero,List.append_nil]; exact h.x
theorem MH.first (h : MH κ a b r na nb) (hl : ∀ x ∈ b.take nb,∀ y ∈ a.take na,κ.kle (kf κ x) (kf κ y)) : Gd κ a b (b.take nb ++ a.take na ++ r) := by
  refine ⟨(List.Perm.append_right _ List.perm_append_comm).trans h.p,?_⟩
  have hy := cA.mp h.y
  rw [List.append_assoc]
  refine cA.mpr ⟨hy.1,h.x,fun x hx y cF => ?_⟩
  rcases List.mem_append.mp cF with z | z
  · exact hl x hx y z
  · exact hy.2.2 x hx y z
theorem kI {arr : Array Keyed} {n : Nat} {x : Keyed} (h : x ∈ arr.toList.take n) : ∃ j,j < n /\ arr[j]? = some x := by
  obtain ⟨m,hm,e⟩ := List.getElem_of_mem h
  rw [List.length_take] at hm
  refine ⟨m,by omega,?_⟩
  rw [<- Array.getElem?_toList,<- e,List.getElem_take,List.getElem?_eq_getElem]
theorem xP {arr : Array Keyed} {t n : Nat} {x : Keyed} (h : x ∈ (arr.toList.take n).drop t) : ∃ j,t <= j /\ j < n /\ arr[j]? = some x := by
  obtain ⟨m,hm,e⟩ := List.getElem_of_mem h
  rw [List.length_drop,List.length_take] at hm
  refine ⟨t + m,by omega,by omega,?_⟩
  rw [<- Array.getElem?_toList,<- e,List.getElem_drop,List.getElem_take,List.getElem?_eq_getElem]
theorem qa {α : Type} (a : Array α) (n : Nat) : (a.extract 0 n).toList = a.toList.take n := by
  rw [Array.toList_extract,List.extract_eq_take_drop,List.drop_zero,Nat.sub_zero]
theorem nI {α : Type} (a : Array α) (t n : Nat) : (a.extract t n).toList = (a.toList.take n).drop t := by
  rw [Array.toList_extract,List.extract_eq_take_drop,List.drop_take]
end
section
variable {prog : Program} {w : World} {A : Around} {E : Value -> Shared -> Prop} {s : Shared} {kd : SortKind} {κ : KeyKind}
theorem P2 (C : gh prog w A E s kd κ) {a b : Array Keyed} {st : SortSt} {Q : Array Keyed -> SortSt -> Prop} (hk : kindOf st = kd) (ka : Kd κ a.toList) (kb : Kd κ b.toList) (sa : dm κ a.toList) (sb : dm κ b.toList) (X8 : 0 < a.size) (nb0 : 0 < b.size)
    (h0 : ∀ x y,b[0]? = some x -> a[0]? = some y -> κ.kle (kf κ x) (kf κ y)) (hl : ∀ x ∈ b.toList,∀ y,a[a.size - 1]? = some y -> κ.kle (kf κ x) (kf κ y))
    (h : ∀ (m : Array Keyed) g,Gd κ a.toList b.toList m.toList -> Q m (de st g)) : wpS (model prog w) A E s (X2 a b) Q st := by
  have la : a.toList.length = a.size := Array.length_toList
  have lb : b.toList.length = b.size := Array.length_toList
  have ga : ∀ {i x},a[i]? = some x -> a.toList[i]? = some x := fun {i x} e => by rw [Array.getElem?_toList]; exact e
  have gb : ∀ {i x},b[i]? = some x -> b.toList[i]? = some x := fun {i x} e => by rw [Array.getElem?_toList]; exact e
  have Ih : ∀ {n j : Nat} {x y : Keyed},x ∈ a.toList.take n -> a[j]? = some y -> n <= j + 1 -> κ.kle (kf κ x) (kf κ y) := fun {n j x y} hx ey hn => by
    obtain ⟨i,hi,ex⟩ := kI hx
    have := jJ (arr := a) (κ := κ) sa (i := i) (j := j) (by omega) (Array.getElem?_eq_some_iff.mp ey).1
    rwa [bx ex,bx ey] at this
  have Ii : ∀ {n j : Nat} {x y : Keyed},x ∈ b.toList.take n -> b[j]? = some y -> n <= j + 1 -> κ.kle (kf κ x) (kf κ y) := fun {n j x y} hx ey hn => by
    obtain ⟨i,hi,ex⟩ := kI hx
    have := jJ (arr := b) (κ := κ) sb (i := i) (j := j) (by omega) (Array.getElem?_eq_some_iff.mp ey).1
    rwa [bx ex,bx ey] at this
  have dl : ∀ (out : Array Keyed) na nb,(a.extract 0 na ++ b.extract 0 nb ++ out.reverse).toList = a.toList.take na ++ b.toList.take nb ++ out.toList.reverse := fun out na nb => by
    rw [Array.toList_append,Array.toList_append,qa,qa,Array.toList_reverse]
  have first : ∀ {out : Array Keyed} {na nb},MH κ a.toList b.toList out.toList.reverse na nb -> nb = 1 -> Gd κ a.toList b.toList (b.extract 0 nb ++ a.extract 0 na ++ out.reverse).toList := fun {out na nb} mi e => by
    rw [Array.toList_append,Array.toList_append,qa,qa,Array.toList_reverse]
    refine mi.first fun x hx y hy => ?_
    obtain ⟨i,hi,ex⟩ := kI hx
    have X9 : i = 0 := by omega
    subst X9
    obtain ⟨j,hj,ey⟩ := kI hy
    obtain ⟨y0,f0,_⟩ := dz X8
    have := jJ (arr := a) (κ := κ) sa (i := 0) (j := j) (by omega) (Array.getElem?_eq_some_iff.mp ey).1
    rw [bx f0,bx ey] at this
    exact KeyOrd.kle_trans (h0 x y0 ex f0) this
  refine wpS_bind (wpS_lift (wpAny_rule ⟨rfl,?_⟩))
  (with_reducible conv => arg 5; whnf)
  obtain ⟨x0,e0,m0⟩ := dz (arr := a) (i := a.size - 1) (by omega)
  refine wpS_bind (cH e0 ?_)
  (with_reducible conv => arg 5; whnf)
  have rG : MH κ a.toList b.toList [x0] (a.size - 1) b.size := by
    have : MH κ a.toList b.toList [] (a.size - 1 + 1) b.size := by
      refine ⟨?_,?_,?_⟩
      · rw [List.append_nil,List.take_of_length_le (by omega),List.take_of_length_le (by omega)]
      · rw [List.append_nil,List.take_of_length_le (by omega)]; exact sa
      · rw [List.append_nil,List.take_of_length_le (by omega)]; exact sb
    exact this.nS (ga e0) fun z hz => hl z (List.mem_of_mem_take hz) x0 e0
  have za : MH κ a.toList b.toList (#[x0] : Array Keyed).toList.reverse (a.size - 1) b.size := rG
  by_cases ft : (a.size - 1 == 0) = true
  · rw [if_pos ft]
    have := beq_iff_eq.mp ft
    exact wpS_pure (h _ (gallopOf st) (by rw [dl]; exact za.done (.inl this)))
  rw [if_neg ft]
  have S6 : a.size - 1 ≠ 0 := fun z => ft (beq_iff_eq.mpr z)
  by_cases jt : (b.size == 1) = true
  · rw [if_pos jt]
    exact wpS_pure (h _ (gallopOf st) (first za (beq_iff_eq.mp jt)))
  rw [if_neg jt]
  have S7 : b.size ≠ 1 := fun z => jt (beq_iff_eq.mpr z)
  refine wpS_bind (wpS_get ?_)
  (with_reducible conv => arg 5; whnf)
  generalize gallopOf st = X5
  refine wpS_bind (wpS_mono (wpS_forRange (I := fun t c af => (∃ g,af = de st g) /\ ∃ out na nb mg,c = (none,na,nb,out,mg) /\ MH κ a.toList b.toList out.toList.reverse na nb /\ 0 < na /\ 1 < nb /\ na <= a.size /\ nb <= b.size /\ na + nb + t <= a.size + b.size)
    (Q := fun c af => (∃ g,af = de st g) /\ ∃ m,c.1 = some m /\ Gd κ a.toList b.toList m.toList) ?_ ?_ ⟨⟨gallopOf st,rfl⟩,_,_,_,_,rfl,za,by omega,by omega,by omega,by omega,by omega⟩) ?_)
  rotate_left
  · rintro c af ⟨_,out,na,nb,mg,rfl,mi,h1,h2,h3,h4,h5⟩
    omega
  · rintro c af ⟨⟨g,rfl⟩,m,e,gd⟩
    dsimp only
    rw [e]
    exact wpS_pure (h m g gd)
  rintro t c af _ ht ⟨⟨g,rfl⟩,out,na,nb,mg,rfl,mi,h1,h2,h3,h4,h5⟩
  (with_reducible conv => arg 5; whnf)
  (try dsimp -zeta only)
  refine wpS_bind (wpS_mono (wpS_forRange (I := fun q c af => af = de st g /\ ∃ out na nb ac bc,c = (none,na,nb,out,ac,bc) /\ MH κ a.toList b.toList out.toList.reverse na nb /\ 0 < na /\ 1 < nb /\ na <= a.size /\ nb <= b.size /\ na + nb + t + q <= a.size + b.size)
    (Q := fun c af => af = de st g /\ ((∃ m,c.1 = some m /\ Gd κ a.toList b.toList m.toList) \/ ∃ out na nb ac bc,c = (none,na,nb,out,ac,bc) /\ MH κ a.toList b.toList out.toList.reverse na nb /\ 0 < na /\ 1 < nb /\ na <= a.size /\ nb <= b.size /\ na + nb + t + 1 <= a.size + b.size)) ?_ ?_ ⟨rfl,out,na,nb,0,0,rfl,mi,h1,h2,h3,h4,by omega⟩) ?_)
  rotate_left
  · rintro c af ⟨_,out,na,nb,ac,bc,rfl,mi,h1,h2,h3,h4,h5⟩
    omega
  rotate_left
  · clear mi h1 h2 h3 h4 h5
    rintro q c af _ hq ⟨rfl,out,na,nb,ac,bc,rfl,mi,h1,h2,h3,h4,h5⟩
    (with_reducible conv => arg 5; whnf)
    (try dsimp -zeta only)
    obtain ⟨na,rfl⟩ : ∃ n,na = n + 1 := ⟨na - 1,by omega⟩
    obtain ⟨nb,rfl⟩ : ∃ n,nb = n + 1 := ⟨nb - 1,by omega⟩
    obtain ⟨xb,eb,mb⟩ := dz (arr := b) (i := nb) (by omega)
    obtain ⟨xa,ea,ma⟩ := dz (arr := a) (i := na) (by omega)
    simp only [Nat.add_sub_cancel]
    refine wpS_bind (cH eb (wpS_bind (cH ea (wpS_bind (C.lt _ xb xa _ hk (kb _ mb) (ka _ ma) ?_)))))
    (try dsimp -zeta only)
    cases aS : κ.blt (kf κ xb) (kf κ xa) with
    | true =>
      rw [if_pos rfl]
      (try dsimp -zeta only)
      refine wpS_bind (cH ea ?_)
      (try dsimp -zeta only)
      have bp : MH κ a.toList b.toList (out.push xa).toList.reverse na (nb + 1) := by
        rw [Array.toList_push,List.reverse_append]
        exact mi.nS (ga ea) fun z hz => KeyOrd.kle_trans (Ii hz eb (Nat.le_refl _)) (KeyOrd.kle_of_klt aS)
      by_cases hz : (na == 0) = true
      · rw [if_pos hz]
        exact wpS_pure ⟨rfl,.inl ⟨_,rfl,by rw [dl]; exact bp.done (.inl (beq_iff_eq.mp hz))⟩⟩
      · rw [if_neg hz]
        have cG : na ≠ 0 := fun z => hz (beq_iff_eq.mpr z)
        split
        · exact wpS_pure ⟨rfl,.inr ⟨_,_,_,_,_,rfl,bp,by omega,by omega,by omega,by omega,by omega⟩⟩
        · exact wpS_pure ⟨rfl,_,_,_,_,_,rfl,bp,by omega,by omega,by omega,by omega,by omega⟩
    | false =>
      rw [if_neg (by decide)]
      (try dsimp -zeta only)
      refine wpS_bind (cH eb ?_)
      (try dsimp -zeta only)
      have bp : MH κ a.toList b.toList (out.push xb).toList.reverse (na + 1) nb := by
        rw [Array.toList_push,List.reverse_append]
        exact mi.nT (gb eb) fun z hz => KeyOrd.kle_trans (Ih hz ea (Nat.le_refl _)) aS
      by_cases hz : (nb == 1) = true
      · rw [if_pos hz]
        exact wpS_pure ⟨rfl,.inl ⟨_,rfl,first bp (beq_iff_eq.mp hz)⟩⟩
      · rw [if_neg hz]
        have cG : nb ≠ 1 := fun z => hz (beq_iff_eq.mpr z)
        split
        · exact wpS_pure ⟨rfl,.inr ⟨_,_,_,_,_,rfl,bp,by omega,by omega,by omega,by omega,by omega⟩⟩
        · exact wpS_pure ⟨rfl,_,_,_,_,_,rfl,bp,by omega,by omega,by omega,by omega,by omega⟩
  clear mi h1 h2 h3 h4 h5
  rintro c af ⟨rfl,⟨m,e,gd⟩ | ⟨out,na,nb,ac,bc,rfl,mi,h1,h2,h3,h4,h5⟩⟩
  · obtain ⟨c1,c2⟩ := c
    simp only at e
    subst e
    (with_reducible conv => arg 5; whnf)
    (try dsimp -zeta only)
    exact wpS_pure ⟨⟨g,rfl⟩,m,rfl,gd⟩
  (with_reducible conv => arg 5; whnf)
  (try dsimp -zeta only)
  refine wpS_bind (wpS_lift (wpAny_rule ⟨rfl,?_⟩))
  (with_reducible conv => arg 5; whnf)
  refine wpS_bind (wpS_mono (wpS_forRange (I := fun q c af => (∃ g,af = de st g) /\ ∃ out na nb mg ac bc,c = (none,na,nb,out,mg,ac,bc) /\ MH κ a.toList b.toList out.toList.reverse na nb /\ 0 < na /\ 1 < nb /\ na <= a.size /\ nb <= b.size /\ na + nb + t + 1 + q <= a.size + b.size)
    (Q := fun c af => (∃ g,af = de st g) /\ ((∃ m,c.1 = some m /\ Gd κ a.toList b.toList m.toList) \/ ∃ out na nb mg ac bc,c = (none,na,nb,out,mg,ac,bc) /\ MH κ a.toList b.toList out.toList.reverse na nb /\ 0 < na /\ 1 < nb /\ na <= a.size /\ nb <= b.size /\ na + nb + t + 1 <= a.size + b.size)) ?_ ?_ ⟨⟨g,rfl⟩,out,na,nb,_,ac,bc,rfl,mi,h1,h2,h3,h4,by omega⟩) ?_)
  rotate_left
  · rintro c af ⟨_,out,na,nb,mg,ac,bc,rfl,mi,h1,h2,h3,h4,h5⟩
    omega
  · rintro c af ⟨⟨g,rfl⟩,⟨m,e,gd⟩ | ⟨out,na,nb,mg,ac,bc,rfl,mi,h1,h2,h3,h4,h5⟩⟩
    · obtain ⟨c1,c2⟩ := c
      simp only at e
      subst e
      (with_reducible conv => arg 5; whnf)
      (try dsimp -zeta only)
      exact wpS_pure ⟨⟨g,rfl⟩,m,rfl,gd⟩
    · (with_reducible conv => arg 5; whnf)
      (try dsimp -zeta only)
      (with_reducible conv => arg 5; whnf)
      exact wpS_bind (wpS_modify (wpS_pure ⟨⟨_,rfl⟩,out,na,nb,_,rfl,mi,h1,h2,h3,h4,h5⟩))
  clear mi h1 h2 h3 h4 h5
  rintro q c af _ hq ⟨⟨g,rfl⟩,out,na,nb,mg,ac,bc,rfl,mi,h1,h2,h3,h4,h5⟩
  (extract_lets +onlyGivenNames -merge -underBinder P4 P5 P6 P7 P8 P9 Qa Qb Qc Qd Oy; subst P4 P5 P6 P7 P8 P9 Qa Qb Qc Qd Oy)
  (try dsimp -zeta only)
  extract_lets +onlyGivenNames -merge -underBinder FT
  obtain ⟨jp,dU⟩ : ∃ z,z = FT := ⟨FT,rfl⟩
  rw [<- dU]
  suffices J : ∀ mg,wpS (model prog w) A E s (jp () mg) _ (de st g) by
    (try dsimp -zeta only)
    split
    · (with_reducible conv => arg 5; whnf); exact J _
    · exact J _
  intro mg
  rw [dU]
  (try dsimp -zeta only)
  refine wpS_bind (wpS_modify ?_)
  obtain ⟨xb,eb,mb⟩ := dz (arr := b) (i := nb - 1) (by omega)
  refine wpS_bind (cH eb ?_)
  refine wpS_bind (wa C (key := xb) hk (kb _ mb) ka (by omega) (by omega) (fun i j bE hj => jJ sa (by omega) (by omega)) fun k k1 k2 k3 => ?_)
  simp only [Nat.zero_add] at k2 k3
  (try dsimp -zeta only)
  (try dsimp -zeta only)
  (extract_lets +onlyGivenNames -merge -underBinder Qe Qf; subst Qe Qf)
  extract_lets +onlyGivenNames -merge -underBinder FU
  obtain ⟨rH,gR⟩ : ∃ z,z = FU := ⟨FU,rfl⟩
  rw [<- gR]
  suffices J2 : ∀ (na : Nat) (out : Array Keyed),MH κ a.toList b.toList out.toList.reverse na nb -> 0 < na -> na <= a.size -> na + nb + t + 1 + q <= a.size + b.size -> (∀ i,i < na -> κ.kle (kA κ a i) (kf κ xb)) -> wpS (model prog w) A E s (rH () na out) _ (de st mg) by
    by_cases ic : na - k > 0
    · rw [if_pos ic]
      (with_reducible conv => arg 5; whnf)
      have bp : MH κ a.toList b.toList (out ++ (a.extract k na).reverse).toList.reverse k nb := by
        rw [Array.toList_append,Array.toList_reverse,List.reverse_append,List.reverse_reverse,nI]
        refine mi.qo k (by omega) fun x hx y hy => ?_
        obtain ⟨j,j7,lX,ey⟩ := xP hy
        have := k3 j j7 lX
        rw [bx ey] at this
        exact KeyOrd.kle_trans (Ii hx eb (by omega)) (KeyOrd.kle_of_klt this)
      by_cases hz : (k == 0) = true
      · rw [if_pos hz]
        exact wpS_pure ⟨⟨_,rfl⟩,.inl ⟨_,rfl,by rw [dl]; exact bp.done (.inl (beq_iff_eq.mp hz))⟩⟩
      · rw [if_neg hz]
        have cG : k ≠ 0 := fun z => hz (beq_iff_eq.mpr z)
        exact J2 _ _ bp (by omega) (by omega) (by omega) k2
    · rw [if_neg ic]
      have : k = na := by omega
      subst this
      exact J2 _ _ mi h1 h3 (by omega) k2
  clear mi h1 h3 h5 k1 k2 k3
  intro na out mi h1 h3 h5 hle
  rw [gR]
  (with_reducible conv => arg 5; whnf)
  obtain ⟨nb,rfl⟩ : ∃ n,nb = n + 1 := ⟨nb - 1,by omega⟩
  simp -zeta only [Nat.add_sub_cancel] at eb ⊢
  refine wpS_bind (cH eb ?_)
  (with_reducible conv => arg 5; whnf)
  have bp : MH κ a.toList b.toList (out.push xb).toList.reverse na nb := by
    rw [Array.toList_push,List.reverse_append]
    refine mi.nT (gb eb) fun z hz => ?_
    obtain ⟨i,hi,ez⟩ := kI hz
    have := hle i hi
    rwa [bx ez] at this
  by_cases hz : (nb == 1) = true
  · rw [if_pos hz]
    exact wpS_pure ⟨⟨_,rfl⟩,.inl ⟨_,rfl,first bp (beq_iff_eq.mp hz)⟩⟩
  rw [if_neg hz]
  have cG : nb ≠ 1 := fun z => hz (beq_iff_eq.mpr z)
  obtain ⟨xa,ea,ma⟩ := dz (arr := a) (i := na - 1) (by omega)
  refine wpS_bind (cH ea ?_)
  refine wpS_bind (wJ C (key := xa) hk (ka _ ma) kb (by omega) (by omega) (fun i j bE hj => jJ sb (by omega) (by omega)) fun k k1 k2 k3 => ?_)
  simp only [Nat.zero_add] at k2 k3
  (try dsimp -zeta only)
  (try dsimp -zeta only)
  (extract_lets +onlyGivenNames -merge -underBinder Qg Qh; subst Qg Qh)
  extract_lets +onlyGivenNames -merge -underBinder FV
  obtain ⟨Ae,qI⟩ : ∃ z,z = FV := ⟨FV,rfl⟩
  rw [<- qI]
  suffices J3 : ∀ (nb : Nat) (out : Array Keyed),MH κ a.toList b.toList out.toList.reverse na nb -> 1 < nb -> nb <= b.size -> na + nb + t + 1 + q + 1 <= a.size + b.size -> (∀ i,i < nb -> κ.kle (kA κ b i) (kf κ xa)) -> wpS (model prog w) A E s (Ae () nb out) _ (de st mg) by
    by_cases ic : nb - k > 0
    · rw [if_pos ic]
      (with_reducible conv => arg 5; whnf)
      have oE : MH κ a.toList b.toList (out.push xb ++ (b.extract k nb).reverse).toList.reverse na k := by
        rw [Array.toList_append,Array.toList_reverse,List.reverse_append,List.reverse_reverse,nI]
        refine bp.qu k (by omega) fun x hx y hy => ?_
        obtain ⟨j,j7,lX,ey⟩ := xP hy
        have := k3 j j7 lX
        rw [bx ey] at this
        exact KeyOrd.kle_trans (Ih hx ea (by omega)) this
      by_cases hy : (k == 1) = true
      · rw [if_pos hy]
        exact wpS_pure ⟨⟨_,rfl⟩,.inl ⟨_,rfl,first oE (beq_iff_eq.mp hy)⟩⟩
      · rw [if_neg hy]
        have cF : k ≠ 1 := fun z => hy (beq_iff_eq.mpr z)
        by_cases hx : (k == 0) = true
        · rw [if_pos hx]
          exact wpS_pure ⟨⟨_,rfl⟩,.inl ⟨_,rfl,by rw [dl]; exact oE.done (.inr (beq_iff_eq.mp hx))⟩⟩
        · rw [if_neg hx]
          have eh : k ≠ 0 := fun z => hx (beq_iff_eq.mpr z)
          exact J3 _ _ oE (by omega) (by omega) (by omega) fun i hi => KeyOrd.kle_of_klt (k2 i hi)
    · rw [if_neg ic]
      have : k = nb := by omega
      subst this
      exact J3 _ _ bp (by omega) (by omega) (by omega) fun i hi => KeyOrd.kle_of_klt (k2 i hi)
  clear mi bp h2 h4 h5 k1 k2 k3 hz cG eb
  intro nb out mi h2 h4 h5 S8
  rw [qI]
  (with_reducible conv => arg 5; whnf)
  obtain ⟨na,rfl⟩ : ∃ n,na = n + 1 := ⟨na - 1,by omega⟩
  simp only [Nat.add_sub_cancel] at ea ⊢
  refine wpS_bind (cH ea ?_)
  (try dsimp -zeta only)
  have bp : MH κ a.toList b.toList (out.push xa).toList.reverse na nb := by
    rw [Array.toList_push,List.reverse_append]
    refine mi.nS (ga ea) fun z hz => ?_
    obtain ⟨i,hi,ez⟩ := kI hz
    have := S8 i hi
    rwa [bx ez] at this
  by_cases hz : (na == 0) = true
  · rw [if_pos hz]
    exact wpS_pure ⟨⟨_,rfl⟩,.inl ⟨_,rfl,by rw [dl]; exact bp.done (.inl (beq_iff_eq.mp hz))⟩⟩
  · rw [if_neg hz]
    have cG : na ≠ 0 := fun z => hz (beq_iff_eq.mpr z)
    split
    · exact wpS_pure ⟨⟨_,rfl⟩,.inr ⟨_,_,_,_,_,_,rfl,bp,by omega,h2,by omega,h4,by omega⟩⟩
    · exact wpS_pure ⟨⟨_,rfl⟩,_,_,_,_,_,_,rfl,bp,by omega,h2,by omega,h4,by omega⟩
end
end So
namespace So
open PySem PyProof.Rows
structure SB (kd : SortKind) (a0 : Array Keyed) (p : Array (Nat × Nat × Nat)) (lo : Nat) (x0 : Array Keyed) (st : SortSt) : Prop where
  perm : (arrOf st).Perm a0
  kind : kindOf st = kd
  fail : failedOf st = none
  pend : pendingOf st = p
  low : ∀ i,i < lo -> (arrOf st)[i]? = x0[i]?
def SS (κ : KeyKind) (xs : Array Keyed) (lo n : Nat) : Prop := ∀ i j,i <= j -> j < n -> κ.kle (kA κ xs (lo + i)) (kA κ xs (lo + j))
def DS (κ : KeyKind) (xs : Array Keyed) (lo n : Nat) : Prop := ∀ i j,i <= j -> j < n -> κ.kle (kA κ xs (lo + j)) (kA κ xs (lo + i))
section
variable {κ : KeyKind} {kd : SortKind} {a0 x0 : Array Keyed} {p : Array (Nat × Nat × Nat)} {lo : Nat} {st : SortSt}
theorem SB.size (h : SB kd a0 p lo x0 st) : (arrOf st).size = a0.size := h.perm.size_eq
theorem SB.set (h : SB kd a0 p lo x0 st) {xs : Array Keyed} (hp : xs.Perm (arrOf st)) (hl : ∀ i,i < lo -> xs[i]? = (arrOf st)[i]?) : SB kd a0 p lo x0 (setArr st xs) :=
  ⟨hp.trans h.perm,h.kind,h.fail,h.pend,fun i hi => (hl i hi).trans (h.low i hi)⟩
theorem SB.keys (h : SB kd a0 p lo x0 st) (k : Kd κ a0.toList) : Kd κ (arrOf st).toList := fun x hx => k x ((Array.perm_iff_toList_perm.mp h.perm).mem_iff.mp hx)
theorem kq {xs ys : Array Keyed} {i j : Nat} (e : xs[i]? = ys[j]?) : kA κ xs i = kA κ ys j := by unfold kA; rw [e]
theorem wc {xs : Array Keyed} {i j : Nat} (hj : j <= xs.size) (k : Nat) : kA κ (mirror xs i j ((j - i) / 2)) k = if i <= k /\ k < j then kA κ xs (i + j - 1 - k) else kA κ xs k := by
  have e := getElem?_mirror_all (i := i) hj k
  split
  · rename_i z; rw [if_pos z] at e; exact kq e
  · rename_i z; rw [if_neg z] at e; exact kq e
theorem rV {xs : Array Keyed} {i j : Nat} (hj : j <= xs.size) (k : Nat) (hk : k < i) : (mirror xs i j ((j - i) / 2))[k]? = xs[k]? := by
  rw [getElem?_mirror_all hj,if_neg (by omega)]
theorem pL {xs : Array Keyed} {i j : Nat} (hj : j <= xs.size) (he : ∀ k,i <= k -> k < j -> kA κ xs k = kA κ xs (j - 1)) (k : Nat) : kA κ (mirror xs i j ((j - i) / 2)) k = kA κ xs k := by
  rw [wc hj]
  split
  · rw [he _ (by omega) (by omega),he k (by omega) (by omega)]
  · rfl
theorem Dx {xs : Array Keyed} {src d : Nat} (hs : src < xs.size) (hd : d <= src) (k : Nat) : kA κ (bubble xs src d) k = if k = src - d then kA κ xs src else if src - d < k /\ k <= src then kA κ xs (k - 1) else kA κ xs k := by
  have e := getElem?_bubble hs d hd k
  split
  · rename_i z; rw [if_pos z] at e; exact kq e
  · rename_i z
    rw [if_neg z] at e
    split
    · rename_i z2; rw [if_pos z2] at e; exact kq e
    · rename_i z2; rw [if_neg z2] at e; exact kq e
theorem MO {xs : Array Keyed} {src d : Nat} (hs : src < xs.size) (hd : d <= src) (k : Nat) (hk : k < src - d) : (bubble xs src d)[k]? = xs[k]? := by
  rw [getElem?_bubble hs d hd,if_neg (by omega),if_neg (by omega)]
end
section
variable {prog : Program} {w : World} {A : Around} {E : Value -> Shared -> Prop} {s : Shared} {kd : SortKind} {κ : KeyKind} {a0 x0 : Array Keyed} {p : Array (Nat × Nat × Nat)} {lo : Nat}
theorem nJ (C : gh prog w A E s kd κ) (k0 : Kd κ a0.toList) {st : SortSt} (hB : SB kd a0 p lo x0 st) {i j : Nat} {Q : Option Bool -> SortSt -> Prop} (hi : i < a0.size) (hj : j < a0.size) (h : Q (some (κ.blt (kA κ (arrOf st) i) (kA κ (arrOf st) j))) st) : wpS (model prog w) A E s (ltAt' i j) Q st := by
  obtain ⟨x,ex,mx⟩ := dz (arr := arrOf st) (i := i) (by rw [hB.size]; exact hi)
  obtain ⟨y,ey,my⟩ := dz (arr := arrOf st) (i := j) (by rw [hB.size]; exact hj)
  rw [bx ex,bx ey] at h
  rw [ltAt'_eq]
  refine wpS_bind (wpS_get ?_)
  show wpS _ _ _ _ (elem' (arrOf st) i >>= fun x => elem' (arrOf st) j >>= fun y => lt' x y) Q st
  exact wpS_bind (cH ex (wpS_bind (cH ey (C.lt st x y _ hB.kind (hB.keys k0 x mx) (hB.keys k0 y my) h))))
theorem FW (C : gh prog w A E s kd κ) (k0 : Kd κ a0.toList) {st : SortSt} (hB : SB kd a0 p lo x0 st) {n dC : Nat} (n1 : 1 <= n) (hn : n <= dC) (hr : lo + dC <= a0.size) (hs : SS κ (arrOf st) lo n)
    (f : Nat -> (Option (Option Nat) × Nat) -> SM (ForInStep (Option (Option Nat) × Nat)))
    (hf : ∀ (x n : Nat) (Q : ForInStep (Option (Option Nat) × Nat) -> SortSt -> Prop),1 <= n -> n < dC -> (κ.klt (kA κ (arrOf st) (lo + n)) (kA κ (arrOf st) (lo + n - 1)) -> Q (.done (none,n)) st) -> (κ.kle (kA κ (arrOf st) (lo + n - 1)) (kA κ (arrOf st) (lo + n)) -> Q (.yield (none,n + 1)) st) -> wpS (model prog w) A E s (f x (none,n)) Q st) :
    wpS (model prog w) A E s (forIn [n:dC] ((none,n) : Option (Option Nat) × Nat) f) (fun c af => af = st /\ ∃ m,c = (none,m) /\ n <= m /\ m <= dC /\ SS κ (arrOf st) lo m /\ (m = dC \/ κ.klt (kA κ (arrOf st) (lo + m)) (kA κ (arrOf st) (lo + m - 1)))) st := by
  refine wpS_forRange (I := fun t c af => af = st /\ c = (none,t) /\ SS κ (arrOf st) lo t) ?_ ?_ ⟨rfl,rfl,hs⟩
  · rintro t c af h1 h2 ⟨rfl,rfl,ju⟩
    refine hf t t _ (by omega) h2 (fun z => ⟨rfl,t,rfl,h1,by omega,ju,.inr z⟩) (fun z => ⟨rfl,rfl,fun i j bE hj => ?_⟩)
    by_cases e : j < t
    · exact ju i j bE e
    · have : j = t := by omega
      subst this
      by_cases e2 : i = j
      · subst e2; exact KeyOrd.kle_refl _
      · refine KeyOrd.kle_trans (ju i (j - 1) (by omega) (by omega)) ?_
        rw [show lo + (j - 1) = lo + j - 1 by omega]; exact z
  · rintro c af ⟨rfl,rfl,ju⟩
    rw [show max n dC = dC by omega] at ju ⊢
    exact ⟨rfl,dC,rfl,hn,Nat.le_refl _,ju,.inl rfl⟩
theorem FX (C : gh prog w A E s kd κ) (k0 : Kd κ a0.toList) {st : SortSt} (hB : SB kd a0 p lo x0 st) {dC : Nat} {Q : Option Nat -> SortSt -> Prop} (n1 : 1 <= dC) (hr : lo + dC <= a0.size)
    (h : ∀ m af,SB kd a0 p lo x0 af -> 1 <= m -> m <= dC -> SS κ (arrOf af) lo m -> Q (some m) af) : wpS (model prog w) A E s (countRun' lo dC) Q st := by
  have s1 : SS κ (arrOf st) lo 1 := fun i j bE hj => by
    have : i = j := by omega
    subst this
    exact KeyOrd.kle_refl _
  refine wpS_bind (wpS_mono (FW C k0 hB (Nat.le_refl 1) n1 hr s1 _ fun x n Q h1 h2 q1 q2 => ?_) ?_)
  · (with_reducible conv => arg 5; whnf)
    refine wpS_bind (nJ C k0 hB (by omega) (by omega) ?_)
    (try dsimp -zeta only)
    cases e : κ.blt (kA κ (arrOf st) (lo + n)) (kA κ (arrOf st) (lo + n - 1)) with
    | true => rw [if_pos rfl]; exact wpS_pure (q1 e)
    | false => rw [if_neg (by decide)]; (with_reducible conv => arg 5; whnf); exact wpS_pure (q2 e)
  rintro c af ⟨rfl,n,rfl,m1,m2,hs,ur⟩
  (with_reducible conv => arg 5; whnf)
  (try dsimp -zeta only)
  by_cases hz : (n == dC) = true
  · rw [if_pos hz]
    exact wpS_pure (h n _ hB m1 m2 hs)
  rw [if_neg hz]
  have cG : n ≠ dC := fun z => hz (beq_iff_eq.mpr z)
  have aS := ur.resolve_left cG
  extract_lets +onlyGivenNames -merge -underBinder Hq
  obtain ⟨jp,dU⟩ : ∃ z,z = Hq := ⟨Hq,rfl⟩
  rw [<- dU]
  suffices J : ∀ st,SB kd a0 p lo x0 st -> DS κ (arrOf st) lo (n + 1) -> wpS (model prog w) A E s (jp ()) Q st by
    by_cases hg : n > 1
    · rw [if_pos hg]
      refine wpS_bind (nJ C k0 hB (by omega) (by omega) ?_)
      (try dsimp -zeta only)
      cases e : κ.blt (kA κ (arrOf af) lo) (kA κ (arrOf af) (lo + n - 1)) with
      | true => rw [if_pos rfl]; exact wpS_pure (h n _ hB m1 m2 hs)
      | false =>
        rw [if_neg (by decide)]
        have hsz : lo + n <= (arrOf af).size := by rw [hB.size]; omega
        have all : ∀ k,lo <= k -> k < lo + n -> kA κ (arrOf af) k = kA κ (arrOf af) (lo + n - 1) := fun k b1 b2 => by
          have c1 := hs 0 (k - lo) (by omega) (by omega)
          have c2 := hs (k - lo) (n - 1) (by omega) (by omega)
          rw [show lo + (k - lo) = k by omega] at c1 c2
          rw [show lo + (n - 1) = lo + n - 1 by omega] at c2
          exact KeyOrd.kle_antisymm c2 (KeyOrd.kle_trans (show κ.kle _ _ from e) c1)
        refine wpS_bind (wpS_modify (J _ (hB.set (mirror_perm _ _ _ _) fun i hi => rV hsz i hi) fun i j bE hj => ?_))
        show κ.kle (kA κ (mirror (arrOf af) _ _ _) _) (kA κ (mirror (arrOf af) _ _ _) _)
        rw [pL hsz all,pL hsz all]
        by_cases hjn : j < n
        · rw [all (lo + i) (by omega) (by omega),all (lo + j) (by omega) (by omega)]; exact KeyOrd.kle_refl _
        · have : j = n := by omega
          subst this
          by_cases e2 : i = j
          · subst e2; exact KeyOrd.kle_refl _
          · rw [all (lo + i) (by omega) (by omega)]; exact KeyOrd.kle_of_klt aS
    · rw [if_neg hg]
      have : n = 1 := by omega
      subst this
      refine J _ hB fun i j bE hj => ?_
      by_cases e2 : i = j
      · subst e2; exact KeyOrd.kle_refl _
      · have i0 : i = 0 := by omega
        have j1 : j = 1 := by omega
        subst i0 j1
        exact KeyOrd.kle_of_klt aS
  clear hs ur aS hB s1
  intro st hB hd
  rw [dU]
  (try dsimp -zeta only)
  refine wpS_bind (wpS_lift (wpAny_rule ⟨rfl,?_⟩))
  (with_reducible conv => arg 5; whnf)
  refine wpS_bind (wpS_mono (wpS_forRange (I := fun t c af => ∃ q,c = (none,t,q) /\ SB kd a0 p lo x0 af /\ DS κ (arrOf af) lo t /\ q + 1 <= t /\ ∀ i,t - (q + 1) <= i -> i < t -> kA κ (arrOf af) (lo + i) = kA κ (arrOf af) (lo + t - 1))
    (Q := fun c af => ∃ t q,c = (none,t,q) /\ 1 <= t /\ t <= dC /\ SB kd a0 p lo x0 af /\ DS κ (arrOf af) lo t /\ q + 1 <= t /\ ∀ i,t - (q + 1) <= i -> i < t -> kA κ (arrOf af) (lo + i) = kA κ (arrOf af) (lo + t - 1)) ?_ ?_ ⟨0,rfl,hB,hd,by omega,fun i b1 b2 => by rw [show lo + i = lo + (n + 1) - 1 by omega]⟩) ?_)
  · rintro t c af t1 t2 ⟨q,rfl,hB,hd,hq,he⟩
    have hsz : lo + t <= (arrOf af).size := by rw [hB.size]; omega
    (with_reducible conv => arg 5; whnf)
    (try dsimp -zeta only)
    refine wpS_bind (nJ C k0 hB (by omega) (by omega) ?_)
    (try dsimp -zeta only)
    extract_lets +onlyGivenNames -merge -underBinder FY
    obtain ⟨j1,j7⟩ : ∃ z,z = FY := ⟨FY,rfl⟩
    rw [<- j7]
    cases e : κ.blt (kA κ (arrOf af) (lo + t)) (kA κ (arrOf af) (lo + t - 1)) with
    | true =>
      rw [if_pos rfl]
      extract_lets +onlyGivenNames -merge -underBinder FZ
      obtain ⟨j2,lX⟩ : ∃ z,z = FZ := ⟨FZ,rfl⟩
      rw [<- lX]
      have step : ∀ xs : Array Keyed,(∀ k,kA κ xs k = kA κ (arrOf af) k) -> DS κ xs lo (t + 1) := fun xs hk i j bE hj => by
        rw [hk,hk]
        by_cases Af : j < t
        · exact hd i j bE Af
        · have : j = t := by omega
          subst this
          by_cases e2 : i = j
          · subst e2; exact KeyOrd.kle_refl _
          · refine KeyOrd.kle_trans (KeyOrd.kle_of_klt e) ?_
            have := hd i (j - 1) (by omega) (by omega)
            rwa [show lo + (j - 1) = lo + j - 1 by omega] at this
      have oG : ∀ k,lo + t - (q + 1) <= k -> k < lo + t -> kA κ (arrOf af) k = kA κ (arrOf af) (lo + t - 1) := fun k b1 b2 => by
        have := he (k - lo) (by omega) (by omega)
        rwa [show lo + (k - lo) = k by omega] at this
      split
      · refine wpS_bind (wpS_modify ?_)
        rw [lX]
        (with_reducible conv => arg 5; whnf)
        rw [j7]
        (with_reducible conv => arg 5; whnf)
        exact wpS_pure ⟨0,rfl,hB.set (mirror_perm _ _ _ _) fun i hi => rV hsz i (by omega),step _ (pL hsz oG),by omega,fun i b1 b2 => by rw [show lo + i = lo + (t + 1) - 1 by omega]⟩
      · rw [lX]
        (with_reducible conv => arg 5; whnf)
        rw [j7]
        (with_reducible conv => arg 5; whnf)
        exact wpS_pure ⟨0,rfl,hB,step _ (fun _ => rfl),by omega,fun i b1 b2 => by rw [show lo + i = lo + (t + 1) - 1 by omega]⟩
    | false =>
      rw [if_neg (by decide)]
      refine wpS_bind (nJ C k0 hB (by omega) (by omega) ?_)
      (try dsimp -zeta only)
      cases e2 : κ.blt (kA κ (arrOf af) (lo + t - 1)) (kA κ (arrOf af) (lo + t)) with
      | true =>
        rw [if_pos rfl]
        exact wpS_pure ⟨t,q,rfl,by omega,by omega,hB,hd,hq,he⟩
      | false =>
        rw [if_neg (by decide)]
        (with_reducible conv => arg 5; whnf)
        rw [j7]
        (with_reducible conv => arg 5; whnf)
        have eq : kA κ (arrOf af) (lo + t) = kA κ (arrOf af) (lo + t - 1) := KeyOrd.kle_antisymm e2 e
        refine wpS_pure ⟨q + 1,rfl,hB,fun i j bE hj => ?_,by omega,fun i b1 b2 => ?_⟩
        · by_cases Af : j < t
          · exact hd i j bE Af
          · have : j = t := by omega
            subst this
            by_cases e3 : i = j
            · subst e3; exact KeyOrd.kle_refl _
            · rw [eq]
              have := hd i (j - 1) (by omega) (by omega)
              rwa [show lo + (j - 1) = lo + j - 1 by omega] at this
        · rw [show lo + (t + 1) - 1 = lo + t by omega]
          by_cases hit : i = t
          · subst hit; rfl
          · rw [eq]; exact he i (by omega) (by omega)
  · rintro c af ⟨q,rfl,hB,hd,hq,he⟩
    rw [show max (n + 1) dC = dC by omega] at hd hq he ⊢
    exact ⟨dC,q,rfl,by omega,Nat.le_refl _,hB,hd,hq,he⟩
  clear hB hd
  rintro c af ⟨t,q,rfl,t1,t2,hB,hd,hq,he⟩
  have hsz : lo + t <= (arrOf af).size := by rw [hB.size]; omega
  (extract_lets +onlyGivenNames -merge -underBinder Qi Qj Qk Ql; subst Qi Qj Qk Ql)
  (try dsimp -zeta only)
  extract_lets +onlyGivenNames -merge -underBinder F0
  obtain ⟨j3,JP⟩ : ∃ z,z = F0 := ⟨F0,rfl⟩
  rw [<- JP]
  suffices J3 : ∀ st,SB kd a0 p lo x0 st -> DS κ (arrOf st) lo t -> wpS (model prog w) A E s (j3 ()) Q st by
    split
    · have oG : ∀ k,lo + t - (q + 1) <= k -> k < lo + t -> kA κ (arrOf af) k = kA κ (arrOf af) (lo + t - 1) := fun k b1 b2 => by
        have := he (k - lo) (by omega) (by omega)
        rwa [show lo + (k - lo) = k by omega] at this
      refine wpS_bind (wpS_modify (J3 _ (hB.set (mirror_perm _ _ _ _) fun i hi => rV hsz i (by omega)) fun i j bE hj => ?_))
      show κ.kle (kA κ (mirror (arrOf af) _ _ _) _) (kA κ (mirror (arrOf af) _ _ _) _)
      rw [pL hsz oG,pL hsz oG]
      exact hd i j bE hj
    · exact J3 _ hB hd
  clear hB hd he hsz
  intro st hB hd
  rw [JP]
  (try dsimp -zeta only)
  have hsz : lo + t <= (arrOf st).size := by rw [hB.size]; omega
  refine wpS_bind (wpS_modify ?_)
  have ie : SB kd a0 p lo x0 (setArr st (mirror (arrOf st) lo (lo + t) ((lo + t - lo) / 2))) := hB.set (mirror_perm _ _ _ _) fun i hi => rV hsz i hi
  refine wpS_bind (wpS_mono (FW C k0 ie t1 t2 hr (fun i j bE hj => ?_) _ fun x n Q h1 h2 q1 q2 => ?_) ?_)
  · show κ.kle (kA κ (mirror (arrOf st) _ _ _) _) (kA κ (mirror (arrOf st) _ _ _) _)
    rw [wc hsz,wc hsz,if_pos (by omega),if_pos (by omega)]
    have := hd (t - 1 - j) (t - 1 - i) (by omega) (by omega)
    rwa [show lo + (t - 1 - i) = lo + (lo + t) - 1 - (lo + i) by omega,show lo + (t - 1 - j) = lo + (lo + t) - 1 - (lo + j) by omega] at this
  · (with_reducible conv => arg 5; whnf)
    refine wpS_bind (nJ C k0 ie (by omega) (by omega) ?_)
    (try dsimp -zeta only)
    cases e : κ.blt (kA κ (arrOf (setArr st (mirror (arrOf st) lo (lo + t) ((lo + t - lo) / 2)))) (lo + n)) (kA κ (arrOf (setArr st (mirror (arrOf st) lo (lo + t) ((lo + t - lo) / 2)))) (lo + n - 1)) with
    | true => rw [if_pos rfl]; exact wpS_pure (q1 e)
    | false => rw [if_neg (by decide)]; (with_reducible conv => arg 5; whnf); exact wpS_pure (q2 e)
  · rintro c af ⟨rfl,m,rfl,b1,b2,hs,_⟩
    (with_reducible conv => arg 5; whnf)
    (try dsimp -zeta only)
    exact wpS_pure (h m _ ie (by omega) b2 hs)
end
end So
namespace So
open PySem PyProof.Rows
section
variable {prog : Program} {w : World} {A : Around} {E : Value -> Shared -> Prop} {s : Shared} {kd : SortKind} {κ : KeyKind} {a0 x0 : Array Keyed} {p : Array (Nat × Nat × Nat)} {lo : Nat}
theorem Ge (C : gh prog w A E s kd κ) (k0 : Kd κ a0.toList) {st : SortSt} (hB : SB kd a0 p lo x0 st) {n ok : Nat} {Q : Bool -> SortSt -> Prop} (hn : lo + n <= a0.size) (ay : ok <= n) (hs : SS κ (arrOf st) lo ok)
    (h : ∀ af,SB kd a0 p lo x0 af -> SS κ (arrOf af) lo n -> Q true af) : wpS (model prog w) A E s (binarySort' lo n ok) Q st := by
  refine wpS_bind (wpS_mono (wpS_forRange (I := fun t c af => c = (none,()) /\ SB kd a0 p lo x0 af /\ SS κ (arrOf af) lo (min t n))
    (Q := fun c af => c = (none,()) /\ SB kd a0 p lo x0 af /\ SS κ (arrOf af) lo n) ?_ ?_ ⟨rfl,hB,fun i j bE hj => ?_⟩) ?_)
  · rintro t c af t1 t2 ⟨rfl,hB,hs⟩
    rw [show min t n = t by omega] at hs
    (with_reducible conv => arg 5; whnf)
    refine wpS_bind (wpS_mono (wpS_forRange (I := fun x c aA => aA = af /\ ∃ l r,c = (none,l,r) /\ l <= r /\ r <= t /\ r - l <= t - x /\ (∀ i,i < l -> κ.kle (kA κ (arrOf af) (lo + i)) (kA κ (arrOf af) (lo + t))) /\ (∀ i,r <= i -> i < t -> κ.klt (kA κ (arrOf af) (lo + t)) (kA κ (arrOf af) (lo + i))))
      (Q := fun c aA => aA = af /\ ∃ l,c = (none,l,l) /\ l <= t /\ (∀ i,i < l -> κ.kle (kA κ (arrOf af) (lo + i)) (kA κ (arrOf af) (lo + t))) /\ (∀ i,l <= i -> i < t -> κ.klt (kA κ (arrOf af) (lo + t)) (kA κ (arrOf af) (lo + i)))) ?_ ?_ ⟨rfl,0,t,rfl,by omega,by omega,by omega,fun i z => by omega,fun i z1 z2 => by omega⟩) ?_)
    · rintro x c aA _ hx ⟨rfl,l,r,rfl,a1,a2,a3,a4,a5⟩
      (with_reducible conv => arg 5; whnf)
      (try dsimp -zeta only)
      by_cases hg : l >= r
      · rw [if_pos hg]
        have : l = r := by omega
        subst this
        exact wpS_pure ⟨rfl,l,rfl,a2,a4,a5⟩
      · rw [if_neg hg]
        (with_reducible conv => arg 5; whnf)
        refine wpS_bind (nJ C k0 hB (by omega) (by omega) ?_)
        (try dsimp -zeta only)
        cases e : κ.blt (kA κ (arrOf aA) (lo + t)) (kA κ (arrOf aA) (lo + (l + r) / 2)) with
        | true =>
          rw [if_pos rfl]
          (with_reducible conv => arg 5; whnf)
          exact wpS_pure ⟨rfl,l,(l + r) / 2,rfl,by omega,by omega,by omega,a4,fun i z1 z2 => KeyOrd.klt_of_klt_of_kle e (hs _ _ z1 z2)⟩
        | false =>
          rw [if_neg (by decide)]
          (with_reducible conv => arg 5; whnf)
          exact wpS_pure ⟨rfl,(l + r) / 2 + 1,r,rfl,by omega,by omega,by omega,fun i z => KeyOrd.kle_trans (hs i ((l + r) / 2) (by omega) (by omega)) e,a5⟩
    · rintro c aA ⟨rfl,l,r,rfl,a1,a2,a3,a4,a5⟩
      have : l = r := by omega
      subst this
      exact ⟨rfl,l,rfl,a2,a4,a5⟩
    · rintro c aA ⟨rfl,l,rfl,a2,a4,a5⟩
      (with_reducible conv => arg 5; whnf)
      (try dsimp -zeta only)
      have hsz : lo + t < (arrOf aA).size := by rw [hB.size]; omega
      refine wpS_bind (wpS_modify (wpS_pure ⟨rfl,hB.set (bubble_perm _ _ _) fun i hi => MO hsz (by omega) i (by omega),?_⟩))
      rw [show min (t + 1) n = t + 1 by omega]
      intro i j bE hj
      show κ.kle (kA κ (bubble (arrOf aA) (lo + t) (lo + t - (lo + l))) _) (kA κ (bubble (arrOf aA) (lo + t) (lo + t - (lo + l))) _)
      rw [Dx hsz (by omega),Dx hsz (by omega),show lo + t - (lo + t - (lo + l)) = lo + l by omega]
      repeat' split
      all_goals first
        | (exfalso; omega)
        | exact KeyOrd.kle_refl _
        | exact a4 _ (by omega)
        | exact hs _ _ (by omega) (by omega)
        | (have z := a5 (j - 1) (by omega) (by omega); rw [show lo + (j - 1) = lo + j - 1 by omega] at z; exact KeyOrd.kle_of_klt z)
        | (have z := hs (i - 1) (j - 1) (by omega) (by omega); rw [show lo + (i - 1) = lo + i - 1 by omega,show lo + (j - 1) = lo + j - 1 by omega] at z; exact z)
        | (have z := hs i (j - 1) (by omega) (by omega); rw [show lo + (j - 1) = lo + j - 1 by omega] at z; exact z)
  · rintro c af ⟨rfl,hB,hs⟩
    rw [show min (max (max ok 1) n) n = n by omega] at hs
    exact ⟨rfl,hB,hs⟩
  · by_cases e : ok = 0
    · have : i = j := by omega
      subst this; exact KeyOrd.kle_refl _
    · exact hs i j bE (by omega)
  · rintro c af ⟨rfl,hB,hs⟩
    (with_reducible conv => arg 5; whnf)
    (try dsimp -zeta only)
    exact wpS_pure (h af hB hs)
theorem D5 {α : Type} (sa : Nat) : ∀ (m : List α) (k : Nat) (xs : Array α),sa + k + m.length <= xs.size -> ((m.zipIdx k).foldl (fun a x => a.setIfInBounds (sa + x.2) x.1) xs).toList = xs.toList.take (sa + k) ++ m ++ xs.toList.drop (sa + k + m.length)
  | [],k,xs,h => by
    rw [List.zipIdx_nil,List.foldl_nil,List.append_nil,List.length_nil,Nat.add_zero,List.take_append_drop]
  | x :: m,k,xs,h => by
    rw [List.length_cons] at h
    rw [List.zipIdx_cons,List.foldl_cons,D5 sa m (k + 1) _ (by rw [Array.size_setIfInBounds]; omega),Array.toList_setIfInBounds]
    have hl : sa + k < xs.toList.length := by rw [Array.length_toList]; omega
    rw [show sa + (k + 1) = sa + k + 1 by omega,List.take_succ_eq_append_getElem (by rw [List.length_set]; exact hl),List.getElem_set_self,List.take_set_of_le (Nat.le_refl _),List.drop_set_of_lt (by omega),List.length_cons,show sa + k + 1 + m.length = sa + k + (m.length + 1) by omega]
    simp
theorem nr {arr : Array Keyed} {x : Keyed} {i n : Nat} (h : x ∈ (arr.extract i n).toList) : ∃ j,i <= j /\ j < n /\ arr[j]? = some x := by
  rw [nI] at h
  exact xP h
theorem sL {arr : Array Keyed} {i n : Nat} (h : ∀ a b,i <= a -> a <= b -> b < n -> κ.kle (kA κ arr a) (kA κ arr b)) (hn : n <= arr.size) : dm κ (arr.extract i n).toList := by
  unfold dm
  rw [List.pairwise_iff_getElem]
  intro a b ha hb ox
  have get : ∀ c (hc : c < (arr.extract i n).toList.length),arr[i + c]? = some ((arr.extract i n).toList[c]) := fun c hc => by
    have e1 : (arr.extract i n).toList[c]? = some ((arr.extract i n).toList[c]) := List.getElem?_eq_getElem hc
    have e3 : c < (arr.extract i n).size := by rw [<- Array.length_toList]; exact hc
    rw [Array.size_extract] at e3
    rw [<- e1,nI,List.getElem?_drop,List.getElem?_take,if_pos (by omega),Array.getElem?_toList]
  have lb : b < (arr.extract i n).size := by rw [<- Array.length_toList]; exact hb
  rw [Array.size_extract] at lb
  have := h (i + a) (i + b) (by omega) (by omega) (by omega)
  rwa [bx (get a ha),bx (get b hb)] at this
end
end So
namespace So
open PySem PyProof.Rows
section
variable {prog : Program} {w : World} {A : Around} {E : Value -> Shared -> Prop} {s : Shared} {kd : SortKind} {κ : KeyKind} {a0 x0 : Array Keyed}
theorem E3 {arr : Array Keyed} {n1 n : Nat} (h1 : SS κ arr 0 n1) (h2 : SS κ arr n1 (n - n1)) (h : ∀ i j,i < n1 -> n1 <= j -> j < n -> κ.kle (kA κ arr i) (kA κ arr j)) : ∀ i j,i <= j -> j < n -> κ.kle (kA κ arr i) (kA κ arr j) := fun i j bE hj => by
  by_cases z1 : j < n1
  · have := h1 i j bE z1
    rwa [Nat.zero_add,Nat.zero_add] at this
  · by_cases z2 : i < n1
    · exact h i j z2 (by omega) hj
    · have := h2 (i - n1) (j - n1) (by omega) (by omega)
      rwa [show n1 + (i - n1) = i by omega,show n1 + (j - n1) = j by omega] at this
structure zb (kd : SortKind) (κ : KeyKind) (a0 : Array Keyed) (st : SortSt) : Prop where
  perm : (arrOf st).Perm a0
  fail : failedOf st = none
  one : (pendingOf st).size = 1
  rF : ∀ i j,i <= j -> j < a0.size -> κ.kle (kA κ (arrOf st) i) (kA κ (arrOf st) j)
theorem Mo (C : gh prog w A E s kd κ) (k0 : Kd κ a0.toList) {st : SortSt} {n1 pw q : Nat} (hB : SB kd a0 #[(0,n1,pw),(n1,a0.size - n1,q)] 0 x0 st) {Q : Bool -> SortSt -> Prop} (h1 : 1 <= n1) (h2 : n1 < a0.size) (s1 : SS κ (arrOf st) 0 n1) (s2 : SS κ (arrOf st) n1 (a0.size - n1))
    (h : ∀ af,zb kd κ a0 af -> Q true af) : wpS (model prog w) A E s (mergeAt' 0) Q st := by
  have sz := hB.size
  have kk := hB.keys k0
  refine wpS_bind (wpS_get ?_)
  (try dsimp -zeta only)
  have e0 : (pendingOf st)[0]? = some (0,n1,pw) := by rw [hB.pend]; rfl
  have e1 : (pendingOf st)[0 + 1]? = some (n1,a0.size - n1,q) := by rw [hB.pend]; rfl
  obtain ⟨P,eP,hP⟩ : ∃ P,((pendingOf st).setIfInBounds 0 (0,n1 + (a0.size - n1),pw)).eraseIdxIfInBounds (0 + 1) = P /\ P.size = 1 := ⟨_,rfl,by rw [hB.pend]; simp [Array.eraseIdxIfInBounds]⟩
  show wpS (model prog w) A E s (match ((pendingOf st)[0]?,(pendingOf st)[0 + 1]?) with | _ => _) Q st
  rw [e0,e1]
  (try dsimp -zeta only)
  refine wpS_bind ?_
  show wpS (model prog w) A E s (set (SortSt.mk' (kindOf st) (arrOf st) (((pendingOf st).setIfInBounds 0 (0,n1 + (a0.size - n1),pw)).eraseIdxIfInBounds (0 + 1)) (gallopOf st) (failedOf st))) _ st
  rw [eP]
  unfold wpS
  rw [StateT.run_set]
  refine wpAny_pure ⟨rfl,?_⟩
  show wpS (model prog w) A E s _ Q (SortSt.mk' (kindOf st) (arrOf st) P (gallopOf st) (failedOf st))
  obtain ⟨xb,eb,mb⟩ := dz (arr := arrOf st) (i := n1) (by omega)
  refine wpS_bind (cH eb ?_)
  refine wpS_bind (wa C (arr := arrOf st) (key := xb) hB.kind (kk _ mb) kk (by omega) (by omega) (fun i j bE hj => s1 i j bE hj) fun k k1 k2 k3 => ?_)
  simp only [Nat.zero_add] at k2 k3
  (try dsimp -zeta only)
  have up : ∀ i j,n1 <= i -> i <= j -> j < a0.size -> κ.kle (kA κ (arrOf st) i) (kA κ (arrOf st) j) := fun i j z1 z2 z3 => by
    have := s2 (i - n1) (j - n1) (by omega) (by omega)
    rwa [show n1 + (i - n1) = i by omega,show n1 + (j - n1) = j by omega] at this
  have dn : ∀ i j,i <= j -> j < n1 -> κ.kle (kA κ (arrOf st) i) (kA κ (arrOf st) j) := fun i j z1 z2 => by
    have := s1 i j z1 z2
    rwa [Nat.zero_add,Nat.zero_add] at this
  by_cases hz : (n1 - k == 0) = true
  · rw [if_pos hz]
    have cG := beq_iff_eq.mp hz
    refine wpS_pure (h _ ⟨hB.perm,hB.fail,hP,E3 s1 s2 fun i j z1 z2 z3 => ?_⟩)
    have := k2 i (by omega)
    rw [<- bx (κ := κ) eb] at this
    exact KeyOrd.kle_trans this (up n1 j (Nat.le_refl _) z2 z3)
  rw [if_neg hz]
  have cG : n1 - k ≠ 0 := fun z => hz (beq_iff_eq.mpr z)
  obtain ⟨xa,ea,ma⟩ := dz (arr := arrOf st) (i := 0 + k + (n1 - k) - 1) (by omega)
  refine wpS_bind (cH ea ?_)
  rw [show 0 + k + (n1 - k) - 1 = n1 - 1 by omega] at ea
  refine wpS_bind (wJ C (arr := arrOf st) (key := xa) hB.kind (kk _ ma) kk (by omega) (by omega) (fun i j bE hj => s2 i j bE hj) fun l l1 l2 l3 => ?_)
  (try dsimp -zeta only)
  by_cases hy : (l == 0) = true
  · rw [if_pos hy]
    have cF := beq_iff_eq.mp hy
    refine wpS_pure (h _ ⟨hB.perm,hB.fail,hP,E3 s1 s2 fun i j z1 z2 z3 => ?_⟩)
    have := l3 (j - n1) (by omega) (by omega)
    rw [<- bx (κ := κ) ea,show n1 + (j - n1) = j by omega] at this
    exact KeyOrd.kle_trans (dn i (n1 - 1) (by omega) (by omega)) this
  rw [if_neg hy]
  have cF : l ≠ 0 := fun z => hy (beq_iff_eq.mpr z)
  (extract_lets +onlyGivenNames -merge -underBinder Rv Rw; subst Rv Rw)
  extract_lets +onlyGivenNames -merge -underBinder yh
  obtain ⟨jp,dU⟩ : ∃ z,z = yh := ⟨yh,rfl⟩
  rw [<- dU]
  unfold yh at dU
  rw [Nat.zero_add] at dU ⊢
  have sA : dm κ ((arrOf st).extract k n1).toList := sL (fun a b z1 z2 z3 => dn a b z2 z3) (by omega)
  have sB : dm κ ((arrOf st).extract n1 (n1 + l)).toList := sL (fun a b z1 z2 z3 => up a b z1 z2 (by omega)) (by omega)
  have JQ : Kd κ ((arrOf st).extract k n1).toList := fun x hx => by
    obtain ⟨j,_,_,e⟩ := nr hx
    exact kk x (by have := List.mem_of_getElem? (by rw [Array.getElem?_toList]; exact e : (arrOf st).toList[j]? = some x); exact this)
  have JR : Kd κ ((arrOf st).extract n1 (n1 + l)).toList := fun x hx => by
    obtain ⟨j,_,_,e⟩ := nr hx
    exact kk x (by have := List.mem_of_getElem? (by rw [Array.getElem?_toList]; exact e : (arrOf st).toList[j]? = some x); exact this)
  have zA : ((arrOf st).extract k n1).size = n1 - k := by rw [Array.size_extract]; omega
  have zB : ((arrOf st).extract n1 (n1 + l)).size = l := by rw [Array.size_extract]; omega
  have gA : ∀ i,i < n1 - k -> ((arrOf st).extract k n1)[i]? = (arrOf st)[k + i]? := fun i hi => by rw [Array.getElem?_extract,if_pos (by omega)]
  have gB : ∀ i,i < l -> ((arrOf st).extract n1 (n1 + l))[i]? = (arrOf st)[n1 + i]? := fun i hi => by rw [Array.getElem?_extract,if_pos (by omega)]
  have first : ∀ x y,((arrOf st).extract n1 (n1 + l))[0]? = some x -> ((arrOf st).extract k n1)[0]? = some y -> κ.kle (kf κ x) (kf κ y) := fun x y ex ey => by
    rw [gB 0 (by omega)] at ex
    rw [gA 0 (by omega)] at ey
    have := k3 k (Nat.le_refl _) (by omega)
    rw [<- bx (κ := κ) eb] at this
    rw [<- bx (κ := κ) ex,<- bx (κ := κ) ey]
    exact KeyOrd.kle_of_klt this
  have last : ∀ x ∈ ((arrOf st).extract n1 (n1 + l)).toList,∀ y,((arrOf st).extract k n1)[((arrOf st).extract k n1).size - 1]? = some y -> κ.kle (kf κ x) (kf κ y) := fun x hx y ey => by
    obtain ⟨j,j1,j2,e⟩ := nr hx
    rw [zA,gA _ (by omega),show k + (n1 - k - 1) = n1 - 1 by omega,ea] at ey
    cases ey
    have := l2 (j - n1) (by omega)
    rw [show n1 + (j - n1) = j by omega,bx e] at this
    exact KeyOrd.kle_of_klt this
  suffices J : ∀ (m : Array Keyed) g,Gd κ ((arrOf st).extract k n1).toList ((arrOf st).extract n1 (n1 + l)).toList m.toList -> wpS (model prog w) A E s (jp m) Q (de (SortSt.mk' (kindOf st) (arrOf st) P (gallopOf st) (failedOf st)) g) by
    split
    · exact wpS_bind (PL C (a := (arrOf st).extract k n1) (b := (arrOf st).extract n1 (n1 + l)) hB.kind JQ JR sA sB (by rw [zA]; omega) (by rw [zB]; omega) first last J)
    · exact wpS_bind (P2 C (a := (arrOf st).extract k n1) (b := (arrOf st).extract n1 (n1 + l)) hB.kind JQ JR sA sB (by rw [zA]; omega) (by rw [zB]; omega) first last J)
  intro m g gd
  rw [dU]
  (try dsimp -zeta only)
  have lm : m.toList.length = (n1 - k) + l := by
    rw [gd.1.length_eq,List.length_append,Array.length_toList,Array.length_toList,zA,zB]
  have eL := D5 k m.toList 0 (arrOf st) (by omega)
  rw [Nat.add_zero,lm,show k + (n1 - k + l) = n1 + l by omega] at eL
  refine wpS_bind (wpS_modify (wpS_bind (wpS_get ?_)))
  have fin : ∀ xs : Array Keyed,xs.toList = (arrOf st).toList.take k ++ m.toList ++ (arrOf st).toList.drop (n1 + l) -> xs.Perm a0 /\ ∀ i j,i <= j -> j < a0.size -> κ.kle (kA κ xs i) (kA κ xs j) := fun xs ex => by
    have hp : xs.toList.Perm (arrOf st).toList := by
      rw [ex]
      have e1 : (arrOf st).toList = (arrOf st).toList.take k ++ (((arrOf st).extract k n1).toList ++ ((arrOf st).extract n1 (n1 + l)).toList) ++ (arrOf st).toList.drop (n1 + l) := by
        rw [nI,nI]
        have t1 : (arrOf st).toList.take k ++ ((arrOf st).toList.take n1).drop k = (arrOf st).toList.take n1 := by
          have := List.take_append_drop k ((arrOf st).toList.take n1)
          rwa [List.take_take,Nat.min_eq_left (by omega)] at this
        have t2 : (arrOf st).toList.take n1 ++ ((arrOf st).toList.take (n1 + l)).drop n1 = (arrOf st).toList.take (n1 + l) := by
          have := List.take_append_drop n1 ((arrOf st).toList.take (n1 + l))
          rwa [List.take_take,Nat.min_eq_left (by omega)] at this
        rw [<- List.append_assoc,t1,t2,List.take_append_drop]
      exact (List.Perm.append_right _ (List.Perm.append_left _ gd.1)).trans (by rw [<- e1])
    refine ⟨(Array.perm_iff_toList_perm.mpr hp).trans hB.perm,fun i j bE hj => ?_⟩
    have hs : dm κ xs.toList := by
      rw [ex]
      have mm : ∀ x ∈ m.toList,(∃ j,k <= j /\ j < n1 /\ (arrOf st)[j]? = some x) \/ (∃ j,n1 <= j /\ j < n1 + l /\ (arrOf st)[j]? = some x) := fun x hx => by
        rcases List.mem_append.mp (gd.1.mem_iff.mp hx) with z | z
        · exact .inl (nr z)
        · exact .inr (nr z)
      have mT : ∀ x ∈ (arrOf st).toList.take k,∃ j,j < k /\ (arrOf st)[j]? = some x := fun x hx => kI hx
      have mD : ∀ x ∈ (arrOf st).toList.drop (n1 + l),∃ j,n1 + l <= j /\ j < a0.size /\ (arrOf st)[j]? = some x := fun x hx => by
        rw [<- nq] at hx
        obtain ⟨j,j1,j2,e⟩ := nr hx
        exact ⟨j,j1,by omega,e⟩
      refine cA.mpr ⟨cA.mpr ⟨?_,gd.2,fun x hx y hy => ?_⟩,?_,fun x hx y hy => ?_⟩
      · rw [<- qa]
        exact sL (fun a b z1 z2 z3 => dn a b z2 (by omega)) (by omega)
      · obtain ⟨i,i1,ei⟩ := mT x hx
        rw [<- bx (κ := κ) ei]
        rcases mm y hy with ⟨j,j1,j2,ej⟩ | ⟨j,j1,j2,ej⟩
        · rw [<- bx (κ := κ) ej]
          exact dn i j (by omega) j2
        · rw [<- bx (κ := κ) ej]
          have := k2 i i1
          rw [<- bx (κ := κ) eb] at this
          exact KeyOrd.kle_trans this (up n1 j (Nat.le_refl _) j1 (by omega))
      · rw [<- nq]
        exact sL (fun a b z1 z2 z3 => up a b (by omega) z2 (by omega)) (Nat.le_refl _)
      · obtain ⟨j,j1,j2,ej⟩ := mD y hy
        rw [<- bx (κ := κ) ej]
        have tail : ∀ i,i < n1 -> κ.kle (kA κ (arrOf st) i) (kA κ (arrOf st) j) := fun i hi => by
          have := l3 (j - n1) (by omega) (by omega)
          rw [<- bx (κ := κ) ea,show n1 + (j - n1) = j by omega] at this
          exact KeyOrd.kle_trans (dn i (n1 - 1) (by omega) (by omega)) this
        rcases List.mem_append.mp hx with z | z
        · obtain ⟨i,i1,ei⟩ := mT x z
          rw [<- bx (κ := κ) ei]
          exact tail i (by omega)
        · rcases mm x z with ⟨i,i1,i2,ei⟩ | ⟨i,i1,i2,ei⟩
          · rw [<- bx (κ := κ) ei]
            exact tail i i2
          · rw [<- bx (κ := κ) ei]
            exact up i j i1 (by omega) j2
    refine jJ hs bE ?_
    rw [<- Array.length_toList,hp.length_eq,Array.length_toList]; omega
  obtain ⟨f1,f2⟩ := fin _ eL
  have := wpS_pure (M := model prog w) (A := A) (E := E) (s := s) (a := true) (Q := Q) (h (SortSt.mk' (kindOf st) ((m.toList.zipIdx 0).foldl (fun a x => a.setIfInBounds (k + x.2) x.1) (arrOf st)) P g (failedOf st)) ⟨f1,hB.fail,hP,f2⟩)
  show wpS (model prog w) A E s (pure (failedOf st).isNone) Q _
  have e : (failedOf st).isNone = true := by rw [hB.fail]; rfl
  rw [e]
  exact this
end
end So
namespace So
open PySem PyProof.Rows
theorem Qm {n : Nat} (h2 : 2 <= n) (h : n < 128) : n <= 2 * minRun' n n 0 /\ minRun' n n 0 <= n := by
  obtain ⟨f,rfl⟩ : ∃ f,n = f + 2 := ⟨n - 2,by omega⟩
  have e : minRun' (f + 2) (f + 2) 0 = if f + 2 < 64 then f + 2 + 0 else if (f + 2) / 2 < 64 then (f + 2) / 2 + max 0 ((f + 2) % 2) else minRun' f ((f + 2) / 2 / 2) (max (max 0 ((f + 2) % 2)) ((f + 2) / 2 % 2)) := by
    rw [minRun'_succ,minRun'_succ]
  rw [e]
  split
  · omega
  · rw [if_pos (by omega)]; omega
section
variable {prog : Program} {w : World} {A : Around} {E : Value -> Shared -> Prop} {s : Shared} {kd : SortKind} {κ : KeyKind} {a0 : Array Keyed}
theorem Oz (C : gh prog w A E s kd κ) (k0 : Kd κ a0.toList) {st : SortSt} (hB : SB kd a0 #[] 0 a0 st) {Q : Unit -> SortSt -> Prop} (h2 : 2 <= a0.size) (Ij : a0.size < 128)
    (h : ∀ af,(arrOf af).Perm a0 -> failedOf af = none -> (∀ i j,i <= j -> j < a0.size -> κ.kle (kA κ (arrOf af) i) (kA κ (arrOf af) j)) -> Q () af) : wpS (model prog w) A E s sortRuns' Q st := by
  obtain ⟨m1,m2⟩ := Qm h2 Ij
  refine wpS_bind (wpS_get ?_)
  show wpS (model prog w) A E s (have size := (arrOf st).size; have aac := minRun' size size 0; _) Q st
  rw [hB.size]
  (with_reducible conv => arg 5; whnf)
  obtain ⟨mr,JS⟩ : ∃ mr,minRun' a0.size a0.size 0 = mr := ⟨_,rfl⟩
  rw [JS] at m1 m2
  rw [show (sortPriv% PySem.Builtin.minRun) a0.size a0.size 0 = mr from JS]
  refine wpS_bind (wpS_mono (wpS_forRange (I := fun t c af => (t = 0 /\ c = (none,0) /\ SB kd a0 #[] 0 a0 af) \/
      (t = 1 /\ ∃ n1,c = (none,n1) /\ 1 <= n1 /\ n1 <= a0.size /\ mr <= n1 /\ SB kd a0 #[(0,n1,0)] 0 a0 af /\ SS κ (arrOf af) 0 n1) \/
      (2 <= t /\ ∃ n1 pw,c = (none,a0.size) /\ 1 <= n1 /\ n1 < a0.size /\ SB kd a0 #[(0,n1,pw),(n1,a0.size - n1,0)] 0 a0 af /\ SS κ (arrOf af) 0 n1 /\ SS κ (arrOf af) n1 (a0.size - n1)))
    (Q := fun c af => c.1 = none /\ ((SB kd a0 #[(0,a0.size,0)] 0 a0 af /\ SS κ (arrOf af) 0 a0.size) \/ ∃ n1 pw,1 <= n1 /\ n1 < a0.size /\ SB kd a0 #[(0,n1,pw),(n1,a0.size - n1,0)] 0 a0 af /\ SS κ (arrOf af) 0 n1 /\ SS κ (arrOf af) n1 (a0.size - n1))) ?_ ?_ (.inl ⟨rfl,rfl,hB⟩)) ?_)
  · rintro t c af _ ht (⟨rfl,rfl,hB⟩ | ⟨rfl,n1,rfl,b1,b2,b3,hB,s1⟩ | ⟨t2,n1,pw,rfl,b1,b2,hB,s1,s2⟩)
    · (with_reducible conv => arg 5; whnf)
      rw [if_neg (by show ¬ 0 >= a0.size; omega)]
      refine wpS_bind (FX C k0 hB (by show 1 <= a0.size - 0; omega) (by show 0 + (a0.size - 0) <= a0.size; omega) fun m aA ie r1 r2 hs => ?_)
      (try dsimp -zeta only)
      (rw [show m = id m from rfl]; extract_lets +onlyGivenNames -merge -underBinder S9; subst S9; (try dsimp -zeta only [id]))
      extract_lets +onlyGivenNames -merge -underBinder Hr
      obtain ⟨jp,dU⟩ : ∃ z,z = Hr := ⟨Hr,rfl⟩
      rw [<- dU]
      suffices J : ∀ n aA,SB kd a0 #[] 0 a0 aA -> 1 <= n -> n <= a0.size -> mr <= n -> SS κ (arrOf aA) 0 n -> wpS (model prog w) A E s (jp () n) _ aA by
        by_cases aS : m < mr
        · rw [if_pos aS]
          refine wpS_bind (wpS_lift (wpAny_rule ⟨rfl,?_⟩))
          (with_reducible conv => arg 5; whnf)
          rw [show min (a0.size - 0) mr = mr by omega]
          refine wpS_bind (Ge C k0 ie (by omega) (by omega) hs fun dk Ag gf => ?_)
          rw [if_neg (by decide)]
          (with_reducible conv => arg 5; whnf)
          exact J _ _ Ag (by omega) m2 (Nat.le_refl _) gf
        · rw [if_neg aS]
          have Yb : m <= a0.size - 0 := r2
          exact J _ _ ie r1 (by omega) (by omega) hs
      clear hB ie hs
      intro n aA hB r1 r2 r3 hs
      rw [dU]
      (try dsimp -zeta only)
      refine wpS_bind (wpS_get ?_)
      skip
      extract_lets +onlyGivenNames -merge -underBinder Hs
      obtain ⟨rH,gR⟩ : ∃ z,z = Hs := ⟨Hs,rfl⟩
      rw [<- gR]
      show wpS (model prog w) A E s (match (pendingOf aA).back? with | _ => _) _ aA
      rw [show (pendingOf aA).back? = none by rw [hB.pend]; rfl]
      (try dsimp -zeta only)
      rw [gR]
      (try dsimp -zeta only)
      refine wpS_bind (wpS_modify ?_)
      (with_reducible conv => arg 5; whnf)
      refine wpS_pure (.inr (.inl ⟨rfl,n,by show (none,0 + n) = (none,n); rw [Nat.zero_add],r1,r2,r3,⟨hB.perm,hB.kind,hB.fail,?_,hB.low⟩,hs⟩))
      show (pendingOf aA).push _ = _
      rw [hB.pend]; rfl
    · (with_reducible conv => arg 5; whnf)
      by_cases full : n1 >= a0.size
      · rw [if_pos (by exact full)]
        have : n1 = a0.size := by omega
        subst this
        exact wpS_pure ⟨rfl,.inl ⟨hB,s1⟩⟩
      rw [if_neg (by exact full)]
      have Yc : SB kd a0 #[(0,n1,0)] n1 (arrOf af) af := ⟨hB.perm,hB.kind,hB.fail,hB.pend,fun _ _ => rfl⟩
      refine wpS_bind (FX C k0 Yc (by show 1 <= a0.size - n1; omega) (by show n1 + (a0.size - n1) <= a0.size; omega) fun m aA ie r1 r2 hs => ?_)
      have Yb : m <= a0.size - n1 := r2
      (try dsimp -zeta only)
      (rw [show m = id m from rfl]; extract_lets +onlyGivenNames -merge -underBinder Ta; subst Ta; (try dsimp -zeta only [id]))
      extract_lets +onlyGivenNames -merge -underBinder Ht
      obtain ⟨jp,dU⟩ : ∃ z,z = Ht := ⟨Ht,rfl⟩
      rw [<- dU]
      suffices J : ∀ aA,SB kd a0 #[(0,n1,0)] n1 (arrOf af) aA -> SS κ (arrOf aA) n1 (a0.size - n1) -> wpS (model prog w) A E s (jp () (a0.size - n1)) _ aA by
        by_cases aS : m < mr
        · rw [if_pos aS]
          refine wpS_bind (wpS_lift (wpAny_rule ⟨rfl,?_⟩))
          (with_reducible conv => arg 5; whnf)
          rw [show min (a0.size - n1) mr = a0.size - n1 by omega]
          refine wpS_bind (Ge C k0 ie (by omega) (by omega) hs fun dk Ag gf => ?_)
          rw [if_neg (by decide)]
          (with_reducible conv => arg 5; whnf)
          exact J _ Ag gf
        · rw [if_neg aS]
          have : m = a0.size - n1 := by omega
          subst this
          exact J _ ie hs
      clear hB ie hs
      intro aA hB hs
      have rJ : SS κ (arrOf aA) 0 n1 := fun i j bE hj => by
        have := s1 i j bE hj
        rwa [kq (κ := κ) (hB.low (0 + i) (by omega)),kq (κ := κ) (hB.low (0 + j) (by omega))]
      rw [dU]
      (try dsimp -zeta only)
      refine wpS_bind (wpS_get ?_)
      skip
      extract_lets +onlyGivenNames -merge -underBinder Gf
      obtain ⟨rH,gR⟩ : ∃ z,z = Gf := ⟨Gf,rfl⟩
      rw [<- gR]
      show wpS (model prog w) A E s (match (pendingOf aA).back? with | _ => _) _ aA
      rw [show (pendingOf aA).back? = some (0,n1,0) by rw [hB.pend]; rfl]
      (try dsimp -zeta only)
      (with_reducible conv => arg 5; whnf)
      generalize (sortPriv% PySem.Builtin.power) a0.size (2 * 0 + n1) (2 * 0 + n1 + n1 + (a0.size - n1)) a0.size = pw
      refine wpS_bind (wpS_mono (wpS_forRange (I := fun t c af => af = aA /\ c = (none,())) (Q := fun c af => af = aA /\ c = (none,())) ?_ (fun c af z => z) ⟨rfl,rfl⟩) ?_)
      · rintro t c dk _ _ ⟨rfl,rfl⟩
        refine wpS_bind (wpS_get ?_)
        show wpS (model prog w) A E s (match if (pendingOf dk).size > 1 then (pendingOf dk)[(pendingOf dk).size - 2]? else none with | _ => _) _ dk
        rw [if_neg (by rw [hB.pend]; show ¬ 1 > 1; omega)]
        exact wpS_pure ⟨rfl,rfl⟩
      · rintro c dk ⟨rfl,rfl⟩
        (with_reducible conv => arg 5; whnf)
        (try dsimp -zeta only)
        refine wpS_bind (wpS_modify ?_)
        rw [gR]
        (try dsimp -zeta only)
        refine wpS_bind (wpS_modify ?_)
        (with_reducible conv => arg 5; whnf)
        refine wpS_pure (.inr (.inr ⟨Nat.le_refl _,n1,pw,by show (none,n1 + (a0.size - n1)) = (none,a0.size); rw [show n1 + (a0.size - n1) = a0.size by omega],b1,by omega,⟨hB.perm,hB.kind,hB.fail,?_,fun i hi => by omega⟩,rJ,hs⟩))
        show ((pendingOf dk).modify ((pendingOf dk).size - 1) _).push _ = _
        rw [hB.pend]; rfl
    · (with_reducible conv => arg 5; whnf)
      rw [if_pos (by show a0.size >= a0.size; exact Nat.le_refl _)]
      exact wpS_pure ⟨rfl,.inr ⟨n1,pw,b1,b2,hB,s1,s2⟩⟩
  · rintro c af (⟨z,_⟩ | ⟨z,_⟩ | ⟨t2,n1,pw,rfl,b1,b2,hB,s1,s2⟩)
    · omega
    · omega
    · exact ⟨rfl,.inr ⟨n1,pw,b1,b2,hB,s1,s2⟩⟩
  · rintro c af ⟨e,ur⟩
    obtain ⟨c1,c2⟩ := c
    simp only at e
    subst e
    (with_reducible conv => arg 5; whnf)
    (try dsimp -zeta only)
    refine wpS_bind (wpS_mono (wpS_forRange (I := fun t c aA => c = (none,()) /\ ((t = 0 /\ aA = af) \/ (zb kd κ a0 aA)))
      (Q := fun c aA => c = (none,()) /\ zb kd κ a0 aA) ?_ ?_ ⟨rfl,.inl ⟨rfl,rfl⟩⟩) ?_)
    · rintro t c aA _ ht ⟨rfl,z⟩
      (try dsimp -zeta only)
      refine wpS_bind (wpS_get ?_)
      show wpS (model prog w) A E s (have p := pendingOf aA; _) _ aA
      rcases z with ⟨rfl,rfl⟩ | f
      · rcases ur with ⟨hB,hs⟩ | ⟨n1,pw,b1,b2,hB,s1,s2⟩
        · have hp1 : (pendingOf aA).size = 1 := by rw [hB.pend]; rfl
          (with_reducible conv => arg 5; whnf)
          rw [if_pos (by show (pendingOf aA).size <= 1; omega)]
          exact wpS_pure ⟨rfl,⟨hB.perm,hB.fail,by rw [hB.pend]; rfl,fun i j bE hj => by have := hs i j bE hj; rwa [Nat.zero_add,Nat.zero_add] at this⟩⟩
        · have Ac : (pendingOf aA).size = 2 := by rw [hB.pend]; rfl
          (with_reducible conv => arg 5; whnf)
          rw [if_neg (by show ¬ (pendingOf aA).size <= 1; omega)]
          (with_reducible conv => arg 5; whnf)
          refine wpS_bind ?_
          show wpS (model prog w) A E s (mergeAt' (if Option.any _ (if (pendingOf aA).size - 2 > 0 then _ else none) = true then _ else (pendingOf aA).size - 2)) _ aA
          rw [if_neg (c := (pendingOf aA).size - 2 > 0) (by omega),if_neg (by rw [Option.any_none]; decide),Ac]
          refine Mo C k0 hB b1 b2 s1 s2 fun dk f => ?_
          rw [if_neg (by decide)]
          exact wpS_pure ⟨rfl,.inr f⟩
      · (with_reducible conv => arg 5; whnf)
        rw [if_pos (by show (pendingOf aA).size <= 1; rw [f.one]; decide)]
        exact wpS_pure ⟨rfl,f⟩
    · rintro c aA ⟨rfl,z⟩
      rcases z with ⟨z,_⟩ | f
      · omega
      · exact ⟨rfl,f⟩
    · rintro c aA ⟨rfl,f⟩
      (with_reducible conv => arg 5; whnf)
      (try dsimp -zeta only)
      exact wpS_pure (h aA f.perm f.fail f.rF)
end
end So
namespace So
open PySem PyProof.Rows
def lexLt : List Int -> List Int -> Bool
  | [],[] => false
  | [],_ :: _ => true
  | _ :: _,[] => false
  | x :: xs,y :: ys => if x = y then lexLt xs ys else decide (x < y)
theorem xn : ∀ a,lexLt a a = false
  | [] => rfl
  | x :: xs => by unfold lexLt; rw [if_pos rfl]; exact xn xs
theorem xQ : ∀ a b c,lexLt a b = true -> lexLt b c = true -> lexLt a c = true
  | [],[],_,h,_ => by cases h
  | [],_ :: _,[],_,h => by cases h
  | [],_ :: _,_ :: _,_,_ => rfl
  | _ :: _,[],_,h,_ => by cases h
  | _ :: _,_ :: _,[],_,h => by cases h
  | x :: xs,y :: ys,z :: zs,h1,h2 => by
    unfold lexLt at h1 h2 ⊢
    by_cases e1 : x = y
    · subst e1
      rw [if_pos rfl] at h1
      by_cases e2 : x = z
      · subst e2
        rw [if_pos rfl] at h2 ⊢
        exact xQ xs ys zs h1 h2
      · rw [if_neg e2] at h2 ⊢; exact h2
    · rw [if_neg e1] at h1
      have := of_decide_eq_true h1
      by_cases e2 : y = z
      · subst e2
        rw [if_neg e1]; exact h1
      · rw [if_neg e2] at h2
        have := of_decide_eq_true h2
        rw [if_neg (by omega)]
        exact decide_eq_true (by omega)
theorem xR : ∀ a b c,lexLt a c = true -> lexLt a b = true \/ lexLt b c = true
  | [],[],c,h => .inr h
  | [],_ :: _,_,_ => .inl rfl
  | _ :: _,_,[],h => by cases h
  | _ :: _,[],_ :: _,_ => .inr rfl
  | x :: xs,y :: ys,z :: zs,h => by
    unfold lexLt at h ⊢
    by_cases e1 : x = y
    · subst e1
      rw [if_pos rfl]
      by_cases e2 : x = z
      · subst e2
        rw [if_pos rfl] at h ⊢
        exact xR xs ys zs h
      · rw [if_neg e2] at h ⊢; exact .inr h
    · rw [if_neg e1]
      by_cases e2 : x = z
      · subst e2
        rw [if_neg (fun z => e1 z.symm)]
        rcases Int.lt_or_le x y with q | q
        · exact .inl (decide_eq_true q)
        · exact .inr (decide_eq_true (by omega))
      · rw [if_neg e2] at h
        have := of_decide_eq_true h
        rcases Int.lt_or_le x y with q | q
        · exact .inl (decide_eq_true q)
        · refine .inr ?_
          rw [if_neg (by omega)]
          exact decide_eq_true (by omega)
theorem xo : ∀ a b,lexLt a b = false -> lexLt b a = false -> a = b
  | [],[],_,_ => rfl
  | [],_ :: _,h,_ => by cases h
  | _ :: _,[],_,h => by cases h
  | x :: xs,y :: ys,h1,h2 => by
    unfold lexLt at h1 h2
    by_cases e1 : x = y
    · subst e1
      rw [if_pos rfl] at h1 h2
      rw [xo xs ys h1 h2]
    · rw [if_neg e1] at h1
      rw [if_neg (fun z => e1 z.symm)] at h2
      have := of_decide_eq_false h1
      have := of_decide_eq_false h2
      omega
def intsOf : List Value -> Option (List Int)
  | [] => some []
  | .int n _ :: r => (intsOf r).map (n :: ·)
  | _ :: _ => none
def dX (h : Heap) : Value -> Option (List Int)
  | .ref t => match h.get? t with
    | some ⟨.type "tuple",_,.seq vs _,_⟩ => intsOf vs.toList
    | _ => none
  | _ => none
def ig (h : Heap) : KeyKind := { α := List Int,blt := lexLt,irrefl := xn,trans := xQ,negTrans := xR,total := xo,keyOf := dX h,dflt := [] }
theorem ints_of {vs : List Value} {ns : List Int} (h : IntsAre vs ns) : intsOf vs = some ns := by
  induction h with
  | nil => rfl
  | cons n t _ ih => show (intsOf _).map _ = _; rw [ih]; rfl
theorem E4 : ∀ {vs : List Value} {ns : List Int},intsOf vs = some ns -> IntsAre vs ns
  | [],_,h => by cases h; exact .nil
  | .int n t :: r,_,h => by
    have h' : (intsOf r).map (n :: ·) = some _ := h
    cases e : intsOf r with
    | none => rw [e] at h'; cases h'
    | some ms => rw [e] at h'; cases h'; exact .cons n t (E4 e)
  | .none :: _,_,h => by cases h
  | .ellipsis :: _,_,h => by cases h
  | .notImplemented :: _,_,h => by cases h
  | .bool _ :: _,_,h => by cases h
  | .float _ _ :: _,_,h => by cases h
  | .str _ _ :: _,_,h => by cases h
  | .bytes _ _ :: _,_,h => by cases h
  | .type _ :: _,_,h => by cases h
  | .builtin _ :: _,_,h => by cases h
  | .ref _ :: _,_,h => by cases h
theorem kH {h : Heap} {t : Addr} {ws : List Value} {ns : List Int} (p : IsTup h t ws.toArray) (q : IntsAre ws ns) : dX h (.ref t) = some ns := by
  obtain ⟨⟨c,d,dt,sl⟩,ho,hc,n,hd⟩ := p
  simp only at hc hd
  subst hc hd
  show (match h.get? t with | some ⟨.type "tuple",_,.seq vs _,_⟩ => intsOf vs.toList | _ => none) = _
  rw [ho]
  exact ints_of q
theorem sU {h : Heap} {v : Value} {ns : List Int} (e : dX h v = some ns) : ∃ t ws,v = .ref t /\ IsTup h t ws.toArray /\ IntsAre ws ns := by
  unfold dX at e
  split at e
  next t =>
    split at e
    next o d vs n sl ho => exact ⟨t,vs.toList,rfl,⟨_,ho,rfl,n,by rw [Array.toArray_toList]⟩,E4 e⟩
    next => cases e
  next => cases e
section
variable {prog : Program} {w : World} {A : Around} {E : Value -> Shared -> Prop} {s : Shared}
theorem we {t : Addr} {ws : Array Value} {Q : Array Value -> Shared -> Prop} (p : IsTup s.heap t ws) (h : Q ws s) : wpAny (model prog w) A (Builtin.List.listItems (.ref t)) Q E s := by
  obtain ⟨o,ho,hc,n,hd⟩ := p
  exact listItems_at ho hd h
theorem Qn {a b : Int} {t u : Tok} {Q : Bool -> Shared -> Prop} (h : Q (decide (a < b)) s) : wpAny (model prog w) A (oneLt' false (.int a t) (.int b u)) Q E s := by
  rw [oneLt'_eq]
  simp only [Bool.false_eq_true,if_false]
  refine wpAny_bind ?_
  exact wpAny_lt_int (wpAny_truthy_bool h)
theorem Qo {a b : Int} {t u : Tok} {c : Bool} {Q : Bool -> Shared -> Prop} (h : Q (decide (a < b)) s) : wpAny (model prog w) A (oneLt' c (.int a t) (.int b u)) Q E s := by
  cases c with
  | true => exact oneLt_int h
  | false => exact Qn h
theorem E5 {g : ((Value × Value) × Nat) -> (Option Bool × Unit) -> Sem (ForInStep (Option Bool × Unit))}
    (hg : ∀ (m n : Int) (t t' : Tok) (i : Nat) (Q : ForInStep (Option Bool × Unit) -> Shared -> Prop),(m ≠ n -> Q (.done (some (decide (m < n)),())) s) -> (m = n -> Q (.yield (none,())) s) -> wpAny (model prog w) A (g ((.int m t,.int n t'),i) (none,())) Q E s) :
    ∀ {us vs : List Value} {ms ns : List Int},IntsAre us ms -> IntsAre vs ns -> ∀ (k : Nat) (Q : Option Bool × Unit -> Shared -> Prop),(lexLt ms ns = decide (us.length < vs.length) -> Q (none,()) s) -> Q (some (lexLt ms ns),()) s ->
      wpAny (model prog w) A (forIn ((us.zip vs).zipIdx k) ((none,()) : Option Bool × Unit) g) Q E s
  | [],[],_,_,.nil,.nil,k,Q,h,_ => wpAny_pure (h rfl)
  | [],_ :: _,_,_,.nil,.cons n t hr,k,Q,h,_ => wpAny_pure (h (by rw [decide_eq_true (by simp)]; rfl))
  | _ :: _,[],_,_,.cons n t hr,.nil,k,Q,h,_ => wpAny_pure (h (by rw [decide_eq_false (by simp)]; rfl))
  | _ :: us,_ :: vs,_,_,.cons m t hu,.cons n t' hv,k,Q,h,h2 => by
    rw [List.zip_cons_cons,List.zipIdx_cons,List.forIn_cons]
    unfold lexLt at h h2
    refine wpAny_bind (hg m n t t' k _ (fun e => ?_) (fun e => ?_))
    · rw [if_neg e] at h2
      exact wpAny_pure h2
    · rw [if_pos e] at h h2
      exact E5 hg hu hv (k + 1) Q (fun z => h (by rw [z]; simp)) h2
theorem OA : gh prog w A E s (tuples' true) (ig s.heap) where
  lt st x y Q hk k1 k2 h := by
    obtain ⟨ms,e1⟩ := Option.isSome_iff_exists.mp k1
    obtain ⟨ns,e2⟩ := Option.isSome_iff_exists.mp k2
    have f1 : kf (ig s.heap) x = ms := by unfold kf; rw [e1]; rfl
    have f2 : kf (ig s.heap) y = ns := by unfold kf; rw [e2]; rfl
    rw [f1,f2] at h
    obtain ⟨t,us,ex,px,ix⟩ := sU e1
    obtain ⟨t',vs,ey,py,iy⟩ := sU e2
    rw [lt'_eq]
    refine wpS_bind (wpS_get ?_)
    rw [hk,ex,ey]
    refine wpS_bind (wpS_lift (wpAny_attempt ?_))
    refine wpAny_bind (we px (wpAny_bind (we py ?_)))
    refine wpAny_bind (E5 (fun m n t t' i Q q1 q2 => ?_) ix iy 0 _ (fun e => ?_) ?_)
    · refine wpAny_bind (wpAny_eqBool_int ?_)
      by_cases e : m = n
      · rw [show (m == n) = true by simpa using e]
        exact wpAny_pure (q2 e)
      · rw [show (m == n) = false by simpa using e]
        exact wpAny_bind (Qo (wpAny_pure (q1 e)))
    · show wpAny _ _ (pure (decide (us.toArray.size < vs.toArray.size))) _ _ _
      refine wpAny_pure ⟨rfl,wpS_pure ?_⟩
      rw [List.size_toArray,List.size_toArray,<- e]
      exact h
    · exact wpAny_pure ⟨rfl,wpS_pure h⟩
theorem Gg : ∀ {vs : List Value},(∀ v ∈ vs,∃ n ns,dX s.heap v = some (n :: ns)) -> ∀ Q : List (Option Value) -> Shared -> Prop,(∀ fs : List (Int × Tok),fs.length = vs.length -> Q (fs.map fun p => some (.int p.1 p.2)) s) ->
    wpAny (model prog w) A (vs.mapM firstOfTuple') Q E s
  | [],_,Q,h => by rw [List.mapM_nil]; exact wpAny_pure (h [] rfl)
  | v :: vs,hv,Q,h => by
    obtain ⟨n,ns,e⟩ := hv v (.head _)
    obtain ⟨t,ws,rfl,pt,it⟩ := sU e
    cases it with
    | cons _ tk it =>
      rw [List.mapM_cons]
      refine wpAny_bind ?_
      obtain ⟨o,ho,hc,m,hd⟩ := id pt
      refine wpAny_bind (wpAny_typeOf (T := "tuple") ⟨o,ho,hc⟩ ?_)
      rw [if_neg (by decide)]
      refine wpAny_bind (we pt (wpAny_pure ?_))
      refine wpAny_bind (Gg (fun v rD => hv v (.tail _ rD)) _ fun fs hf => wpAny_pure ?_)
      exact h ((n,tk) :: fs) (by rw [List.length_cons,List.length_cons,hf])
theorem Dy : ∀ (fs : List (Int × Tok)),(fs.map fun p => Value.int p.1 p.2).mapM typeOf = pure (fs.map fun _ => Value.type "int")
  | [] => by simp
  | p :: fs => by
    rw [List.map_cons,List.mapM_cons,Dy fs]
    show (pure (Value.type "int") >>= fun b => pure _ >>= fun bs => pure (b :: bs)) = _
    simp
theorem Nx {vs : List Value} {Q : SortKind -> Shared -> Prop} (hv : ∀ v ∈ vs,∃ n ns,dX s.heap v = some (n :: ns)) (ne : vs ≠ []) (h : Q (tuples' true) s) : wpAny (model prog w) A (keyKind' vs.toArray) Q E s := by
  rw [keyKind'_eq,List.mapM_toArray]
  refine wpAny_bind ?_
  rw [map_eq_pure_bind]
  refine wpAny_bind (Gg hv _ fun fs hf => wpAny_pure ?_)
  rw [if_pos (by simp)]
  refine wpAny_bind (wpAny_rule ?_)
  have e1 : ((fs.map fun p => some (Value.int p.1 p.2)).toArray.filterMap id) = (fs.map fun p => Value.int p.1 p.2).toArray := by
    simp [List.filterMap_map]
  rw [e1,oneTypeOnly'_eq,List.mapM_toArray,Dy]
  simp only [map_pure,pure_bind]
  have h0 : (fs.map fun _ => Value.type "int").toArray[0]? = some (Value.type "int") := by
    cases fs with
    | nil =>
      cases vs with
      | nil => exact absurd rfl ne
      | cons _ _ => cases hf
    | cons p fs => simp
  have kT : ((fs.map fun _ => Value.type "int").toArray.all fun x => x == Value.type "int") = true := by
    simp only [List.all_toArray,List.all_map,List.all_eq_true]
    intro _ _
    rfl
  rw [h0]
  simp only [kT,if_true,pure_bind]
  exact wpAny_pure h
end
end So
namespace So
open PySem PyProof.Rows
def oh (h : Heap) (v : Value) : List Int := (dX h v).getD []
def qJ (h : Heap) (l : List Value) : Prop := l.Pairwise fun x y => lexLt (oh h y) (oh h x) = false
section
variable {prog : Program} {w : World} {A : Around} {E : Value -> Shared -> Prop} {s : Shared}
theorem D6 {h h' : Heap} {v : Value} {ns : List Int} (e : dX h v = some ns) (k : ∀ t o,v = .ref t -> h.get? t = some o -> o.cls = .type "tuple" -> h'.get? t = some o) : dX h' v = some ns := by
  obtain ⟨t,ws,rfl,⟨o,ho,hc,n,hd⟩,it⟩ := sU e
  exact kH ⟨o,k t o rfl ho hc,hc,n,hd⟩ it
theorem mem_zip_self {α : Type} : ∀ {l : List α} {p : α × α},p ∈ l.zip l -> p.1 = p.2 /\ p.1 ∈ l
  | x :: l,p,h => by
    rw [List.zip_cons_cons] at h
    rcases List.mem_cons.mp h with rfl | z
    · exact ⟨rfl,.head _⟩
    · have := mem_zip_self z
      exact ⟨this.1,.tail _ this.2⟩
theorem E6 {α : Type} : ∀ l : List α,(l.zip l).map Prod.snd = l
  | [] => rfl
  | x :: l => by rw [List.zip_cons_cons,List.map_cons,E6 l]
theorem Dz {vs : List Value} {xs : Array Keyed} {h : Heap} (hp : xs.Perm (pairsOf vs)) (hs : ∀ i j,i <= j -> j < (pairsOf vs).size -> (ig h).kle (kA (ig h) xs i) (kA (ig h) xs j)) :
    (xs.map (·.2)).toList.Perm vs /\ qJ h (xs.map (·.2)).toList := by
  have hl : xs.toList.Perm (vs.zip vs) := by
    have := Array.perm_iff_toList_perm.mp hp
    unfold pairsOf at this
    rwa [Array.toList_zip] at this
  refine ⟨?_,?_⟩
  · rw [Array.toList_map]
    have := hl.map Prod.snd
    rwa [E6] at this
  · unfold qJ
    rw [Array.toList_map,List.pairwise_map,List.pairwise_iff_getElem]
    intro i j hi hj bE
    have j6 : j < (pairsOf vs).size := by rw [<- hp.size_eq]; rw [Array.length_toList] at hj; exact hj
    have := hs i j (by omega) j6
    have gt : ∀ c (hc : c < xs.toList.length),kA (ig h) xs c = oh h (xs.toList[c]).2 := fun c hc => by
      have e : xs[c]? = some (xs.toList[c]) := by rw [<- Array.getElem?_toList,List.getElem?_eq_getElem hc]
      rw [bx e]
      have := (mem_zip_self (hl.mem_iff.mp (List.getElem_mem hc))).1
      unfold kf oh
      rw [<- this]
      rfl
    rw [gt i hi,gt j hj] at this
    exact this
theorem Ld {a : Addr} {vs : List Value} {n : Nat} {P : Fin -> Shared -> Prop} (ho : s.heap.get? a = some (seqObj "list" vs.toArray n)) (hv : ∀ v ∈ vs,∃ n ns,dX s.heap v = some (n :: ns)) (Ij : vs.length < 128)
    (h : ∀ out : Array Value,out.toList.Perm vs -> qJ s.heap out.toList -> P (.done (.ret .none)) { s with heap := sortedHeap s.heap a vs out }) : wpAny (model prog w) A (Builtin.«list.sort» ⟨[.ref a],[]⟩) P E s := by
  rw [list_sort_plain]
  have ha : a < s.heap.objs.size := Heap.lt_size ho
  refine wpAny_bind (listItems_at ho rfl (wpAny_bind (listUpdate_at ho rfl ?_)))
  obtain ⟨e1,iN⟩ : ∃ e1,(s.heap.update a (Obj.mapSeq fun _ => #[])).get? a = some (seqObj "list" #[] e1) := ⟨_,get?_update_seq ho (fun _ => #[])⟩
  refine wpAny_bind (seqEpoch_at iN rfl (wpAny_bind (wpAny_newTuple (wpAny_bind (wpAny_newList (wpAny_holding ?_))))))
  obtain ⟨hB,eB⟩ : ∃ hB,hB = ((s.heap.update a (Obj.mapSeq fun _ => #[])).push (seqObj "tuple" vs.toArray 0)).push (seqObj "list" #[] 0) := ⟨_,rfl⟩
  have uv : hB.get? a = some (seqObj "list" #[] e1) := by
    rw [eB,Heap.get?_push_ne _ _ _ (by rw [size_push',Heap.size_update]; exact Nat.ne_of_lt (Nat.lt_succ_of_lt ha)),Heap.get?_push_ne _ _ _ (by rw [Heap.size_update]; exact Nat.ne_of_lt ha)]
    exact iN
  have keep : ∀ t o,s.heap.get? t = some o -> t ≠ a -> hB.get? t = some o := fun t o e ne => by
    have lt := Heap.lt_size e
    rw [eB,Heap.get?_push_ne _ _ _ (by rw [size_push',Heap.size_update]; exact Nat.ne_of_lt (Nat.lt_succ_of_lt lt)),Heap.get?_push_ne _ _ _ (by rw [Heap.size_update]; exact Nat.ne_of_lt lt),(Heap.SameBut.update ..).2 t ne]
    exact e
  have keys : ∀ v ns,dX s.heap v = some ns -> dX hB v = some ns := fun v ns e => D6 e fun t o _ ht hc => keep t o ht fun z => by
    rw [z,ho] at ht
    cases ht
    exact absurd (Value.type.inj hc) (by decide)
  have fin : ∀ out : Array Value,out.toList.Perm vs -> qJ hB out.toList -> P (.done (.ret .none)) { s with heap := sortedHeap s.heap a vs out } := fun out hp hs => by
    refine h out hp (hs.imp_of_mem fun {x y} hx hy z => ?_)
    obtain ⟨n1,ns1,q1⟩ := hv x (hp.mem_iff.mp hx)
    obtain ⟨n2,ns2,q2⟩ := hv y (hp.mem_iff.mp hy)
    unfold oh at z ⊢
    rw [keys _ _ q1,keys _ _ q2] at z
    rw [q1,q2]
    exact z
  have last : ∀ out : Array Value,out.size <= 1000 -> sortedHeap s.heap a vs out = hB.update a (Obj.mapSeq fun _ => out) := fun out _ => by rw [eB]; rfl
  show wpAny (model prog w) A _ P E { s with heap := ((s.heap.update a (Obj.mapSeq fun _ => #[])).push (seqObj "tuple" vs.toArray 0)).push (seqObj "list" #[] 0) }
  rw [<- eB]
  have hsz : vs.toArray.size = vs.length := by simp
  have line : sizeLine = 16777216 := sizeLine_eq
  dsimp only
  by_cases h2 : vs.toArray.size < 2
  · rw [if_pos h2,if_pos h2]
    refine wpAny_bind (wpAny_pure ?_)
    rw [StateT.run_pure]
    refine wpAny_bind (wpAny_pure ?_)
    dsimp only
    have pp : (pairsOf vs).Perm (pairsOf vs) := Array.Perm.refl _
    obtain ⟨f1,f2⟩ := Dz (h := hB) pp fun i j bE hj => by
      rw [pairsOf_size] at hj
      have : i = j := by omega
      subst this
      exact KeyOrd.kle_refl _
    have sz : ((pairsOf vs).map (·.2)).size = vs.length := by rw [Array.size_map,pairsOf_size]
    refine wpAny_bind (seqEpoch_at (s := { s with heap := hB }) uv rfl ?_)
    refine wpAny_bind (listUpdate_at (s := { s with heap := hB }) uv rfl ?_ (hsz2 := by show ((pairsOf vs).map (·.2)).size <= _; omega))
    simp only [bne_self_eq_false,Bool.false_eq_true,if_false]
    have := fin _ f1 f2
    rw [last _ (by omega)] at this
    exact wpAny_pure this
  · rw [if_neg h2,if_neg h2]
    refine wpAny_bind (Nx (s := { s with heap := hB }) (fun v rD => ?_) (fun z => by rw [z] at h2; simp at h2) ?_)
    · obtain ⟨n,ns,e⟩ := hv v rD
      exact ⟨n,ns,keys _ _ e⟩
    have k0 : Kd (ig hB) (pairsOf vs).toList := fun x hx => by
      unfold pairsOf at hx
      rw [Array.toList_zip] at hx
      obtain ⟨n,ns,e⟩ := hv x.1 (mem_zip_self hx).2
      show (dX hB x.1).isSome = true
      rw [keys _ _ e]; rfl
    have run := Oz (prog := prog) (w := w) (A := A) (E := E) (s := { s with heap := hB }) (a0 := pairsOf vs) OA k0 (st := SortSt.mk' (tuples' true) (pairsOf vs) #[] 7 none) ⟨Array.Perm.refl _,rfl,rfl,rfl,fun _ z => absurd z (Nat.not_lt_zero _)⟩
      (Q := fun _ af => (arrOf af).Perm (pairsOf vs) /\ failedOf af = none /\ ∀ i j,i <= j -> j < (pairsOf vs).size -> (ig hB).kle (kA (ig hB) (arrOf af) i) (kA (ig hB) (arrOf af) j)) (by rw [pairsOf_size]; omega) (by rw [pairsOf_size]; omega) fun af p1 p2 p3 => ⟨p1,p2,p3⟩
    refine wpAny_bind (wpAny_mono run ?_ fun _ _ e => e)
    rintro ⟨⟨⟩,af⟩ s' ⟨rfl,hp,hf,hs⟩
    dsimp only
    obtain ⟨f1,f2⟩ := Dz hp hs
    have sz : ((arrOf af).map (·.2)).size = vs.length := by rw [Array.size_map,hp.size_eq,pairsOf_size]
    refine wpAny_bind (seqEpoch_at (s := { s with heap := hB }) uv rfl ?_)
    refine wpAny_bind (listUpdate_at (s := { s with heap := hB }) uv rfl ?_ (hsz2 := by show ((arrOf af).map (·.2)).size <= _; omega))
    rw [hf]
    simp only [bne_self_eq_false,Bool.false_eq_true,if_false]
    have := fin _ f1 f2
    rw [last _ (by show ((arrOf af).map (·.2)).size <= 1000; omega)] at this
    exact wpAny_pure this
end
end So
namespace So
open PySem PyProof.Rows
def fQ (h : Heap) (d : Addr) (ks : List Addr) (ep : Nat) : Prop := ∃ o es,h.get? d = some o /\ o.ExactDict /\ o.data = .dict es ep /\ es.toList.map (·.key) = ks.map Value.ref
theorem fQ.at' {h h' : Heap} {d : Addr} {ks : List Addr} {ep : Nat} (x : fQ h d ks ep) (e : ∀ o,h.get? d = some o -> h'.get? d = some o) : fQ h' d ks ep := let ⟨o,es,ho,r⟩ := x; ⟨o,es,e o ho,r⟩
theorem fQ.lt {h : Heap} {d : Addr} {ks : List Addr} {ep : Nat} (x : fQ h d ks ep) : d < h.objs.size := let ⟨_,_,ho,_⟩ := x; Heap.lt_size ho
theorem fQ.ty {s : Shared} {d : Addr} {ks : List Addr} {ep : Nat} (x : fQ s.heap d ks ep) : s.TypeIs (.ref d) "dict" := let ⟨o,_,ho,hc,_⟩ := x; ⟨o,ho,hc.1⟩
theorem wK {es : Array DictEntry} {ks : List Addr} (h : es.toList.map (·.key) = ks.map Value.ref) : es.size = ks.length := by
  have := congrArg List.length h
  rwa [List.length_map,List.length_map,Array.length_toList] at this
theorem Qp {es : Array DictEntry} {ks : List Addr} (h : es.toList.map (·.key) = ks.map Value.ref) {i : Nat} {a : Addr} (ha : ks[i]? = some a) (hi : i < es.size) : es[i].key = .ref a := by
  have := congrArg (fun l => l[i]?) h
  simp only [List.getElem?_map,ha,Array.getElem?_toList,Array.getElem?_eq_getElem hi,Option.map_some] at this
  exact Option.some.inj this
section
variable {prog : Program} {w : World} {A : Around} {E : Value -> Shared -> Prop} {s : Shared} {d it : Addr} {ks : List Addr} {ep i : Nat}
theorem OB {Q : Value -> Shared -> Prop} (lo : (d == sysModules) = false) (hm : fQ s.heap d ks ep) (hQ : Q (.ref s.heap.objs.size) { s with heap := s.heap.push { cls := .type "dict_keyiterator",data := .fields #[.ref d,.int 0 0,.int ks.length 0,.int ep 0] } }) :
    wpAny (model prog w) A (pyIter (.ref d)) Q E s := by
  obtain ⟨o,es,ho,hc,Ik,hk⟩ := id hm
  have hT := hm.ty
  have hsz := wK hk
  refine wpAny_pyIter_slot hT F.slot_dict_iter (wpAny_call_entry F.slot_dict_iter hT F.entry_dict_iter ?_ (F.args_dict_iter_1 _))
  unfold Builtin.«dict.__iter__»
  refine wpAny_bind ?_
  unfold Builtin.Dict.dictSlotNone
  refine wpAny_bind (wpAny_notOrdered_dict hT ?_); show wpAny _ _ (pure (Value.ref d)) _ _ s
  refine wpAny_pure ?_
  show wpAny _ _ (Builtin.Dict.showsAll d >>= _) _ _ s
  unfold Builtin.Dict.showsAll
  rw [if_neg (by rw [lo]; exact Bool.false_ne_true)]
  refine wpAny_bind (wpAny_pure (wpAny_bind (wpAny_dictEntries ho Ik (wpAny_bind (wpAny_dictEpoch ho Ik ?_)))))
  refine wpAny_bind (wpAny_newObj_type (wpAny_pure ⟨_,rfl, "dict_keyiterator",_,⟨_,Heap.get?_push_size _ rfl,rfl⟩,F.slot_dict_keyiterator_next.lookup,?_⟩))
  simpa [rawInt,hsz] using hQ
theorem OC {a : Addr} {Q : Option Value -> Shared -> Prop} (hit : s.heap.IsKeyIter it d i ks.length ep) (hm : fQ s.heap d ks ep) (hx : ks[i]? = some a)
    (hQ : ∀ h',h'.IsKeyIter it d (i + 1) ks.length ep -> Heap.SameBut it s.heap h' -> Q (some (.ref a)) { s with heap := h' }) : wpAny (model prog w) A (pyNext (.ref it)) Q E s := by
  obtain ⟨o,ho,hc,hd⟩ := id hit
  obtain ⟨od,es,rK,fj,lY,hk⟩ := id hm
  have hsz := wK hk
  have aS : i < ks.length := (List.getElem?_eq_some_iff.mp hx).1
  have Il : i < es.size := by rw [hsz]; exact aS
  have yQ := Qp hk hx Il
  unfold pyNext
  refine wpAny_bind (wpAny_attempt (wpAny_callSpecial?_slot (name := Str.ofString "__next__") hit.typeIs F.slot_dict_keyiterator_next (wpAny_call_entry F.slot_dict_keyiterator_next hit.typeIs F.entry_dict_keyiterator_next ?_ (F.args_dict_keyiterator_next_1 _))))
  refine wpAny_bind (wpAny_pure (wpAny_bind (wpAny_bind ?_)))
  first | refine wpAny_bind (wpAny_typeNameOfWhole_keyiter hit.typeIs (wpAny_pure (wpAny_bind (wpAny_fieldsOf ho hd ?_)))) | refine wpAny_bind (wpAny_typeNameOf_keyiter hit.typeIs (wpAny_pure (wpAny_bind (wpAny_fieldsOf ho hd ?_))))
  have own : Builtin.Dict_items.ownsTuple "dict_keyiterator" = false := by decide
  simp only [own,Bool.false_eq_true,if_false]
  show wpAny _ _ (if (Value.ref d == Value.none) = true then _ else _) _ _ s; rw [if_neg (show ¬ ((Value.ref d == Value.none) = true) from Bool.false_ne_true)]
  refine wpAny_bind (wpAny_pure (wpAny_bind (wpAny_dictEntries rK lY ?_))); rw [if_neg (by rw [hsz]; simp)]
  refine wpAny_bind (wpAny_pure (wpAny_bind (wpAny_dictEpoch rK lY ?_))); rw [if_neg (by simp)]
  refine wpAny_pure ?_
  simp only [show ¬ ((i : Int) < 0) from by omega,if_false,Int.toNat_natCast,Array.getElem?_eq_getElem Il]
  refine wpAny_bind ?_
  first | refine wpAny_bind (wpAny_typeNameOfWhole_keyiter hit.typeIs (wpAny_pure (wpAny_bind (wpAny_isOneOf_keyiter hit.typeIs ?_)))) | refine wpAny_bind (wpAny_typeNameOf_keyiter hit.typeIs (wpAny_pure (wpAny_bind (wpAny_isOneOf_keyiter hit.typeIs ?_))))
  show wpAny _ _ (setField (.ref it) 1 (rawInt ((i : Int) + 1)) >>= _) _ _ s; refine wpAny_bind (wpAny_setField ho hd (by simp) ?_)
  have tO : (s.heap.update it (Obj.mapFields (·.setIfInBounds 1 (rawInt ((i : Int) + 1))))).IsKeyIter it d (i + 1) ks.length ep := ⟨_,Heap.get?_update_self _ ho (Obj.isFreed_of_fields (Obj.data_mapFields hd _)),(Obj.cls_mapFields ..).trans hc,by rw [Obj.data_mapFields hd]; simp [rawInt]⟩
  refine wpAny_bind (wpAny_holding (wpAny_bind (wpAny_isOneOf_keyiter (s := { s with heap := s.heap.update it (Obj.mapFields (·.setIfInBounds 1 (rawInt ((i : Int) + 1)))) }) tO.typeIs ?_)))
  show wpAny _ _ (pure es[i].key) _ _ _
  rw [yQ]
  exact wpAny_pure (wpAny_pure ⟨_,rfl,wpAny_pure (hQ _ tO (Heap.SameBut.update ..))⟩)
theorem Qq {Q : Option Value -> Shared -> Prop} (hh : A.handled = none) (hit : s.heap.IsKeyIter it d i ks.length ep) (hm : fQ s.heap d ks ep) (hx : ks[i]? = none) (hQ : ∀ h',Heap.ExtBut it s.heap h' -> Q none { s with heap := h' }) : wpAny (model prog w) A (pyNext (.ref it)) Q E s := by
  obtain ⟨o,ho,hc,hd⟩ := id hit
  obtain ⟨od,es,rK,fj,lY,hk⟩ := id hm
  have hsz := wK hk
  have eQ : es.size <= i := by rw [hsz]; simpa using hx
  unfold pyNext
  refine wpAny_bind (wpAny_attempt (wpAny_callSpecial?_slot (name := Str.ofString "__next__") hit.typeIs F.slot_dict_keyiterator_next (wpAny_call_entry F.slot_dict_keyiterator_next hit.typeIs F.entry_dict_keyiterator_next ?_ (F.args_dict_keyiterator_next_1 _))))
  refine wpAny_bind (wpAny_pure (wpAny_bind (wpAny_bind ?_)))
  first | refine wpAny_bind (wpAny_typeNameOfWhole_keyiter hit.typeIs (wpAny_pure (wpAny_bind (wpAny_fieldsOf ho hd ?_)))) | refine wpAny_bind (wpAny_typeNameOf_keyiter hit.typeIs (wpAny_pure (wpAny_bind (wpAny_fieldsOf ho hd ?_))))
  have own : Builtin.Dict_items.ownsTuple "dict_keyiterator" = false := by decide
  simp only [own,Bool.false_eq_true,if_false]
  show wpAny _ _ (if (Value.ref d == Value.none) = true then _ else _) _ _ s; rw [if_neg (show ¬ ((Value.ref d == Value.none) = true) from Bool.false_ne_true)]
  refine wpAny_bind (wpAny_pure (wpAny_bind (wpAny_dictEntries rK lY ?_))); rw [if_neg (by rw [hsz]; simp)]
  refine wpAny_bind (wpAny_pure (wpAny_bind (wpAny_dictEpoch rK lY ?_))); rw [if_neg (by simp)]
  refine wpAny_pure ?_
  simp only [show ¬ ((i : Int) < 0) from by omega,if_false,Int.toNat_natCast,Array.getElem?_eq_none eQ]
  refine wpAny_bind ?_
  first | refine wpAny_bind (wpAny_typeNameOfWhole_keyiter hit.typeIs (wpAny_pure ?_)) | refine wpAny_bind (wpAny_typeNameOf_keyiter hit.typeIs (wpAny_pure ?_))
  show wpAny _ _ (setField (.ref it) 0 .none >>= _) _ _ s; refine wpAny_bind (wpAny_setField ho hd (by simp) ?_)
  show wpAny _ _ (newExc (.type "StopIteration") [] >>= _) _ _ _; refine wpAny_bind ?_
  simp only [newExc,newTuple]
  refine wpAny_bind (wpAny_newObj_type (wpAny_bind (m := firstArgMember _ _) (wpAny_of_eq (a := Value.none) (by first | rfl | (simp only [firstArgMember]; rfl)) (wpAny_newObj_type ?_ (by size_fits)))) (by size_fits))
  simp only [raiseNew]
  refine wpAny_bind (wpAny_handled ?_); rw [show A.in1.handled = none from hh]
  refine wpAny_bind (wpAny_pure (wpAny_throw ?_)); refine wpAny_bind (wpAny_isInstance (T := "StopIteration") (b := true) ⟨_,Heap.get?_push_size _ rfl,rfl⟩ isSubtype_stop ?_)
  exact wpAny_pure (hQ _ (((Heap.SameBut.update ..).extBut.push _).push _))
theorem Ny (hh : A.handled = none) (I : Addr) (rh : d ≠ I) : Walks prog w A I [I,d] [I] ks.length (fun i v => ∃ a,ks[i]? = some a /\ v = .ref a) (fun i h => h.IsKeyIter I d i ks.length ep /\ fQ h d ks ep) where
  sub := fun b hb => by simp at hb; simp [hb]
  frame := fun _ _ _ st hk => ⟨st.1.at fun o e => hk I (by simp) o e,st.2.at' fun o e => hk d (by simp) o e⟩
  item := fun i s Q E hi st hQ => by
    obtain ⟨a,hx⟩ : ∃ a,ks[i]? = some a := ⟨ks[i],by simp [hi]⟩
    refine OC st.1 st.2 hx fun h' tO ju => ?_
    exact hQ _ h' s.toks ⟨a,hx,rfl⟩ ⟨tO,st.2.at' fun o e => ju.extBut d o rh e⟩ fun b o hb e => ju.extBut b o (fun h => hb (by simp [h])) e
  done := fun s Q E st hQ => Qq hh st.1 st.2 (by simp) fun h' oG => hQ h' s.toks fun b o hb e => oG b o (fun h => hb (by simp [h])) e
  self := fun _ _ _ _ st hQ => wpAny_pyIter_keyiter st.1 hQ
theorem Qr (lo : (d == sysModules) = false) : PySem.W.KdlSrc prog w "dict" d d ks.length (fun i v => ∃ a,ks[i]? = some a /\ v = .ref a) (fun h => fQ h d ks ep) where
  type := fun _ hm => hm.ty
  there := fun _ hm => ⟨hm.lt,hm.lt⟩
  keep := fun _ _ hm hk => hm.at' fun o e => hk d (.inl rfl) o e
  notList := by decide
  notTuple := by decide
  hint := fun _ _ _ _ hm hq => PySem.W.kdl_hint_dict hm.ty hq
  iter := fun A s hh hm => ⟨_,_,(fun _ _ hq => OB lo hm hq),Ny hh _ (Nat.ne_of_lt hm.lt),⟨⟨_,Heap.get?_push_size _ rfl,rfl,rfl⟩,hm.at' fun o e => Heap.get?_push_of_some _ e⟩⟩
end
end So
namespace L2
open PySem PySem.Spec PyProof.Rows
def addrOf : Value -> Addr
  | .ref a => a
  | _ => 0
theorem Nz {l : List Value} {ks : List Addr} (h : l.Perm (ks.map Value.ref)) : ∃ as : List Addr,as.Perm ks /\ l = as.map Value.ref := by
  refine ⟨l.map addrOf,?_,?_⟩
  · have := h.map addrOf
    rw [List.map_map] at this
    rwa [show ks.map (addrOf ∘ Value.ref) = ks from (List.map_congr_left (g := id) fun _ _ => rfl).trans (List.map_id ks)] at this
  · rw [List.map_map]
    refine ((List.map_congr_left (g := id) fun v hv => ?_).trans (List.map_id l)).symm
    obtain ⟨a,_,rfl⟩ := List.mem_map.mp (h.mem_iff.mp hv)
    rfl
theorem DA : ∀ as : List Addr,Vals (as.map V.ref) (as.map Value.ref)
  | [] => .nil
  | a :: as => .cons rfl (DA as)
def Gh : List V -> Hp -> VK -> Prop := fun xs H Q => ∃ (p : Addr) (aj : List (List Key × V)) (ds : List (List Int)),xs = [.ref p] /\ H p = some (.dT aj) /\ aj.map (·.1) = ds.map (fun d => d.map Sum.inl) /\ (∀ d ∈ ds,d ≠ []) /\ ds.length < 128 /\
    ∀ (l : Addr) (ps : List (Addr × List Int)),H l = none -> (∀ q ∈ ps,H q.1 = some (.tup (q.2.map V.int))) -> (ps.map (·.2)).Perm ds -> (ps.map (·.2)).Pairwise (fun x y => So.lexLt y x = false) -> Q (.ref l) (upd H l (.lst (ps.map fun q => .ref q.1)))
section
variable {X : Cx}
theorem LY (hc : X.calm = true) : eI X (.builtin "sorted") Gh := by
  intro pins s σ H xs us Q I r h
  obtain ⟨p,aj,ds,rfl,hp,qS,rh,hz,q⟩ := h
  obtain ⟨u,rfl,rx⟩ := vals1 r
  cases rx
  obtain ⟨_,hS,xs,pr,o,es,ep,ho,fj,lY,he,nd⟩ := (show bU X.prog X.w H s.heap p (.dT aj) from I.ay p _ hp)
  have big : 1000 < sizeLine := by decide
  have keys : ∀ {aj : List (List Key × V)} {xs : List (List Key × Addr × Value)} {ds : List (List Int)},Paired (fun (p : List Key × V) (q : List Key × Addr × Value) => p.1 = q.1 /\ H q.2.1 = some (.tup (p.1.map kV)) /\ RelV p.2 q.2.2) aj xs -> aj.map (·.1) = ds.map (fun d => d.map Sum.inl) -> xs.length = ds.length /\ ∀ (i : Nat) (a : Addr) (d : List Int),(xs.map (·.2.1))[i]? = some a -> ds[i]? = some d -> H a = some (.tup (d.map V.int)) := by
    intro aj xs ds pr
    induction pr generalizing ds with
    | nil =>
      intro e
      cases ds with
      | nil => exact ⟨rfl,fun i a d z => by cases i <;> cases z⟩
      | cons _ _ => cases e
    | @cons pp qq ps qs hq t ih =>
      intro e
      cases ds with
      | nil => cases e
      | cons d ds =>
        rw [List.map_cons,List.map_cons] at e
        obtain ⟨e1,e2⟩ := List.cons.inj e
        obtain ⟨i1,i2⟩ := ih e2
        refine ⟨by rw [List.length_cons,List.length_cons,i1],fun i a d' h1 h2 => ?_⟩
        cases i with
        | zero =>
          cases h1
          cases h2
          have := hq.2.1
          rw [e1,List.map_map] at this
          exact this
        | succ i => exact i2 i a d' h1 h2
  obtain ⟨xl,Ah⟩ := keys pr qS
  obtain ⟨ks,Ai⟩ : ∃ ks,ks = xs.map (·.2.1) := ⟨_,rfl⟩
  rw [<- Ai] at Ah
  have kl : ks.length = ds.length := by rw [Ai,List.length_map,xl]
  have tup : ∀ a ns,H a = some (.tup (ns.map V.int)) -> So.dX s.heap (.ref a) = some ns := fun a ns e => by
    obtain ⟨_,its,r,pt⟩ := (show bU X.prog X.w H s.heap a (.tup (ns.map V.int)) from I.ay a _ e)
    exact So.kH pt (intsAre_of r)
  have lZ : So.fQ s.heap p ks ep := ⟨o,es,ho,fj,lY,by rw [he,List.map_map,Ai,List.map_map]; rfl⟩
  refine Calls.call_function_entry kind_sorted plain_sorted entry_sorted (args_sorted1 _) ?_
  unfold Builtin.«sorted»
  refine wpAny_bind (m := checkCount "sorted" 1 1 _) (wpAny_pure (wpAny_bind (PySem.W.kdu_collect (A := X.A.in1) (So.Qr (ks := ks) (ep := ep) hS) (I.ok.hd hc) lZ (by rw [kl]; omega) fun h' tk acc hk eK => ?_)))
  have ea : acc.toList = ks.map Value.ref := by
    refine List.ext_getElem? fun i => ?_
    rw [Array.getElem?_toList,List.getElem?_map]
    rcases Nat.lt_or_ge i ks.length with hi | hi
    · have uq : i < acc.size := by rw [eK.1]; exact hi
      obtain ⟨a,e1,e2⟩ := eK.2 i acc[i] (Array.getElem?_eq_getElem uq)
      rw [Array.getElem?_eq_getElem uq,e2,e1]; rfl
    · rw [List.getElem?_eq_none hi,Array.getElem?_eq_none (by rw [eK.1]; exact hi)]; rfl
  have ha : acc.toList.length = ds.length := by rw [ea,List.length_map,kl]
  have known : ∀ a ∈ ks,∃ d ∈ ds,H a = some (.tup (d.map V.int)) := fun a hm => by
    obtain ⟨i,hi,e⟩ := List.getElem_of_mem hm
    have e' : ks[i]? = some a := by rw [List.getElem?_eq_getElem hi,e]
    exact ⟨ds[i]'(by omega),List.getElem_mem _,Ah i a _ e' (List.getElem?_eq_getElem (by omega))⟩
  refine wpAny_bind (wpAny_newList ?_ (by rw [ha]; omega))
  have qQ : (h'.push (seqObj "list" acc.toList.toArray 0)).get? h'.objs.size = some (seqObj "list" acc.toList.toArray 0) := Heap.get?_push_size _ rfl
  have yi : ∀ v ns,So.dX s.heap v = some ns -> So.dX (h'.push (seqObj "list" acc.toList.toArray 0)) v = some ns := fun v ns e => So.D6 e fun t o _ ht _ => Heap.get?_push_of_some _ (hk t o ht)
  refine wpAny_bind (wpAny_holding (wpAny_call_entry slot_list_sort ⟨_,qQ,rfl⟩ entry_list_sort (So.Ld (s := { s with heap := h'.push (seqObj "list" acc.toList.toArray 0),toks := tk }) qQ (fun v hv => ?_) (by rw [ha]; exact hz) fun out p1 p2 => ⟨_,rfl,wpAny_pure ⟨_,rfl,?_⟩⟩) (args_list_sort _)))
  · rw [ea] at hv
    obtain ⟨a,hm,rfl⟩ := List.mem_map.mp hv
    obtain ⟨d,hd,e⟩ := known a hm
    cases d with
    | nil => exact absurd rfl (rh _ hd)
    | cons n ns => exact ⟨n,ns,yi _ _ (tup a _ e)⟩
  · rw [ea] at p1
    obtain ⟨as,pm,eo⟩ := Nz p1
    obtain ⟨e,Yd⟩ := sortedHeap_at (out := out) qQ
    have I1 : Inv X pins σ H { s with heap := h',toks := tk } := I.kept (t' := tk) hk
    obtain ⟨kd,Ye⟩ : ∃ kd : Addr -> List Int,kd = fun a => (So.dX s.heap (.ref a)).getD [] := ⟨_,rfl⟩
    have uw : ∀ a d,H a = some (.tup (d.map V.int)) -> kd a = d := fun a d z => by rw [Ye]; show (So.dX s.heap (.ref a)).getD [] = d; rw [tup a d z]; rfl
    have ek : ks.map kd = ds := by
      refine List.ext_getElem? fun i => ?_
      rw [List.getElem?_map]
      rcases Nat.lt_or_ge i ks.length with hi | hi
      · rw [List.getElem?_eq_getElem hi,List.getElem?_eq_getElem (show i < ds.length by omega)]
        show some (kd ks[i]) = _
        rw [uw _ _ (Ah i _ _ (List.getElem?_eq_getElem hi) (List.getElem?_eq_getElem (by omega)))]
      · rw [List.getElem?_eq_none hi,List.getElem?_eq_none (by omega)]; rfl
    have sz : (as.map fun a => (a,kd a)).map (fun q => V.ref q.1) = as.map V.ref := by rw [List.map_map]; rfl
    have s2 : (as.map fun a => (a,kd a)).map (·.2) = as.map kd := by rw [List.map_map]; rfl
    have lt : as.length = ds.length := by rw [pm.length_eq,kl]
    have fin := q h'.objs.size (as.map fun a => (a,kd a)) (I1.ay.fresh (Nat.le_refl _)) (fun qq hq => ?_) (by rw [s2,<- ek]; exact pm.map kd) ?_
    · rw [sz] at fin
      refine ⟨.ref h'.objs.size,_,I1.laid (t' := tk) (o := .lst (as.map V.ref)) (fun b o eb => ?_) (Nat.le_refl _) ?_,rfl,fin⟩
      · have lt : b < h'.objs.size := Heap.lt_size eb
        rw [sortedHeap_old (Nat.ne_of_lt lt) (by rw [size_push']; exact Nat.lt_succ_of_lt lt),Heap.get?_push_ne _ _ _ (Nat.ne_of_lt lt)]
        exact eb
      · refine ⟨by rw [List.length_map,lt]; omega,out.toList,e,?_,by rw [Array.toArray_toList]; exact Yd⟩
        rw [eo]
        exact DA as
    · obtain ⟨a,hm,rfl⟩ := List.mem_map.mp hq
      obtain ⟨d,hd,z⟩ := known a (pm.mem_iff.mp hm)
      show H a = some (.tup ((kd a).map V.int))
      rw [uw a d z]; exact z
    · rw [s2,List.pairwise_map]
      unfold So.qJ at p2
      rw [eo,List.pairwise_map] at p2
      refine p2.imp_of_mem fun {x y} hx hy z => ?_
      obtain ⟨dx,_,zx⟩ := known x (pm.mem_iff.mp hx)
      obtain ⟨dy,_,zy⟩ := known y (pm.mem_iff.mp hy)
      unfold So.oh at z
      rw [yi _ _ (tup x _ zx),yi _ _ (tup y _ zy)] at z
      rw [uw x dx zx,uw y dy zy]
      exact z
end
end L2
namespace L2
open PySem PySem.Spec PyProof.Rows
theorem D7 {K : PySem.W.Frag} {G H : Hp} : ∀ {ns : List Int} {vs : List V} {fq : List Addr},aB K G H (ns.map fun n => Tr.fz (di n)) vs fq -> vs = ns.map V.int /\ fq = []
  | [],vs,fq,h => h
  | n :: ns,vs,fq,h => by
    obtain ⟨v,r,f1,f2,rfl,rfl,⟨rfl,h1⟩,h2⟩ := h
    obtain ⟨rfl,rfl⟩ := D7 h2
    rw [aO h1]
    exact ⟨rfl,rfl⟩
section
variable {ι : Type} {F : aU ι} {e : Expr} {ρ : En} {ta : Tr} {pos : Pos}
theorem OD {xs : List Dv} (hm : F.mg "tuple" = none) (ha : Ev F e ρ ta) (ea : er ta = .lst xs) {p' : Pos} (hg : ∀ i,Gl (F.cx i) "tuple" := by intro _; rfl)
    (hs : ∀ i,starEach [e] (F.cx i).env = [(false,eval e (F.cx i).env)] := by intro _; rfl) : Ev F (.Call (.Name "tuple" p') [e] [] pos) ρ (.tp (xs.map .fz)) :=
  wB (r := fun xs H Q => ∃ p ys,xs = [.ref p] /\ ((aD F.K H p ys /\ ∀ l,H l = none -> Q (.ref l) (upd H l (.tup ys))) \/ (cE F.K H p ys /\ Q (.ref p) H))) (fun i => F.hK i ▸ Lq) hm N8 (ah ha av hs) (fun G H vs Q s hx k => by
    obtain ⟨x,rfl,eX⟩ := iG hx
    rw [ea] at eX
    obtain ⟨l,ws,rfl,h1,h2⟩ := eX
    refine ⟨l,ws,rfl,.inl ⟨s.seq h1,fun p hp => k (.ref p) G _ [p] (.gD s hp) ⟨p,ws,[],rfl,ck,?_,rfl⟩ ⟨fun a ha => by rw [List.mem_singleton.mp ha]; exact hp,fun a ha => by rw [List.mem_singleton.mp ha]; exact s.free hp,by simp⟩⟩⟩
    exact aI.eO h2) hg (by decide) (by decide) (fun i => by rw [hs i]; rfl) (fun i => rfl)
end
theorem Rx {K : PySem.W.Frag} {G H1 : Hp} {l acc : Addr} {xs : List V} {ux : St} {te : TE} {f : Nat -> Tr} {Q : VK} (sG : ai G H1) (hl : H1 l = some (.lst xs)) (eK : H1 acc = none) (hz : xs.length < sizeLine)
    (ev : ∀ i x,xs[i]? = some x -> ∀ G2 H2 Q,ai G G2 -> ai G2 H2 -> ai H1 H2 -> Kv K G2 H2 (f i) Q -> te (ux.set 0 (some x)) H2 Q)
    (k : ∀ v G' H' fq,Step G H1 G' H' -> Ow K G' H' (.ow ((List.range xs.length).map f)) v fq -> Nw H1 G' fq -> Q v H') :
    ∃ W : Nat -> Nat -> List V -> St -> Hp -> Prop,(∃ m,W 0 m [] ux (upd H1 acc (.lst []))) /\ ∀ i m ys az H2,W i m ys az H2 -> H2 acc = some (.lst ys) /\ ys.length < sizeLine /\
      (((jW K l).stop i H2 /\ Q (.ref acc) H2) \/ ((jW K l).go i H2 /\ ∃ N : List V -> St -> Hp -> Prop,(∀ zs bg H3,N zs bg H3 -> ∃ m',m' < m /\ W (i + 1) m' zs bg H3) /\
        ∀ x H3,(jW K l).lH i H2 x H3 -> cU 0 x az H3 fun bg H4 => sF bg H4 fun b H5 => if b = true then te bg H5 (fun y H6 => H6 acc = some (.lst ys) /\ N (ys ++ [y]) bg (upd H6 acc (.lst (ys ++ [y])))) else N ys bg H5)) := by
  refine ⟨fun i m ys az H2 => m = xs.length - i /\ i <= xs.length /\ (∀ x,az.set 0 (some x) = ux.set 0 (some x)) /\ H2 acc = some (.lst ys) /\ ∃ G2 fq,Step G H1 G2 H2 /\ aB K G2 H2 ((List.range i).map f) ys fq /\ Nw H1 G2 (acc :: fq),
    ⟨_,rfl,Nat.zero_le _,fun _ => rfl,ck,G,[],.gD sG eK,⟨rfl,rfl⟩,⟨fun a ha => by rw [List.mem_singleton.mp ha]; exact eK,fun a ha => by rw [List.mem_singleton.mp ha]; exact sG.free eK,by simp⟩⟩,?_⟩
  rintro i m ys az H2 ⟨rfl,hi,ui,iM,G2,fq,s2,o2,w2⟩
  have hlen : ys.length < sizeLine := by rw [<- o2.length,List.length_map,List.length_range]; omega
  refine ⟨iM,hlen,?_⟩
  have iK : H2 l = some (.lst xs) := s2.h _ _ hl
  by_cases aS : i < xs.length
  · have hx := List.getElem?_eq_getElem aS
    refine .inr ⟨⟨xs,xs[i],.inl (.inl iK),hx⟩,fun zs bg H3 => (∀ x,bg.set 0 (some x) = ux.set 0 (some x)) /\ H3 acc = some (.lst zs) /\ ∃ G3 fq,Step G H1 G3 H3 /\ aB K G3 H3 ((List.range (i + 1)).map f) zs fq /\ Nw H1 G3 (acc :: fq),
      fun zs bg H3 z => ⟨xs.length - (i + 1),by omega,rfl,aS,z⟩,fun x H3 y => ?_⟩
    obtain ⟨rfl,y⟩ := y
    have ex := y xs (.inl (.inl iK))
    have tj : ∀ {Ga Ha Gb Hb : Hp} {fs : List Addr},Step Ga Ha Gb Hb -> (∀ a ∈ fs,Ga a = none) -> (∀ a ∈ fs,∃ o,Ha a = some o) -> ∀ a ∈ fs,Gb a = none := fun {Ga Ha Gb Hb fs} st h1 h2 a ha => by
      cases q : Gb a with
      | none => rfl
      | some u =>
        obtain ⟨u',aT⟩ := h2 a ha
        have := st.n a (h1 a ha) (by rw [q]; exact fun z => nomatch z)
        rw [aT] at this; cases this
    have oA : ∀ a ∈ acc :: fq,∃ o,H3 a = some o := fun a ha => (List.mem_cons.mp ha).elim (fun z => ⟨_,z ▸ iM⟩) (o2.there a)
    dsimp only [cU,sF]
    rw [if_pos rfl,ui]
    refine ev i x ex G2 H3 _ s2.g s2.s s2.h fun v G6 H6 f6 s6 o6 w6 => ?_
    have z5 := s6.h _ _ iM
    have lS : ∀ a ∈ f6,a ∉ acc :: fq := fun a ha hb => by
      obtain ⟨u,hu⟩ := oA a hb
      rw [w6.n a ha] at hu; cases hu
    have jr := List.nodup_cons.mp w2.d
    have g6 := tj s6 w2.g oA
    have Aj := s2.trans s6
    refine ⟨z5,fun x' => by rw [List.set_set],ck,G6,fq ++ (f6 ++ []),⟨Aj.g,fun b u hb => ?_,fun b u hb => ?_,Aj.n⟩,?_,⟨fun a ha => ?_,fun a ha => ?_,?_⟩⟩
    · rw [aP fun z => by subst z; rw [eK] at hb; cases hb]
      exact Aj.h b u hb
    · rw [aP fun z => by subst z; rw [g6 _ (.head _)] at hb; cases hb]
      exact s6.s b u hb
    · rw [List.range_succ,List.map_append]
      exact aB.append ((o2.mono s6.g s6.h).frame jr.1) ⟨v,[],f6,[],rfl,rfl,o6.frame fun z => lS _ z (.head _),rfl,rfl⟩
    · rw [List.append_nil] at ha
      rcases List.mem_cons.mp ha with z | z
      · exact w2.n a (z ▸ .head _)
      · rcases List.mem_append.mp z with z | z
        · exact w2.n a (.tail _ z)
        · exact s2.h.free (w6.n a z)
    · rw [List.append_nil] at ha
      rcases List.mem_cons.mp ha with z | z
      · exact g6 a (z ▸ .head _)
      · rcases List.mem_append.mp z with z | z
        · exact g6 a (.tail _ z)
        · exact w6.g a z
    · rw [List.append_nil]
      refine List.nodup_cons.mpr ⟨fun z => ?_,List.nodup_append.mpr ⟨jr.2,w6.d,fun a ha b hb z => ?_⟩⟩
      · rcases List.mem_append.mp z with z | z
        · exact jr.1 z
        · exact lS _ z (.head _)
      · subst z; exact lS a hb (.tail _ ha)
  · have e : i = xs.length := by omega
    subst e
    exact .inl ⟨⟨xs,.inl (.inl iK),Nat.le_refl _⟩,k (.ref acc) G2 H2 (acc :: fq) s2 ⟨acc,ys,fq,rfl,iM,o2,rfl⟩ w2⟩
end L2
namespace L2
open PySem PySem.Spec PyProof.Rows
theorem dH.Sn {K : PySem.W.Frag} {G0 H0 G H : Hp} {ρ : En} {σ : St} {fp : List Addr} {j : Nat} {t : Tr} (r : dH K G0 H0 G H ρ σ fp) (hj : ρ[j]? = some (some t)) :
    ∃ v f,σ[j]? = some (some v) /\ Ow K G H t v f /\ f.Nodup /\ ∀ H2 t2,Md f H H2 -> Ow K G H2 t2 v f -> RS K G0 H0 G H2 (ρ.set j (some t2)) σ := by
  obtain ⟨v,f,fr,a1,a2,a3,a4⟩ := r.own.split hj
  have cY := List.nodup_append.mp (a4.nodup_iff.mp r.d)
  have jo : ∀ a ∈ f,a ∈ fp := fun a ha => a4.mem_iff.mpr (List.mem_append_left _ ha)
  have Yg : j < ρ.length := (List.getElem?_eq_some_iff.mp hj).1
  refine ⟨v,f,a1,a2,cY.1,fun H2 t2 m o2 => ?_⟩
  have q3 : aE K G H2 (ρ.set j none) σ fr := a3.agree fun a ha => by
    obtain ⟨o,ho⟩ := a3.there a ha
    rw [m a o (fun z => cY.2.2 a z a ha rfl) ho,ho]
  obtain ⟨JT,p1,p2⟩ := q3.put (oN Yg) o2
  rw [List.set_set,su a1] at p1
  have pm : ∀ a,a ∈ JT -> a ∈ fp := fun a ha => a4.mem_iff.mpr (p2.mem_iff.mp ha)
  exact ⟨JT,⟨r.st.g,fun b u hb => m b u (fun z => by rw [r.n b (jo b z)] at hb; cases hb) (r.st.h b u hb),fun b u hb => m b u (fun z => by rw [r.g b (jo b z)] at hb; cases hb) (r.st.s b u hb),r.st.n⟩,p1,fun a ha => r.g a (pm a ha),fun a ha => r.n a (pm a ha),p2.nodup_iff.mpr (a4.nodup_iff.mp r.d)⟩
end L2
namespace L2
open PySem PySem.Spec PyProof.Rows
theorem E7 {K : PySem.W.Frag} {G : Hp} {d2 : List Dv} {v2 : List V} (h2 : aI K G d2 v2) : ∀ {d1 : List Dv} {v1 : List V},aI K G d1 v1 -> aI K G (d1 ++ d2) (v1 ++ v2)
  | [],v1,h => by
    have h' : v1 = [] := h
    subst h'
    exact h2
  | d :: d1,_,⟨x,r,h1,hC,h3⟩ => by
    subst h1
    exact ⟨x,_,rfl,hC,E7 h2 h3⟩
end L2
namespace bw
open PySem L2 dI
def top (i : Nat) : Stmt := PySem.Challenge.pw_lotmeal_k49_lies_by_turns.main.body.getD i (.Pass ⟨0,0,0,0⟩)
structure Txt (mg : Str -> Option Value) : Prop where
  oP : mg "isinstance" = none
  yj : mg "int" = none
  Ry : mg "bool" = none
  fP : mg "list" = none
  Qs : mg "tuple" = none
  Sq : mg "str" = none
  cC : mg "len" = none
  eC : mg "range" = none
  Sr : mg "zip" = none
  vL : mg "enumerate" = none
  D8 : mg "sorted" = none
  Hu : mg "abs" = none
  aad : mg "sum" = none
  aae : mg "max" = none
  aaf : mg "min" = none
  aag : mg "all" = none
  yk : mg "any" = none
  Ss : mg "set" = none
  oQ : ∃ tk,mg "MOST_TURNS" = some (.int 5 tk)
  qc : ∃ tk,mg "MOST" = some (.int 6 tk)
  oR : ∃ tk,mg "MOST_COUNT" = some (.int 9 tk)
  oK : ∃ tk,mg "MOST_THINGS" = some (.int 4 tk)
section
variable {P : Program} {w : World} {K : PySem.W.Frag} {mg : Str -> Option Value} {base : Heap}
def aG (n : Nat) : List Int := (List.range n).map fun i => 0 + ((i : Nat) : Int)
theorem fM {n : Nat} {x : Int} : x ∈ aG n ↔ 0 <= x /\ x < n := by
  unfold aG
  constructor
  · intro h
    obtain ⟨i,hi,rfl⟩ := List.mem_map.mp h
    have := List.mem_range.mp hi
    omega
  · rintro ⟨h0,h1⟩
    exact List.mem_map.mpr ⟨x.toNat,List.mem_range.mpr (by omega),by omega⟩
theorem oV (n : Nat) : (aG n).Nodup := by
  unfold aG
  rw [List.nodup_iff_pairwise_ne,List.pairwise_map]
  exact (List.nodup_range (n := n)).imp fun h z => h (by omega)
abbrev mv : Stmt := top 10
theorem rR : bh ["one", "other", "rest"] ["one", "other"] (ag mv) := ⟨rfl,rfl,rfl,by decide +kernel,rfl,by decide +kernel,by decide +kernel⟩
def Hw (dd : List Dv) (t : Tr) : Prop := ∃ a b : Int,0 <= a /\ 0 <= b /\ dd = [di a,di b] /\ t = ti (gc a b)
theorem Le {f : Addr} {fd : FuncData} {k : Nat} (F : bu K "common_part" "common_part" mv f fd) (T : Txt mg) : aR P w K mg base aq (k + 1) f fd ["one", "other"] (spT K Hw) := by
  refine bG F.d rR (fun dd t h => by obtain ⟨_,_,_,_,rfl,_⟩ := h; rfl) fun dd t h => ?_
  obtain ⟨a,b,ha,hb,rfl,rfl⟩ := h
  refine ⟨_,.inl rfl,?_⟩
  refine LV (fun p : Int × Int => [some (ti p.1),some (ti p.2),none]) (fun p => 0 <= p.1 /\ 0 <= p.2 /\ gc p.1 p.2 = gc a b) (fun p => !decide (p.2 = 0)) (fun p => p.2.toNat) (a,b) rfl ⟨ha,hb,rfl⟩ (fun p hp => Et.s (Hi (ae 1 rfl) au)) (fun p hp h => ?_) (fun p hp h => ?_)
  · obtain ⟨x,y⟩ := p
    obtain ⟨h1,h2,h3⟩ := hp
    have hy : y ≠ 0 := by simpa using h
    have hC : 0 <= y := h2
    have l1 := Int.emod_lt_of_pos x (show 0 < y by omega)
    have l2 := Int.emod_nonneg x hy
    refine ⟨(y,x % y),⟨h2,l2,?_⟩,?_,bI.fg (ak (aH 2 (Ev.s (eS (ae 0 rfl) (ae 1 rfl) (by omega))) (fun _ => rR.nd)) (ak (aH 0 (Ev.s (ae 1 rfl)) (fun _ => rR.nd)) (aN (aH 1 (Ev.s (ae 2 rfl)) (fun _ => rR.nd))))) ⟨[2],rfl⟩⟩
    · show gc y (x % y) = _
      rw [Pu]; exact h3
    · show (x % y).toNat < y.toNat
      omega
  · obtain ⟨x,y⟩ := p
    obtain ⟨h1,h2,h3⟩ := hp
    have Yh : y = 0 := by simpa using h
    have rj : gc x y = gc a b := h3
    have ou : 0 <= x := h1
    have e : gc a b = x := by rw [<- rj,Yh,Pt]; omega
    rw [e]
    exact aN (cf (Ev.s (ae 0 rfl)))
abbrev mS : Stmt := top 9
theorem Mp : bh ["number"] ["number"] (ag mS) := ⟨rfl,rfl,rfl,by decide +kernel,rfl,by decide +kernel,by decide +kernel⟩
def D9 (dd : List Dv) (t : Tr) : Prop := ∃ n : Int,dd = [di n] /\ t = tb true
theorem Mq {f : Addr} {fd : FuncData} {k : Nat} (F : bu K "is_whole" "is_whole" mS f fd) (T : Txt mg) : aR P w K mg base aq (k + 1) f fd ["number"] (spT K D9) := by
  refine bG F.d Mp (fun dd t h => by obtain ⟨n,rfl,_⟩ := h; rfl) fun dd t h => ?_
  obtain ⟨n,rfl,rfl⟩ := h
  refine ⟨_,.inl rfl,?_⟩
  exact aN (cf (Ev.s (Ev.to (FG (p := true) (q := true) (pZ T.oP T.yj FC (ae 0 rfl) (by with_unfolding_all rfl)) fun _ => (sS (FH (p := false) (pZ T.oP T.Ry Pj (ae 0 rfl) (by with_unfolding_all rfl))))) rfl)))
abbrev gk : Stmt := top 11
theorem C4 : bh ["top", "bottom", "part"] ["top", "bottom"] (ag gk) := ⟨rfl,rfl,rfl,by decide +kernel,rfl,by decide +kernel,by decide +kernel⟩
def kO (dd : List Dv) (t : Tr) : Prop := ∃ a b : Int,0 < b /\ b.natAbs < 2 ^ 8000 /\ dd = [di a,di b] /\ t = tF (lT a b,lB a b)
theorem Mr {f f1 f2 : Addr} {fd aW fd2 : FuncData} {dV : Value} {k : Nat} (F : kU K "fraction" "fraction" gk dV f fd) (T : Txt mg) (C9 : Kn P w K mg base aq (k + 1) "is_whole" f1 aW ["number"] (spT K D9)) (Ly : Kn P w K mg base aq (k + 1) "common_part" f2 fd2 ["one", "other"] (spT K Hw)) : aR P w K mg base aq (k + 2) f fd ["top", "bottom"] (spT K kO) := by
  refine bG F C4 (fun dd t h => by obtain ⟨_,_,_,_,rfl,_⟩ := h; rfl) fun dd t h => ?_
  obtain ⟨a,b,hb,hz,rfl,rfl⟩ := h
  refine ⟨_,.inl rfl,?_⟩
  refine ak (du (Et.s (Ew.et (kL (pY (gI (aY C9 (Nat.le_refl _) (ah (ae 0 rfl) av) ⟨a,rfl,rfl⟩))) fun _ => (nD (pY (gI (aY C9 (Nat.le_refl _) (ah (ae 1 rfl) av) ⟨b,rfl,rfl⟩))))))) rfl) ?_
  refine ak (du (Et.s (nR (ae 1 rfl) au)) (decide_eq_false (by omega))) ?_
  have ha : 0 <= (if a < 0 then -a else a) := by split <;> omega
  have fL : 0 <= (if b < 0 then -b else b) := by split <;> omega
  have eg : gc (if a < 0 then -a else a) (if b < 0 then -b else b) = gc a b := by
    rw [show (if a < 0 then -a else a) = (a.natAbs : Int) by split <;> omega,show (if b < 0 then -b else b) = (b.natAbs : Int) by split <;> omega,Rg]
  have gp := p8 (a := a) (show b ≠ 0 by omega)
  have gl := Pw (a := a) hb
  refine ak (aH 2 (cg.to (t' := ti (gc a b)) (Ev.s (aY Ly (Nat.le_refl _) (ah (FI T.Hu (ae 0 rfl)) (ah (FI T.Hu (ae 1 rfl)) av)) ⟨_,_,ha,fL,rfl,rfl⟩)) (by rw [eg])) (fun _ => C4.nd)) ?_
  refine ak (du (Et.s (qj (ae 1 rfl) au)) (decide_eq_false (by omega))) ?_
  have cd : ∀ i : Int,qh i (gc a b) := fun i => ⟨gp,Nat.lt_of_le_of_lt (by omega) hz⟩
  refine aN (cf (Ev.s (wZ (ah (iw (ae 0 rfl) (ae 2 rfl) (cd _)) (ah (iw (ae 1 rfl) (ae 2 rfl) (cd _)) av)) ?_ (by show 2 <= sizeLine; decide))))
  show [di (a / gc a b),di (b / gc a b)] = _
  rw [Rh hb,Ri hb]
abbrev nK : Stmt := top 12
theorem Qt : bh ["one", "other"] ["one", "other"] (ag nK) := ⟨rfl,rfl,rfl,by decide +kernel,rfl,by decide +kernel,by decide +kernel⟩
def iY (p : Int × Int) : Prop := 0 < p.2 /\ p.2.natAbs < 2 ^ 90 /\ p.1.natAbs < 2 ^ 90
def yl (dd : List Dv) (t : Tr) : Prop := ∃ p q : Int × Int,iY p /\ iY q /\ dd = [dF p,dF q] /\ t = tF (lT (p.1 * q.2 + q.1 * p.2) (p.2 * q.2),lB (p.1 * q.2 + q.1 * p.2) (p.2 * q.2))
theorem gJ {a : Int} {n : Nat} (h : a.natAbs < 2 ^ n) (hn : n <= 8000) : a.natAbs < 2 ^ 8000 := Nat.lt_of_lt_of_le h (Nat.pow_le_pow_right (by decide) hn)
theorem Rz {a b : Int} {m n : Nat} (h1 : a.natAbs < 2 ^ m) (h2 : b.natAbs < 2 ^ n) : (a * b).natAbs < 2 ^ (m + n) := by
  rw [Int.natAbs_mul,Nat.pow_add]
  exact Nat.mul_lt_mul'' h1 h2
theorem Qu {f f1 : Addr} {fd aW : FuncData} {k : Nat} (F : bu K "plus" "plus" nK f fd) (T : Txt mg) (iR : Kn P w K mg base aq (k + 2) "fraction" f1 aW ["top", "bottom"] (spT K kO)) : aR P w K mg base aq (k + 3) f fd ["one", "other"] (spT K yl) := by
  refine bG F.d Qt (fun dd t h => by obtain ⟨_,_,_,_,rfl,_⟩ := h; rfl) fun dd t h => ?_
  obtain ⟨p,q,⟨p1,p2,p3⟩,⟨q1,q2,q3⟩,rfl,rfl⟩ := h
  refine ⟨_,.inl rfl,?_⟩
  have rL : ∀ r : Int × Int,aZ [di r.1,di r.2] 0 = some (di r.1) := fun _ => rfl
  have jv : ∀ r : Int × Int,aZ [di r.1,di r.2] 1 = some (di r.2) := fun _ => rfl
  exact aN (cf (Ev.s (aY iR (Nat.le_refl _) (ah (fc (nC (bO (ae 0 rfl) au rfl (rL p)) (bO (ae 1 rfl) au rfl (jv q)) ⟨gJ p3 (by decide),gJ q2 (by decide)⟩) (nC (bO (ae 1 rfl) au rfl (rL q)) (bO (ae 0 rfl) au rfl (jv p)) ⟨gJ q3 (by decide),gJ p2 (by decide)⟩)) (ah (nC (bO (ae 0 rfl) au rfl (jv p)) (bO (ae 1 rfl) au rfl (jv q)) ⟨gJ p2 (by decide),gJ q2 (by decide)⟩) av)) ⟨_,_,Int.mul_pos p1 q1,gJ (Rz p2 q2) (by decide),rfl,rfl⟩)))
abbrev mn : Stmt := top 22
theorem vD : bh ["orders", "many", "asker", "order"] ["orders", "many"] (ag mn) := ⟨rfl,rfl,rfl,by decide +kernel,rfl,by decide +kernel,by decide +kernel⟩
def Gi (dd : List Dv) (t : Tr) : Prop := ∃ (os : List (List Int)) (n : Int),(∀ o ∈ os,o.Nodup /\ o.length <= 100 /\ ∀ x ∈ o,0 <= x /\ x < n) /\ dd = [.lst (os.map dis),di n] /\ t = tn
theorem xq {α : Type} (l : List α) (f : α -> Bool) : er (.ow (l.map fun k => Tr.fz (db (f k)))) = .lst ((l.map f).map db) := by
  rw [jC,List.map_map]; rfl
theorem La {f : Addr} {fd : FuncData} {k : Nat} (F : bu K "check_orders" "check_orders" mn f fd) (T : Txt mg) : aR P w K mg base aq (k + 1) f fd ["orders", "many"] (spT K Gi) := by
  refine bG F.d vD (fun dd t h => by obtain ⟨_,_,_,rfl,_⟩ := h; rfl) fun dd t h => ?_
  obtain ⟨os,n,ho,rfl,rfl⟩ := h
  refine ⟨_,.inr ⟨rfl,[some (.fz (.lst (os.map dis))),some (ti n),none,none],rfl⟩,?_⟩
  have big : 1000 < sizeLine := by decide
  refine ak (ρ1 := [some (.fz (.lst (os.map dis))),some (ti n),none,none]) (eE (bA.s (wC T.vL (ae 0 rfl) rfl)) (p7 2 3 (fun _ => vD.nd)) (fun _ => [some (.fz (.lst (os.map dis))),some (ti n),none,none]) rfl (fun _ => rfl) (fun j d hd => ?_)) ?_
  · obtain ⟨x,hx,rfl⟩ := xi hd
    obtain ⟨o,gT,rfl⟩ := eA hx
    obtain ⟨o1,o2,o3⟩ := ho o (List.mem_of_getElem? gT)
    refine ⟨_,_,rfl,aN (du (Et.s (gI (xN (bs := o.map fun x => decide (x < 0) || decide (n <= x)) T.yk (kF (own := ["thing"]) (fr := [1]) o di (fun x => tb (decide (x < 0) || decide (n <= x))) (fun i => lcs ⟨rfl,rfl,by decide +kernel,by decide +kernel,by decide +kernel,by decide +kernel⟩) (cT (ae 3 rfl) rfl) (bJ 0 (fun _ => by show List.Nodup (["thing", "many"] : List Str); decide)) (by decide) (by omega) (fun x hx => ⟨_,rfl,Hk (yb (ae 0 rfl) au) fun _ => sS (R6 (ae 0 rfl) (ae 1 rfl))⟩) (fun dd => by cases dd <;> rfl)) (xq o _)))) ?_),[2,3],rfl⟩
    rw [List.any_eq_false]
    intro b hb
    obtain ⟨x,hx,rfl⟩ := List.mem_map.mp hb
    obtain ⟨x0,x1⟩ := o3 x hx
    simp only [id,decide_eq_false (show ¬ x < 0 by omega),decide_eq_false (show ¬ n <= x by omega)]
    decide
  refine ak (ρ1 := [some (.fz (.lst (os.map dis))),some (ti n),none,none]) (eE (bA.s (wC T.vL (ae 0 rfl) rfl)) (p7 2 3 (fun _ => vD.nd)) (fun _ => [some (.fz (.lst (os.map dis))),some (ti n),none,none]) rfl (fun _ => rfl) (fun j d hd => ?_)) w4
  obtain ⟨x,hx,rfl⟩ := xi hd
  obtain ⟨o,gT,rfl⟩ := eA hx
  obtain ⟨o1,o2,o3⟩ := ho o (List.mem_of_getElem? gT)
  refine ⟨_,_,rfl,aN (du (Et.s (Hi (Np T.cC T.Ss (ae 3 rfl) rfl (by omega)) (cL T.cC (ae 3 rfl) (.inl rfl)))) ?_),[2,3],rfl⟩
  rw [LW o1,List.length_map]
  simp
abbrev mU : Stmt := top 23
theorem Ms : bh ["counts", "orders"] ["counts", "orders"] (ag mU) := ⟨rfl,rfl,rfl,by decide +kernel,rfl,by decide +kernel,by decide +kernel⟩
def Im (dd : List Dv) (t : Tr) : Prop := ∃ (c : List Int) (os : List (List Int)),cV c os /\ dd = [dis c,.lst (os.map dis)] /\ t = .tp [aM c,kN os]
theorem Mt {f f1 : Addr} {fd aW : FuncData} {k : Nat} (F : bu K "table_of" "table_of" mU f fd) (T : Txt mg) (Lf : Kn P w K mg base aq (k + 1) "check_orders" f1 aW ["orders", "many"] (spT K Gi)) : aR P w K mg base aq (k + 2) f fd ["counts", "orders"] (spT K Im) := by
  refine bG F.d Ms (fun dd t h => by obtain ⟨_,_,_,rfl,_⟩ := h; rfl) fun dd t h => ?_
  obtain ⟨c,os,ok,rfl,rfl⟩ := h
  refine ⟨_,.inl rfl,?_⟩
  have big : 1000 < sizeLine := by decide
  have c6 := ok.c6
  have o6 := ok.o6
  have o1 := ok.o1
  obtain ⟨tk,gm⟩ := T.qc
  obtain ⟨tk2,Yi⟩ := T.oR
  refine ak (du (Et.s (Ew.et (kL (jN (cL T.cC (ae 0 rfl) (.inl rfl)) (pG (v := .int 6) gm ⟨_,rfl⟩ rfl)) fun _ => (nD (jN (cL T.cC (ae 1 rfl) (.inl rfl)) (pG (v := .int 6) gm ⟨_,rfl⟩ rfl)))))) ?_) ?_
  · rw [List.length_map,List.length_map,decide_eq_false (by omega),decide_eq_false (by omega)]; rfl
  refine ak (du (Et.s (nR (cL T.cC (ae 1 rfl) (.inl rfl)) au)) ?_) ?_
  · rw [List.length_map,decide_eq_false (by omega)]
  refine ak (du (Et.s (gI (xN (bs := c.map fun x => decide (x < 0) || decide (9 < x)) T.yk (kF (own := ["count"]) (fr := []) c di (fun x => tb (decide (x < 0) || decide (9 < x))) (fun i => lcs ⟨rfl,rfl,by decide +kernel,by decide +kernel,by decide +kernel,by decide +kernel⟩) (cT (ae 0 rfl) rfl) (bJ 0 (fun _ => by show List.Nodup (["count"] : List Str); decide)) (by decide) (by omega) (fun x hx => ⟨_,rfl,by exact Hk (yb (ae 0 rfl) au) fun _ => sS (R5 (ae 0 rfl) (pG (v := .int 9) Yi ⟨_,rfl⟩ rfl))⟩) (fun dd => by cases dd <;> rfl)) (xq c _)))) ?_) ?_
  · rw [List.any_eq_false]
    intro b hb
    obtain ⟨x,hx,rfl⟩ := List.mem_map.mp hb
    obtain ⟨x0,x1⟩ := ok.cnt x hx
    simp only [id,decide_eq_false (show ¬ x < 0 by omega),decide_eq_false (show ¬ 9 < x by omega)]
    decide
  refine ak (w8 (Ev.s (aY Lf (Nat.le_refl _) (ah (ae 1 rfl) (ah (cL T.cC (ae 0 rfl) (.inl rfl)) av)) ⟨os,c.length,fun o ho => ⟨ok.nd o ho,Nat.le_trans (ok.jS ho) (by decide),ok.bQ o ho⟩,?_,rfl⟩))) ?_
  rotate_left
  · rw [List.length_map]; rfl
  refine aN (cf (Ev.s (Ev.to (sT (ah (jF T.fP (ae 0 rfl) (.inl rfl)) (ah (kF (own := ["order"]) (fr := []) os dis aM (fun i => lcs ⟨rfl,rfl,by decide +kernel,by decide +kernel,by decide +kernel,by decide +kernel⟩) (cT (ae 1 rfl) rfl) (bJ 0 (fun _ => by show List.Nodup (["order"] : List Str); decide)) (by decide) (by omega) (fun o ho => ⟨_,rfl,Ev.to (jF T.fP (ae 0 rfl) (.inl rfl)) (by rw [jH])⟩) (fun dd => by cases dd <;> rfl)) av)) (by show 2 <= sizeLine; decide)) (by rw [jH]))))
abbrev mC : Stmt := top 24
theorem vG : bh ["table", "asker", "many", "order"] ["table", "asker"] (ag mC) := ⟨rfl,rfl,rfl,by decide +kernel,rfl,by decide +kernel,by decide +kernel⟩
def nU (dd : List Dv) (t : Tr) : Prop := ∃ (c : List Int) (os : List (List Int)) (a : Int) (o : List Int),c.length <= 100 /\ o.length <= 100 /\ aZ os a = some o /\ dd = [aX c os,di a] /\ t = aM (aJ c.length o)
theorem E8 {α β : Type} (f : α -> β) {l : List α} {k : Int} {x : α} (h : aZ l k = some x) : aZ (l.map f) k = some (f x) := by
  unfold aZ at h ⊢
  rw [List.length_map]
  cases q : dR l.length k with
  | none => rw [q] at h; cases h
  | some j =>
    rw [q] at h
    show (l.map f)[j]? = _
    have h' : l[j]? = some x := h
    rw [List.getElem?_map,h']; rfl
theorem Lz {f : Addr} {fd : FuncData} {k : Nat} (F : bu K "full_order" "full_order" mC f fd) (T : Txt mg) : aR P w K mg base aq (k + 1) f fd ["table", "asker"] (spT K nU) := by
  refine bG F.d vG (fun dd t h => by obtain ⟨_,_,_,_,_,_,_,rfl,_⟩ := h; rfl) fun dd t h => ?_
  obtain ⟨c,os,a,o,h1,h2,h3,rfl,rfl⟩ := h
  refine ⟨_,.inl rfl,?_⟩
  have big : 1000 < sizeLine := by decide
  refine ak (aH 2 (Ev.s (cL T.cC (bO (d := dis c) (ae 0 rfl) au rfl rfl) (.inl rfl))) (fun _ => vG.nd)) ?_
  refine ak (aH 3 (Ev.s (cw (d := dis o) (bO (d := .lst (os.map dis)) (ae 0 rfl) au rfl rfl) (ae 1 rfl) rfl (E8 dis h3))) (fun _ => vG.nd)) ?_
  rw [List.length_map]
  refine aN (cf (Ev.s (Ev.to (iz (iz (ae 3 rfl) (bX (ah (ae 2 rfl) av) (by show 1 <= sizeLine; decide)) rfl rfl ?_) (kM (own := ["thing"]) (fr := [3]) (fun i => lcs ⟨rfl,rfl,by decide +kernel,by decide +kernel,by decide +kernel,by decide +kernel⟩) (fG T.eC (ae 2 rfl) ⟨by omega,by omega⟩) (bJ 0 (fun _ => by show List.Nodup (["thing", "order"] : List Str); decide)) (by decide) (fun k => !o.contains (0 + ((k : Nat) : Int))) (fun k => ti (0 + ((k : Nat) : Int))) ?_ (fun k d hd => ?_) (fun dd => ?_)) (iA _) (kE _ _) ?_) ?_)))
  · show (o.map di).length + 1 <= sizeLine
    rw [List.length_map]; omega
  · rw [List.length_map,List.length_range]; omega
  · obtain ⟨hi,rfl⟩ := jG hd
    exact ⟨_,rfl,iX (pj (ae 0 rfl) (ae 1 rfl) rfl (by with_unfolding_all rfl)),fun _ => ae 0 rfl⟩
  · cases dd <;> rfl
  · have e : (fi 0 ((c.length : Nat) : Int).toNat).length = c.length := by simp
    rw [e]
    show ((o.map di) ++ [di _]).length + ((gu c.length o).map di).length <= sizeLine
    have := o8 c.length o
    simp only [List.length_append,List.length_map,List.length_singleton]
    omega
  · have e : (fi 0 ((c.length : Nat) : Int).toNat).length = c.length := by simp
    rw [e]
    show Tr.ow ((((o.map di) ++ [di _]) ++ ((gu c.length o).map di)).map .fz) = Tr.ow ((o ++ [(c.length : Int)] ++ gu c.length o).map _)
    simp only [List.map_append,List.map_map]
    rfl
abbrev mE : Stmt := top 25
theorem LA : bh ["order", "gone"] ["order", "gone"] (ag mE) := ⟨rfl,rfl,rfl,by decide +kernel,rfl,by decide +kernel,by decide +kernel⟩
def dZ (order gone : List Int) : List Int := order.filter fun x => !gone.contains x
def Gj (dd : List Dv) (t : Tr) : Prop := ∃ (order gone : List Int) (x : Int) (r : List Int),order.length <= 100 /\ dZ order gone = x :: r /\ dd = [dis order,dis gone] /\ t = ti x
theorem LZ {α : Type} (l : List α) (d : α) (p : α -> Bool) : (((List.range l.length).filter fun k => p ((l[k]?).getD d)).map fun k => (l[k]?).getD d) = l.filter p := by
  have h : ((List.range l.length).map fun k => (l[k]?).getD d) = l := by
    have := vF l d id
    simpa using this
  conv => rhs; rw [<- h]
  rw [List.filter_map]
  rfl
theorem LC {f : Addr} {fd : FuncData} {k : Nat} (F : bu K "first_left" "first_left" mE f fd) (T : Txt mg) : aR P w K mg base aq (k + 1) f fd ["order", "gone"] (spT K Gj) := by
  refine bG F.d LA (fun dd t h => by obtain ⟨_,_,_,_,_,_,rfl,_⟩ := h; rfl) fun dd t h => ?_
  obtain ⟨order,gone,x,r,h1,h2,rfl,rfl⟩ := h
  refine ⟨_,.inl rfl,?_⟩
  have big : 1000 < sizeLine := by decide
  refine aN (cf (Ev.s (cw (xs := (dZ order gone).map di) (d := di x) (kM (own := ["one"]) (fr := [1]) (fun i => lcs ⟨rfl,rfl,by decide +kernel,by decide +kernel,by decide +kernel,by decide +kernel⟩) (cT (ae 0 rfl) rfl) (bJ 0 (fun _ => by show List.Nodup (["one", "gone"] : List Str); decide)) (by decide) (fun k => !gone.contains ((order[k]?).getD 0)) (fun k => ti ((order[k]?).getD 0)) ?_ (fun k d hd => ?_) (fun dd => ?_)) au ?_ ?_)))
  · rw [List.length_map]; omega
  · obtain ⟨y,hy,rfl⟩ := eA hd
    refine ⟨_,rfl,?_,fun _ => ?_⟩
    · rw [hy]; exact iX (pj (ae 0 rfl) (ae 1 rfl) rfl (by with_unfolding_all rfl))
    · rw [hy]; exact ae 0 rfl
  · cases dd <;> rfl
  · rw [kE,List.length_map,LZ order 0 fun x => !gone.contains x]
    rfl
  · rw [h2]; exact e9 (j := 0) rfl
abbrev m3 : Stmt := top 41
theorem oW : bh ["table", "turns", "counts", "deal", "asker", "gone"] ["table", "turns"] (ag m3) := ⟨rfl,rfl,rfl,by decide +kernel,rfl,by decide +kernel,by decide +kernel⟩
def cP (ws : List V) (x : Int) : Nat := ws.countP fun z => cX z (.int x)
def gv (c : List Int) (ws : List V) : List Int := ((List.range c.length).filter fun k => decide (((cP ws ((k : Nat) : Int) : Nat) : Int) = (c[k]?).getD 0)).map fun k => ((k : Nat) : Int)
def eU (c : List Int) (o : List Int) (ws : List V) : Int := (dZ (aJ c.length o) (gv c ws)).headD 0
def fR (c : List Int) (os : List (List Int)) (ws : List V) (a : Int) : List V := ws.set a.toNat (.int (eU c (os.getD a.toNat []) ws))
def bK (c : List Int) (os : List (List Int)) (turns : List Int) : List V := turns.foldl (fR c os) (List.replicate os.length .aF)
def zc : V -> Int
  | .int n => n
  | _ => 0
def bC (c : List Int) (os : List (List Int)) (turns : List Int) : List Int := (bK c os turns).map zc
theorem Mu (n : Nat) : (aG n).Pairwise (· <= ·) := by
  unfold aG
  rw [List.pairwise_map]
  exact (List.pairwise_lt_range (n := n)).imp fun h => by omega
theorem xt {c : List Int} {ws : List V} {x : Int} (h : x ∈ gv c ws) : 0 <= x /\ x < c.length /\ ((cP ws x : Nat) : Int) = (c[x.toNat]?).getD 0 := by
  obtain ⟨k,hk,rfl⟩ := List.mem_map.mp h
  obtain ⟨h1,h2⟩ := List.mem_filter.mp hk
  have := List.mem_range.mp h1
  refine ⟨by omega,by omega,?_⟩
  rw [show ((k : Nat) : Int).toNat = k by omega]
  simpa using h2
theorem Ea {c : List Int} {ws : List V} {x : Int} (h0 : 0 <= x) (h1 : x < c.length) (h2 : ((cP ws x : Nat) : Int) = (c[x.toNat]?).getD 0) : x ∈ gv c ws := by
  refine List.mem_map.mpr ⟨x.toNat,List.mem_filter.mpr ⟨List.mem_range.mpr (by omega),?_⟩,by omega⟩
  rw [show ((x.toNat : Nat) : Int) = x by omega]
  simpa using h2
theorem pM (c o : List Int) (ws : List V) : ∃ x r,dZ (aJ c.length o) (gv c ws) = x :: r := by
  have hm : ((c.length : Nat) : Int) ∈ dZ (aJ c.length o) (gv c ws) := by
    unfold dZ aJ
    refine List.mem_filter.mpr ⟨by simp,?_⟩
    rw [Bool.not_eq_true',Bool.eq_false_iff]
    intro z
    have := xt (by simpa using z)
    omega
  cases h : dZ (aJ c.length o) (gv c ws) with
  | nil => rw [h] at hm; cases hm
  | cons x r => exact ⟨x,r,rfl⟩
theorem kh (c : List Int) (os : List (List Int)) (ts : List Int) (a : Int) : bK c os (ts ++ [a]) = fR c os (bK c os ts) a := by unfold bK; rw [List.foldl_append]; rfl
theorem kj (c : List Int) (os : List (List Int)) : ∀ ts : List Int,(bK c os ts).length = os.length := by
  intro ts
  unfold bK
  have gen : ∀ (ts : List Int) (ws : List V),(ts.foldl (fR c os) ws).length = ws.length := by
    intro ts
    induction ts with
    | nil => intro ws; rfl
    | cons a ts ih => intro ws; rw [List.foldl_cons,ih]; unfold fR; rw [List.length_set]
  rw [gen,List.length_replicate]
theorem wL (c : List Int) (os : List (List Int)) : ∀ (ts : List Int),(∀ a ∈ ts,0 <= a /\ a < os.length) -> ∀ i,i < os.length -> ((i : Int) ∉ ts -> (bK c os ts)[i]? = some .aF) /\ ((i : Int) ∈ ts -> ∃ n,(bK c os ts)[i]? = some (.int n)) := by
  have gen : ∀ (n : Nat) (ts : List Int),ts.length = n -> (∀ a ∈ ts,0 <= a /\ a < os.length) -> ∀ i,i < os.length -> ((i : Int) ∉ ts -> (bK c os ts)[i]? = some .aF) /\ ((i : Int) ∈ ts -> ∃ n,(bK c os ts)[i]? = some (.int n)) := ?_
  exact fun ts => gen ts.length ts rfl
  intro n
  induction n with
  | zero =>
    intro ts hl _ i hi
    obtain rfl := List.length_eq_zero_iff.mp hl
    refine ⟨fun _ => ?_,fun h => nomatch h⟩
    show (List.replicate os.length V.aF)[i]? = _
    rw [List.getElem?_replicate,if_pos hi]
  | succ n ih =>
    intro rM hl h i hi
    obtain ⟨ts,a,rfl⟩ : ∃ ts a,rM = ts ++ [a] := by
      rcases List.eq_nil_or_concat rM with rfl | ⟨ts,a,rfl⟩
      · cases hl
      · exact ⟨ts,a,by rw [List.concat_eq_append]⟩
    obtain ⟨i1,i2⟩ := ih ts (by simpa using hl) (fun x hx => h x (List.mem_append_left _ hx)) i hi
    have ha := h a (by simp)
    rw [kh]
    unfold fR
    rw [List.getElem?_set,kj]
    by_cases e : a.toNat = i
    · rw [if_pos e,if_pos (by omega)]
      refine ⟨fun z => absurd (by simp; right; omega) z,fun _ => ⟨_,rfl⟩⟩
    · rw [if_neg e]
      refine ⟨fun z => i1 fun z' => z (List.mem_append_left _ z'),fun z => i2 ?_⟩
      rcases List.mem_append.mp z with z | z
      · exact z
      · have := List.mem_singleton.mp z
        omega
theorem MP {c : List Int} {os : List (List Int)} {ts : List Int} (h : ts.Perm (aG os.length)) : bK c os ts = (bC c os ts).map V.int := by
  unfold bC
  rw [List.map_map]
  refine List.ext_getElem? fun i => ?_
  rw [List.getElem?_map]
  rcases Nat.lt_or_ge i os.length with hi | hi
  · obtain ⟨n,hn⟩ := (wL c os ts (fun a ha => by have := fM.mp (h.mem_iff.mp ha); exact this) i hi).2 (h.mem_iff.mpr (fM.mpr ⟨by omega,by omega⟩))
    rw [hn]; rfl
  · rw [List.getElem?_eq_none (by rw [kj]; exact hi)]; rfl
def pN (dd : List Dv) (t : Tr) : Prop := ∃ (c : List Int) (os : List (List Int)) (ts : List Int),cV c os /\ ts.Perm (aG os.length) /\ dd = [aX c os,dis ts] /\ t = aM (bC c os ts)
theorem MQ {f f1 f2 : Addr} {fd aW fd2 : FuncData} {k : Nat} (F : bu K "deal_by" "deal_by" m3 f fd) (T : Txt mg) (vI : Kn P w K mg base aq (k + 1) "full_order" f1 aW ["table", "asker"] (spT K nU)) (L0 : Kn P w K mg base aq (k + 1) "first_left" f2 fd2 ["order", "gone"] (spT K Gj)) : aR P w K mg base aq (k + 2) f fd ["table", "turns"] (spT K pN) := by
  refine bG F.d oW (fun dd t h => by obtain ⟨_,_,_,_,_,rfl,_⟩ := h; rfl) fun dd t h => ?_
  obtain ⟨c,os,ts,ok,hp,rfl,rfl⟩ := h
  refine ⟨_,.inl rfl,?_⟩
  have big : 1000 < sizeLine := by decide
  have hlen : ts.length = os.length := by rw [hp.length_eq]; unfold aG; rw [List.length_map,List.length_range]
  have o6 := ok.o6
  have c6 := ok.c6
  refine ak (aH 2 (Ev.s (bO (d := dis c) (ae 0 rfl) au rfl rfl)) (fun _ => oW.nd)) ?_
  have Su : sortI ts = aG os.length := C2 ((sortI_perm ts).trans hp) (DY ts) (Mu _)
  have e1 : er (aM (sortI ts)) = dis (sortI ts) := dN _
  have e2 : er (Tr.ow (((List.range (((os.map dis).length : Nat) : Int).toNat).map fun i => (0 + ((i : Nat) : Int))).map fun n => Tr.fz (di n))) = dis (aG os.length) := by rw [kE,List.map_id',List.length_map]; rfl
  refine ak (du (Et.s (sR (Nq T.D8 (ae 1 rfl) rfl (by omega)) (CY T.fP T.eC (cL T.cC (bO (d := .lst (os.map dis)) (ae 0 rfl) au rfl rfl) (.inl rfl)) (by omega) (by rw [List.length_map]; omega)) (.inl ⟨_,_,rfl,rfl⟩) ?_)) ?_) ?_
  · rw [e1]; exact Nat.le_trans (pK _) (by decide)
  · rw [e1,e2,Su,pq (sI _)]; rfl
  refine ak (aH 3 (Ev.s (Ev.to (t' := .ow ((List.replicate os.length V.aF).map fun v => .fz (.fl v))) (kM (own := ["asker"]) (fr := []) (fun i => lcs ⟨rfl,rfl,by decide +kernel,by decide +kernel,by decide +kernel,by decide +kernel⟩) (cT (ae 1 rfl) rfl) (bJ 0 (fun _ => by show List.Nodup (["asker"] : List Str); decide)) (by decide) (fun k => true) (fun k => tn) ?_ (fun k d hd => ?_) (fun dd => ?_)) ?_)) (fun _ => oW.nd)) ?_
  · rw [List.length_map]; omega
  · obtain ⟨y,hy,rfl⟩ := eA hd
    exact ⟨_,rfl,nF,fun _ => Q7⟩
  · cases dd <;> rfl
  · rw [List.filter_eq_self.mpr (fun _ _ => rfl),List.length_map,hlen]
    congr 1
    refine List.ext_getElem? fun i => ?_
    rw [List.getElem?_map,List.getElem?_map,List.getElem?_replicate]
    rcases Nat.lt_or_ge i os.length with hi | hi
    · rw [List.getElem?_range hi,if_pos hi]; rfl
    · rw [List.getElem?_eq_none (by simpa using hi),if_neg (by omega)]; rfl
  refine ak (eE (bA.s (cT (ae 1 rfl) rfl)) (bJ 4 (fun _ => oW.nd)) (fun k => [some (.fz (aX c os)),some (.fz (dis ts)),some (.fz (dis c)),some (.ow ((bK c os (ts.take k)).map fun v => .fz (.fl v))),none,none]) rfl (fun _ => rfl) (fun j d hd => ?_)) ?_
  · obtain ⟨a,ha,rfl⟩ := eA hd
    obtain ⟨a0,a1⟩ := fM.mp (hp.mem_iff.mp (List.mem_of_getElem? ha))
    obtain ⟨o,jw⟩ : ∃ o,os[a.toNat]? = some o := ⟨_,List.getElem?_eq_getElem (by omega)⟩
    have lZ : aZ os a = some o := by
      have := e9 jw
      rwa [show ((a.toNat : Nat) : Int) = a by omega] at this
    have Yj := ok.jS (List.mem_of_getElem? jw)
    obtain ⟨x,r,hx⟩ := pM c o (bK c os (ts.take j))
    have JU : (aJ c.length o).length <= 100 := by
      unfold aJ
      have := o8 c.length o
      simp only [List.length_append,List.length_singleton]
      omega
    have Sv : eU c (os.getD a.toNat []) (bK c os (ts.take j)) = x := by
      unfold eU
      rw [List.getD_eq_getElem?_getD,jw,Option.getD_some,hx]
      rfl
    refine ⟨_,_,rfl,ak (nG 5 (y4 (eY.to (t' := aM (gv c (bK c os (ts.take j)))) (rp (own := ["thing", "count"]) (fr := [3]) (wC T.vL (ae 2 rfl) rfl) (p7 0 1 (fun _ => by show List.Nodup (["thing", "count", "deal"] : List Str); decide)) (by decide) (fun k => decide (((cP (bK c os (ts.take j)) ((k : Nat) : Int) : Nat) : Int) = (c[k]?).getD 0)) (fun k => ti ((k : Nat) : Int)) ?_ (fun k d hd => ?_) (fun dd => ?_)) ?_) ?_) (fun i => lcs ⟨rfl,rfl,by decide +kernel,by decide +kernel,by decide +kernel,by decide +kernel⟩) (fun _ => oW.nd))
      (aN (m8 3 (n := a) (m := a.toNat) rfl (Ev.s (ae 4 rfl)) ?_ (Ev.pk (t := ti x) (aY L0 (Nat.le_refl _) (ah (aY vI (Nat.le_refl _) (ah (ae 0 rfl) (ah (ae 4 rfl) av)) ⟨c,os,a,o,by omega,by omega,lZ,rfl,rfl⟩) (ah (ae 5 rfl) av)) ⟨_,_,x,r,JU,hx,?_,rfl⟩) True.intro) (hps := fun i => nz (pv 3) (jO i) set_list))),[4,5],?_⟩
    · rw [ER,List.length_map]; omega
    · obtain ⟨y,hy,rfl⟩ := xi hd
      obtain ⟨z,hz,rfl⟩ := eA hy
      refine ⟨_,rfl,?_,fun _ => ae 0 rfl⟩
      rw [hz]
      exact iX (nR (Nr (ae 2 rfl) (Om _) (ae 0 rfl)) (ae 1 rfl))
    · match dd with
      | [] => rfl
      | [_] => rfl
      | _ :: _ :: _ => rfl
    · rw [ER,List.length_map]
      show _ = Tr.ow ((List.map _ _).map _)
      rw [List.map_map]
      rfl
    · exact pH _
    · rw [List.length_map,kj]
      unfold dR
      rw [if_pos a0,if_pos a1]
    · show [_,_,_,some (Tr.ow (List.set _ _ _)),_,_] = [_,_,_,some (Tr.ow _),_,_]
      rw [dJ ha,kh]
      unfold fR
      rw [Sv,List.map_set]
    · show [er (aM _),er (aM _)] = _
      rw [dN,dN]
  · rw [List.length_map,List.take_length,MP hp,List.map_map]
    exact aN (kB 3 rfl)
end
end bw
namespace bw
open PySem L2 dI
section
variable {P : Program} {w : World} {K : PySem.W.Frag} {mg : Str -> Option Value} {base : Heap}
def cv (L : List (List Int)) (n : Nat) : List (List Int) := L.flatMap fun l => ((List.range n).filter fun k => !l.contains (0 + ((k : Nat) : Int))).map fun k => l ++ [0 + ((k : Nat) : Int)]
def bj (n : Nat) : Nat -> List (List Int)
  | 0 => [[]]
  | k + 1 => cv (bj n k) n
abbrev tL (l : List Int) : Tr := .ow (l.map fun n => .fz (di n))
abbrev eu (L : List (List Int)) : Tr := .ow (L.map tL)
theorem OG (l : List Int) : cJ (l.map fun n => Tr.fz (di n)) = l.map di := by rw [iq,List.map_map]; rfl
theorem Sw (l : List Int) : er (tL l) = dis l := by show Dv.lst _ = _; rw [OG]
theorem sV (L : List (List Int)) : er (eu L) = .lst (L.map dis) := by
  show Dv.lst _ = _
  rw [iq,List.map_map]
  congr 1
  exact List.map_congr_left fun l _ => Sw l
theorem Gk : ∀ L : List (List Int),kW (L.map tL)
  | [] => True.intro
  | l :: L => ⟨pH l,Gk L⟩
theorem vM (n : Nat) : ∀ L : List (List Int),(cv L n).length <= L.length * n
  | [] => Nat.zero_le _
  | l :: L => by
    show ((((List.range n).filter _).map _) ++ cv L n).length <= _
    rw [List.length_append,List.length_map,List.length_cons,Nat.succ_mul]
    have h1 := List.length_filter_le (fun k => !l.contains (0 + ((k : Nat) : Int))) (List.range n)
    rw [List.length_range] at h1
    have := vM n L
    omega
abbrev nc : Stmt := top 42
theorem wg : bh ["lists", "many", "told", "one"] ["lists", "many"] (ag nc) := ⟨rfl,rfl,rfl,by decide +kernel,rfl,by decide +kernel,by decide +kernel⟩
def pO (dd : List Dv) (t : Tr) : Prop := ∃ (L : List (List Int)) (n : Nat),dd = [.lst (L.map dis),di n] /\ L.length * n <= 1000 /\ n <= 100 /\ (∀ l ∈ L,l.length <= 100) /\ t = eu (cv L n)
theorem NA {f : Addr} {fd : FuncData} {k : Nat} (F : bu K "longer" "longer" nc f fd) (T : Txt mg) : aR P w K mg base aq (k + 1) f fd ["lists", "many"] (spT K pO) := by
  refine bG F.d wg (fun dd t h => by obtain ⟨L,n,rfl,_⟩ := h; rfl) fun dd t h => ?_
  obtain ⟨L,n,rfl,h1,h2,h3,rfl⟩ := h
  refine ⟨_,.inl rfl,?_⟩
  have big : 1000 <= sizeLine := by decide
  refine ak (aH 2 (Ev.s (bX av (Nat.zero_le _))) (fun _ => wg.nd)) ?_
  refine ak (eE (bA.s (cT (ae 0 rfl) rfl)) (bJ 3 (fun _ => wg.nd)) (fun k => [some (.fz (.lst (L.map dis))),some (.fz (di n)),some (eu (cv (L.take k) n)),none]) rfl (fun _ => rfl) (fun j d hd => ?_)) ?_
  · rw [List.getElem?_map] at hd
    cases hl : L[j]? with
    | none => rw [hl] at hd; cases hd
    | some l =>
      rw [hl] at hd
      cases hd
      have hjL : j < L.length := (List.getElem?_eq_some_iff.mp hl).1
      have e : (cv (L.take (j + 1)) n) = cv (L.take j) n ++ ((List.range n).filter fun k => !l.contains (0 + ((k : Nat) : Int))).map fun k => l ++ [0 + ((k : Nat) : Int)] := by
        rw [dJ hl]
        unfold cv
        rw [List.flatMap_append]
        simp
      have hlen : (cv (L.take (j + 1)) n).length <= 1000 := by
        refine Nat.le_trans (vM _ _) (Nat.le_trans (Nat.mul_le_mul_right n ?_) h1)
        rw [List.length_take]; omega
      refine ⟨_,_,rfl,aN (vZ 2 rfl (Ev.s (kM (own := ["number"]) (fr := [3]) (fun i => lcs ⟨rfl,rfl,by decide +kernel,by decide +kernel,by decide +kernel,by decide +kernel⟩) (fG T.eC (ae 1 rfl) ⟨by omega,by omega⟩)
        (bJ 0 (fun _ => by show List.Nodup (["number", "one"] : List Str); decide)) (by decide) (fun k => !l.contains (0 + (k : Int))) (fun k => .ow ((l.map di ++ [di (0 + ((k : Nat) : Int))]).map .fz)) ?_ (fun k d hd => ?_) (fun dd => ?_))) ?_),?_⟩
      · rw [List.length_map,List.length_range]
        show (n : Int).toNat < sizeLine
        omega
      · rw [List.getElem?_map] at hd
        cases hk : (List.range ((n : Int).toNat))[k]? with
        | none => rw [hk] at hd; cases hd
        | some k' =>
          have : k' = k := by
            obtain ⟨q1,q2⟩ := List.getElem?_eq_some_iff.mp hk
            rw [List.getElem_range] at q2; exact q2.symm
          subst this
          rw [hk] at hd
          cases hd
          refine ⟨_,rfl,iX (pj (ae 0 rfl) (ae 1 rfl) rfl (by with_unfolding_all rfl)),fun _ => iz (ae 1 rfl) (bX (ah (ae 0 rfl) av) (by show 1 <= sizeLine; decide)) rfl rfl ?_⟩
          show (l.map di).length + 1 <= sizeLine
          have := h3 l (List.mem_of_getElem? hl)
          rw [List.length_map]
          omega
      · cases dd <;> rfl
      · rw [List.length_map,List.length_map]
        have := congrArg List.length e
        rw [List.length_append,List.length_map] at this
        rw [List.length_map,List.length_range]
        show _ + (List.filter _ (List.range n)).length <= sizeLine
        omega
      · refine ⟨[3],?_⟩
        have eT : eu (cv (L.take (j + 1)) n) = .ow (List.map tL (cv (L.take j) n) ++ List.map (fun k => Tr.ow (List.map Tr.fz (List.map di l ++ [di (0 + ((k : Nat) : Int))]))) (List.filter (fun k => !l.contains (0 + ((k : Nat) : Int))) (List.range (fi 0 ((n : Nat) : Int).toNat).length))) := by
          rw [e]
          unfold eu
          rw [List.map_append,List.map_map,List.length_map,List.length_range]
          congr 2
          refine List.map_congr_left fun k _ => ?_
          show Tr.ow _ = Tr.ow _
          rw [List.map_append,List.map_append,List.map_map]
          rfl
        show [_,_,some _,_] = [_,_,some _,_]
        rw [eT]
  · rw [List.length_map,List.take_length]
    exact aN (kB 2 rfl)
abbrev mJ : Stmt := top 43
theorem rT : bh ["many", "told", "length"] ["many"] (ag mJ) := ⟨rfl,rfl,rfl,by decide +kernel,rfl,by decide +kernel,by decide +kernel⟩
def Gm (dd : List Dv) (t : Tr) : Prop := ∃ n : Nat,n <= 5 /\ dd = [di n] /\ t = eu (bj n n)
theorem vN : ∀ n,n <= 5 -> ∀ k,k <= n -> (bj n k).length * n <= 1000 /\ ∀ l ∈ bj n k,l.length <= 100 := by
  have : ∀ n : Fin 6,∀ k : Fin (n.val + 1),(bj n.val k.val).length * n.val <= 1000 /\ ((bj n.val k.val).all fun l => decide (l.length <= 100)) = true := by decide +kernel
  intro n hn k hk
  obtain ⟨h1,h2⟩ := this ⟨n,by omega⟩ ⟨k,by show k < n + 1; omega⟩
  exact ⟨h1,fun l hl => by simpa using List.all_eq_true.mp h2 l hl⟩
theorem L3 {f f1 : Addr} {fd aW : FuncData} {k : Nat} (F : bu K "all_turns" "all_turns" mJ f fd) (T : Txt mg) (pz : Kn P w K mg base aq (k + 1) "longer" f1 aW ["lists", "many"] (spT K pO)) : aR P w K mg base aq (k + 2) f fd ["many"] (spT K Gm) := by
  refine bG F.d rT (fun dd t h => by obtain ⟨n,_,rfl,_⟩ := h; rfl) fun dd t h => ?_
  obtain ⟨n,hn,rfl,rfl⟩ := h
  obtain ⟨tk,hg⟩ := T.oQ
  refine ⟨_,.inl rfl,?_⟩
  refine ak (yc (Et.s (jN (ae 0 rfl) (pG (v := .int 5) hg ⟨_,rfl⟩ rfl))) (fun h => ?_) (fun h => w4)) ?_
  · exact absurd (of_decide_eq_true h) (by omega)
  refine ak (aH 1 (Ev.s (bX (ah (bX av (Nat.zero_le _)) av) (by show 1 <= sizeLine; decide))) (fun _ => rT.nd)) ?_
  refine ak (eE (bA.s (fG T.eC (ae 0 rfl) ⟨by omega,by omega⟩)) (bJ 2 (fun _ => rT.nd)) (fun k => [some (.fz (di n)),some (eu (bj n k)),none]) rfl (fun _ => rfl) (fun j d hd => ?_)) ?_
  · have hj : j < n := by
      have := (List.getElem?_eq_some_iff.mp hd).1
      simpa using this
    obtain ⟨b1,b2⟩ := vN n hn j (by omega)
    refine ⟨_,_,rfl,aN (aH 1 (Ev.pk (aY pz (Nat.le_refl _) (ah (ae 1 rfl) (ah (ae 0 rfl) av)) ⟨bj n j,n,?_,b1,by omega,b2,rfl⟩) ?_) (fun _ => rT.nd)),[2],rfl⟩
    · exact Gk _
    · show [er (eu (bj n j)),di n] = _
      rw [sV]
  · rw [List.length_map,List.length_range]
    exact aN (kB 1 rfl)
theorem pA {x y : Int} : ∀ {ws : List V} {i : Nat},ws[i]? = some .aF -> cP (ws.set i (.int x)) y = cP ws y + if x = y then 1 else 0
  | w :: ws,0,h => by
    cases h
    show (V.int x :: ws).countP _ = (V.aF :: ws).countP _ + _
    rw [List.countP_cons,List.countP_cons]
    have e1 : cX (.int x) (.int y) = decide (x = y) := by show (x == y) = _; exact Bool.beq_eq_decide_eq ..
    have e2 : cX .aF (.int y) = false := rfl
    rw [e1,e2]
    by_cases e : x = y <;> simp [e]
  | w :: ws,i + 1,h => by
    have := pA (x := x) (y := y) (ws := ws) (i := i) h
    unfold cP at this ⊢
    show (w :: ws.set i (.int x)).countP _ = (w :: ws).countP _ + _
    rw [List.countP_cons,List.countP_cons,this]
    omega
theorem sv {order gone : List Int} {x : Int} {r : List Int} (h : dZ order gone = x :: r) : x ∈ order /\ x ∉ gone := by
  have : x ∈ dZ order gone := by rw [h]; exact .head _
  obtain ⟨a,b⟩ := List.mem_filter.mp this
  exact ⟨a,by simpa using b⟩
theorem kr {n : Nat} {o : List Int} (ho : ∀ x ∈ o,0 <= x /\ x < n) : ∀ x ∈ aJ n o,0 <= x /\ x <= n := by
  intro x hx
  unfold aJ at hx
  rcases List.mem_append.mp hx with hx | hx
  · rcases List.mem_append.mp hx with hx | hx
    · have := ho x hx; omega
    · have := List.mem_singleton.mp hx; omega
  · unfold gu at hx
    obtain ⟨k,hk,rfl⟩ := List.mem_map.mp hx
    have := List.mem_range.mp (List.mem_filter.mp hk).1
    omega
theorem Eb (c : List Int) (os : List (List Int)) {i : Nat} : ∀ (ts : List Int) (ws : List V),(∀ a ∈ ts,a.toNat ≠ i) -> (ts.foldl (fR c os) ws)[i]? = ws[i]?
  | [],_,_ => rfl
  | a :: ts,ws,h => by
    rw [List.foldl_cons,Eb c os ts _ fun b hb => h b (.tail _ hb)]
    unfold fR
    rw [List.getElem?_set_ne (h a (.head _))]
theorem NB {c : List Int} {os : List (List Int)} {ts : List Int} (hp : ts.Perm (aG os.length)) {j : Nat} {a : Int} (ha : ts[j]? = some a) : (bK c os ts)[a.toNat]? = some (.int (eU c (os.getD a.toNat []) (bK c os (ts.take j)))) := by
  have hj : j < ts.length := (List.getElem?_eq_some_iff.mp ha).1
  have e : ts = (ts.take j ++ [a]) ++ ts.drop (j + 1) := by rw [<- dJ ha,List.take_append_drop]
  have nd : ts.Nodup := hp.nodup_iff.mpr (oV _)
  have r : ∀ x ∈ ts,0 <= x /\ x < os.length := fun x hx => fM.mp (hp.mem_iff.mp hx)
  have ra := r a (List.mem_of_getElem? ha)
  have off : ∀ b ∈ ts.drop (j + 1),b.toNat ≠ a.toNat := fun b hb z => by
    have rb := r b (List.mem_of_mem_drop hb)
    have : b = a := by omega
    subst this
    rw [e] at nd
    exact (List.nodup_append.mp nd).2.2 b (by simp) b hb rfl
  have e2 : bK c os ts = (ts.drop (j + 1)).foldl (fR c os) (bK c os (ts.take j ++ [a])) := by
    conv => lhs; rw [e]
    unfold bK
    rw [List.foldl_append]
  rw [e2,Eb c os _ _ off,kh]
  unfold fR
  rw [List.getElem?_set_self (by rw [kj]; omega)]
theorem OH {c : List Int} {os : List (List Int)} (ok : cV c os) {ts : List Int} (hp : ts.Perm (aG os.length)) : ∀ j,j <= ts.length -> ∀ y : Int,0 <= y -> y < c.length -> ((cP (bK c os (ts.take j)) y : Nat) : Int) <= (c[y.toNat]?).getD 0 := by
  intro j
  induction j with
  | zero =>
    intro _ y y0 y1
    have e : cP (bK c os (ts.take 0)) y = 0 := by
      show cP (List.replicate os.length V.aF) y = 0
      unfold cP
      rw [List.countP_eq_zero]
      intro v hv
      rw [List.eq_of_mem_replicate hv]
      simp [cX]
    rw [e,List.getElem?_eq_getElem (by omega)]
    exact (ok.cnt _ (List.getElem_mem (by omega))).1
  | succ j ih =>
    intro hj y y0 y1
    have := ih (by omega) y y0 y1
    obtain ⟨a,ha⟩ : ∃ a,ts[j]? = some a := ⟨_,List.getElem?_eq_getElem (by omega)⟩
    have ra := fM.mp (hp.mem_iff.mp (List.mem_of_getElem? ha))
    have nd : ts.Nodup := hp.nodup_iff.mpr (oV _)
    have nin : a ∉ ts.take j := fun z => by
      have e : ts = (ts.take j ++ [a]) ++ ts.drop (j + 1) := by rw [<- dJ ha,List.take_append_drop]
      rw [e] at nd
      exact (List.nodup_append.mp (List.nodup_append.mp nd).1).2.2 a z a (by simp) rfl
    have aF : (bK c os (ts.take j))[a.toNat]? = some .aF := by
      refine (wL c os (ts.take j) (fun x hx => fM.mp (hp.mem_iff.mp (List.mem_of_mem_take hx))) a.toNat (by omega)).1 ?_
      rw [show ((a.toNat : Nat) : Int) = a by omega]; exact nin
    rw [dJ ha,kh]
    unfold fR
    rw [pA aF]
    by_cases e : eU c (os.getD a.toNat []) (bK c os (ts.take j)) = y
    · rw [if_pos e]
      obtain ⟨x,r,hx⟩ := pM c (os.getD a.toNat []) (bK c os (ts.take j))
      have eh : eU c (os.getD a.toNat []) (bK c os (ts.take j)) = x := by unfold eU; rw [hx]; rfl
      have ng := (sv hx).2
      rw [<- eh,e] at ng
      have : ((cP (bK c os (ts.take j)) y : Nat) : Int) ≠ (c[y.toNat]?).getD 0 := fun z => ng (Ea y0 y1 z)
      omega
    · rw [if_neg e]; exact this
def lg (c o left : List Int) : Int := ((aJ c.length o).filter fun p => decide (0 < left.getD p.toNat 0)).headD 0
def kP (c : List Int) (os : List (List Int)) (s : List Int × List Int) (a : Int) : List Int × List Int :=
  (s.1.set (lg c (os.getD a.toNat []) s.1).toNat (s.1.getD (lg c (os.getD a.toNat []) s.1).toNat 0 - 1),s.2.set a.toNat (lg c (os.getD a.toNat []) s.1))
def eV (c : List Int) (os : List (List Int)) (ts : List Int) : List Int × List Int := ts.foldl (kP c os) (c ++ [(os.length : Int)],List.replicate os.length 0)
theorem Dc (c : List Int) (os : List (List Int)) (ts : List Int) (a : Int) : eV c os (ts ++ [a]) = kP c os (eV c os ts) a := by unfold eV; rw [List.foldl_append]; rfl
structure Tb (c : List Int) (os : List (List Int)) (ws : List V) (j : Nat) (s : List Int × List Int) : Prop where
  l1 : s.1.length = c.length + 1
  l2 : ∀ k,k < c.length -> s.1.getD k 0 = (c[k]?).getD 0 - ((cP ws ((k : Nat) : Int) : Nat) : Int)
  l3 : s.1.getD c.length 0 = (os.length : Int) - ((cP ws ((c.length : Nat) : Int) : Nat) : Int)
  l4 : s.2 = ws.map zc
  l5 : cP ws ((c.length : Nat) : Int) <= j
theorem wM (n : Nat) (y : Int) : cP (List.replicate n V.aF) y = 0 := by
  unfold cP
  rw [List.countP_eq_zero]
  intro z hz
  rw [List.eq_of_mem_replicate hz]
  simp [cX]
theorem NC {c o : List Int} {ws : List V} {left : List Int} (ho : ∀ x ∈ o,0 <= x /\ x < c.length) (h2 : ∀ k,k < c.length -> left.getD k 0 = (c[k]?).getD 0 - ((cP ws ((k : Nat) : Int) : Nat) : Int)) (h3 : 0 < left.getD c.length 0)
    (hle : ∀ y : Int,0 <= y -> y < c.length -> ((cP ws y : Nat) : Int) <= (c[y.toNat]?).getD 0) : lg c o left = eU c o ws := by
  unfold lg eU dZ
  congr 1
  refine List.filter_congr fun p hp => ?_
  have hr := kr ho p hp
  rcases Int.lt_or_le p c.length with h | h
  · have hk : p.toNat < c.length := by omega
    have e2 := h2 p.toNat hk
    rw [show ((p.toNat : Nat) : Int) = p by omega] at e2
    have hl := hle p hr.1 h
    by_cases hg : p ∈ gv c ws
    · have := (xt hg).2.2
      rw [e2,this,show (gv c ws).contains p = true by simpa using hg,decide_eq_false (by omega)]
      rfl
    · rw [show (gv c ws).contains p = false by simpa using hg]
      have : ((cP ws p : Nat) : Int) ≠ (c[p.toNat]?).getD 0 := fun e => hg (Ea hr.1 h e)
      rw [e2,decide_eq_true (by omega)]
      rfl
  · have qX : p.toNat = c.length := by omega
    have hg : p ∉ gv c ws := fun z => by have := xt z; omega
    rw [show (gv c ws).contains p = false by simpa using hg,qX,decide_eq_true h3]
    rfl
theorem zf {c : List Int} {os : List (List Int)} (ok : cV c os) {ts : List Int} (hp : ts.Perm (aG os.length)) : ∀ j,j <= ts.length -> Tb c os (bK c os (ts.take j)) j (eV c os (ts.take j))
  | 0,_ => by
    refine ⟨by show (c ++ [_]).length = _; simp,fun k hk => ?_,?_,?_,?_⟩
    · show (c ++ [_]).getD k 0 = _ - ((cP (List.replicate _ _) _ : Nat) : Int)
      rw [wM,List.getD_eq_getElem?_getD,List.getElem?_append_left hk]; omega
    · show (c ++ [_]).getD c.length 0 = _ - ((cP (List.replicate _ _) _ : Nat) : Int)
      rw [wM,List.getD_eq_getElem?_getD,List.getElem?_append_right (Nat.le_refl _),Nat.sub_self]
      show (os.length : Int) = _; omega
    · show List.replicate os.length 0 = (List.replicate os.length V.aF).map zc
      rw [List.map_replicate]; rfl
    · show cP (List.replicate _ _) _ <= 0
      rw [wM]; exact Nat.le_refl _
  | j + 1,hj => by
    obtain ⟨l1,l2,l3,l4,l5⟩ := zf ok hp j (by omega)
    obtain ⟨a,ha⟩ : ∃ a,ts[j]? = some a := ⟨_,List.getElem?_eq_getElem (by omega)⟩
    have ar := fM.mp (hp.mem_iff.mp (List.mem_of_getElem? ha))
    have hlen : ts.length = os.length := by rw [hp.length_eq]; unfold aG; rw [List.length_map,List.length_range]
    have hle := OH ok hp j (by omega)
    have nd : ts.Nodup := hp.nodup_iff.mpr (oV _)
    have Tc : a ∉ ts.take j := fun z => by
      have e : ts = (ts.take j ++ [a]) ++ ts.drop (j + 1) := by rw [<- dJ ha,List.take_append_drop]
      rw [e] at nd
      exact (List.nodup_append.mp (List.nodup_append.mp nd).1).2.2 a z a (by simp) rfl
    have hn := (wL c os (ts.take j) (fun x hx => fM.mp (hp.mem_iff.mp (List.mem_of_mem_take hx))) a.toNat (by omega)).1 (by rw [show ((a.toNat : Nat) : Int) = a by omega]; exact Tc)
    have ho : ∀ x ∈ os.getD a.toNat [],0 <= x /\ x < c.length := fun x hx => by
      rw [List.getD_eq_getElem?_getD,List.getElem?_eq_getElem (show a.toNat < os.length by omega)] at hx
      exact ok.bQ _ (List.getElem_mem _) x hx
    rw [dJ ha,kh,Dc]
    generalize bK c os (ts.take j) = ws at l2 l3 l4 l5 hle hn
    generalize eV c os (ts.take j) = s at l1 l2 l3 l4
    have e := NC (c := c) (o := os.getD a.toNat []) (ws := ws) (left := s.1) ho l2 (by rw [l3]; omega) hle
    have xr : 0 <= eU c (os.getD a.toNat []) ws /\ eU c (os.getD a.toNat []) ws <= c.length := by
      obtain ⟨x,r,hx⟩ := pM c (os.getD a.toNat []) ws
      have := kr ho x (sv hx).1
      unfold eU
      rw [hx]; exact this
    unfold kP fR
    rw [e]
    generalize eU c (os.getD a.toNat []) ws = x at xr
    obtain ⟨m,rfl⟩ : ∃ m : Nat,x = (m : Int) := ⟨x.toNat,by omega⟩
    rw [Int.toNat_natCast]
    have gs : ∀ k,(s.1.set m (s.1.getD m 0 - 1)).getD k 0 = if m = k then s.1.getD m 0 - 1 else s.1.getD k 0 := fun k => by
      rw [List.getD_eq_getElem?_getD,List.getElem?_set]
      by_cases h : m = k
      · subst h; rw [if_pos rfl,if_pos (by omega),if_pos rfl]; rfl
      · rw [if_neg h,if_neg h,List.getD_eq_getElem?_getD]
    refine ⟨by show (s.1.set _ _).length = _; rw [List.length_set]; exact l1,fun k hk => ?_,?_,?_,?_⟩
    · show (s.1.set m _).getD k 0 = _
      rw [gs,pA hn]
      by_cases h : m = k
      · subst h; rw [if_pos rfl,if_pos rfl,l2 m hk]; omega
      · rw [if_neg h,if_neg (by omega),l2 k hk]; omega
    · show (s.1.set m _).getD c.length 0 = _
      rw [gs,pA hn]
      by_cases h : m = c.length
      · subst h; rw [if_pos rfl,if_pos rfl,l3]; omega
      · rw [if_neg h,if_neg (by omega),l3]; omega
    · show s.2.set a.toNat _ = _
      rw [l4,List.map_set]; rfl
    · rw [pA hn]
      split <;> omega
theorem MR {c : List Int} {os : List (List Int)} (ok : cV c os) {ts : List Int} (hp : ts.Perm (aG os.length)) : (eV c os ts).2 = bC c os ts := by
  have := (zf ok hp ts.length (Nat.le_refl _)).l4
  rw [List.take_length] at this
  exact this
def dW (D : List (List Int)) : List (List Int) := D.foldl (fun acc d => if d ∈ acc then acc else acc ++ [d]) []
theorem rU (D : List (List Int)) (d : List Int) : dW (D ++ [d]) = if d ∈ dW D then dW D else dW D ++ [d] := by unfold dW; rw [List.foldl_append]; rfl
theorem snoc_ind {α : Type} {p : List α -> Prop} (h0 : p []) (h1 : ∀ l x,p l -> p (l ++ [x])) : ∀ l,p l := by
  have gen : ∀ n (l : List α),l.length = n -> p l := by
    intro n
    induction n with
    | zero => intro l h; rw [List.length_eq_zero_iff.mp h]; exact h0
    | succ n ih =>
      intro l h
      rcases List.eq_nil_or_concat l with rfl | ⟨l',x,rfl⟩
      · exact h0
      · rw [List.concat_eq_append] at h ⊢
        exact h1 l' x (ih l' (by simpa using h))
  exact fun l => gen l.length l rfl
theorem oX {x : List Int} : ∀ D,x ∈ dW D ↔ x ∈ D := by
  refine snoc_ind (by simp [dW]) fun D d ih => ?_
  rw [rU]
  split
  · rename_i h
    rw [ih]
    constructor
    · exact fun z => List.mem_append_left _ z
    · intro z
      rcases List.mem_append.mp z with z | z
      · exact z
      · rw [List.mem_singleton.mp z]; exact ih.mp (by rw [<- List.mem_singleton.mp z] at h; exact h) |> fun q => by rw [List.mem_singleton.mp z] at q; exact q
  · rw [List.mem_append,List.mem_append,ih]
theorem ND : ∀ D,(dW D).Nodup := by
  refine snoc_ind List.nodup_nil fun D d ih => ?_
  rw [rU]
  split
  · exact ih
  · rename_i h
    exact List.nodup_append.mpr ⟨ih,by simp,fun x hx y hy e => h (by rw [List.mem_singleton.mp hy] at e; rw [<- e]; exact hx)⟩
def eZ {κ : Type} (f : List Int -> κ) (D : List (List Int)) : List (κ × V) := (dW D).map fun d => (f d,V.int (D.count d : Nat))
section
variable {κ : Type} [DecidableEq κ] {f : List Int -> κ}
theorem Gn (inj : ∀ a b,f a = f b -> a = b) (g : List Int -> V) (x : List Int) : ∀ l : List (List Int),((l.map fun d => (f d,g d)).any fun kv => decide (kv.1 = f x)) = decide (x ∈ l)
  | [] => rfl
  | d :: l => by
    rw [List.map_cons,List.any_cons,Gn inj g x l]
    by_cases e : d = x
    · subst e; simp
    · have : f d ≠ f x := fun z => e (inj _ _ z)
      simp [this,Ne.symm e]
theorem xS (inj : ∀ a b,f a = f b -> a = b) (g : List Int -> V) (x : List Int) : ∀ l : List (List Int),eW (l.map fun d => (f d,g d)) (f x) = if x ∈ l then some (g x) else none
  | [] => rfl
  | d :: l => by
    have ih := xS inj g x l
    unfold eW at ih ⊢
    rw [List.map_cons,List.find?_cons]
    by_cases e : d = x
    · subst e; simp
    · have : f d ≠ f x := fun z => e (inj _ _ z)
      rw [decide_eq_false this]
      simp only [ih,List.mem_cons,Ne.symm e,false_or]
theorem RA (inj : ∀ a b,f a = f b -> a = b) (D : List (List Int)) (d : List Int) : putK (eZ f D) (f d) (.int (D.count d + 1 : Nat)) = eZ f (D ++ [d]) := by
  unfold putK eZ
  rw [Gn inj]
  have hc : ∀ y,(D ++ [d]).count y = if y = d then D.count d + 1 else D.count y := fun y => by
    rw [List.count_append,List.count_singleton]
    by_cases e : y = d
    · subst e; simp
    · rw [if_neg e,if_neg (by simpa using Ne.symm e)]; omega
  rw [rU]
  by_cases h : d ∈ dW D
  · rw [if_pos (decide_eq_true h),if_pos h,List.map_map]
    refine List.map_congr_left fun y _ => ?_
    show (if f y = f d then _ else _) = _
    rw [hc]
    by_cases e : y = d
    · subst e; rw [if_pos rfl,if_pos rfl]
    · rw [if_neg fun z => e (inj _ _ z),if_neg e]
  · rw [if_neg (by rw [decide_eq_false h]; decide),if_neg h,List.map_append]
    congr 1
    · refine List.map_congr_left fun y hy => ?_
      rw [hc,if_neg fun e => h (by rw [<- e]; exact hy)]
    · rw [List.map_cons,List.map_nil,hc,if_pos rfl]
theorem RB (inj : ∀ a b,f a = f b -> a = b) (D : List (List Int)) (d : List Int) : (eW (eZ f D) (f d)).getD (.int 0) = .int (D.count d : Nat) := by
  unfold eZ
  rw [xS inj]
  by_cases h : d ∈ dW D
  · rw [if_pos h]; rfl
  · rw [if_neg h,List.count_eq_zero.mpr fun z => h ((oX D).mpr z)]; rfl
theorem Sx (inj : ∀ a b,f a = f b -> a = b) {D : List (List Int)} {d : List Int} (h : d ∈ D) : eW (eZ f D) (f d) = some (.int (D.count d : Nat)) := by
  unfold eZ
  rw [xS inj,if_pos ((oX D).mpr h)]
end
theorem vS (D : List (List Int)) : (dW D).length <= D.length := by
  refine snoc_ind (p := fun D => (dW D).length <= D.length) (Nat.le_refl _) (fun D d ih => ?_) D
  rw [rU,List.length_append]
  split
  · omega
  · rw [List.length_append]; simp; omega
end
end bw
namespace bw
open PySem L2 dI
section
variable {P : Program} {w : World} {K : PySem.W.Frag} {mg : Str -> Option Value} {base : Heap}
def fV (row : List Int) (k : Int) : List (List Int) := (List.range (row.length + 1)).map fun i => row.take i ++ [k] ++ row.drop i
def d8 : Nat -> List (List Int)
  | 0 => [[]]
  | k + 1 => (d8 k).flatMap fun row => fV row (0 + ((k : Nat) : Int))
theorem NF : ∀ n,n <= 5 -> (d8 n).Perm (bj n n) := by
  have : ∀ n : Fin 6,((d8 n.val).isPerm (bj n.val n.val)) = true := by decide +kernel
  intro n hn
  exact List.isPerm_iff.mp (this ⟨n,by omega⟩)
theorem vT : ∀ n,n <= 5 -> ∀ l ∈ bj n n,l.Perm (aG n) := by
  have : ∀ n : Fin 6,((bj n.val n.val).all fun l => l.isPerm (aG n.val)) = true := by decide +kernel
  intro n hn l hl
  exact List.isPerm_iff.mp (List.all_eq_true.mp (this ⟨n,by omega⟩) l hl)
theorem wj : ∀ n,n <= 5 -> 1 <= (bj n n).length /\ (bj n n).length <= 120 := by
  have : ∀ n : Fin 6,1 <= (bj n.val n.val).length /\ (bj n.val n.val).length <= 120 := by decide +kernel
  intro n hn
  exact this ⟨n,by omega⟩
def lh (d : List Int) : List (List Int) -> List (List Int)
  | [] => [d]
  | x :: l => if So.lexLt x d = true then x :: lh d l else d :: x :: l
def kQ (l : List (List Int)) : List (List Int) := l.foldr lh []
theorem wk (d : List Int) : ∀ l,(lh d l).Perm (d :: l)
  | [] => .refl _
  | x :: l => by
    unfold lh
    split
    · exact ((wk d l).cons x).trans (List.Perm.swap d x l)
    · exact .refl _
theorem oY : ∀ l,(kQ l).Perm l
  | [] => .refl _
  | x :: l => (wk x (kQ l)).trans ((oY l).cons x)
def fB (x y : List Int) : Prop := So.lexLt y x = false
theorem NI {a b c : List Int} (h1 : fB a b) (h2 : fB b c) : fB a c := by
  unfold fB at *
  cases h : So.lexLt c a with
  | false => rfl
  | true =>
    rcases So.xR c b a h with z | z
    · rw [h2] at z; cases z
    · rw [h1] at z; cases z
theorem RC {a b : List Int} (h : So.lexLt a b = true) : fB a b := by
  unfold fB
  cases z : So.lexLt b a with
  | false => rfl
  | true =>
    have := So.xQ a b a h z
    rw [So.xn] at this; cases this
theorem E9 (d : List Int) : ∀ l,l.Pairwise fB -> (lh d l).Pairwise fB
  | [],_ => by simp [lh]
  | x :: l,h => by
    have hx := List.pairwise_cons.mp h
    unfold lh
    split
    · rename_i aS
      refine List.pairwise_cons.mpr ⟨fun y hy => ?_,E9 d l hx.2⟩
      rcases List.mem_cons.mp ((wk d l).mem_iff.mp hy) with rfl | z
      · exact RC aS
      · exact hx.1 y z
    · rename_i aS
      have hd : fB d x := by unfold fB; simpa using aS
      refine List.pairwise_cons.mpr ⟨fun y hy => ?_,h⟩
      rcases List.mem_cons.mp hy with rfl | z
      · exact hd
      · exact NI hd (hx.1 y z)
theorem Ec : ∀ l,(kQ l).Pairwise fB
  | [] => .nil
  | x :: l => E9 x _ (Ec l)
theorem CZ : ∀ {a b : List (List Int)},a.Perm b -> a.Pairwise fB -> b.Pairwise fB -> a = b
  | [],b,p,_,_ => (List.nil_perm.mp p).symm
  | x :: a,[],p,_,_ => by have := p.length_eq; cases this
  | x :: a,y :: b,p,ha,hb => by
    have pa := List.pairwise_cons.mp ha
    have pb := List.pairwise_cons.mp hb
    have e : x = y := by
      have h1 : fB x y \/ x = y := by
        rcases List.mem_cons.mp (p.mem_iff.mpr (.head _)) with z | z
        · exact .inr z.symm
        · exact .inl (pa.1 y z)
      have h2 : fB y x \/ x = y := by
        rcases List.mem_cons.mp (p.mem_iff.mp (.head _)) with z | z
        · exact .inr z
        · exact .inl (pb.1 x z)
      rcases h1 with h1 | h1
      · rcases h2 with h2 | h2
        · exact So.xo x y h2 h1
        · exact h2
      · exact h1
    subst e
    rw [CZ (p.cons_inv) pa.2 pb.2]
def cq (c : List Int) (os : List (List Int)) : List (List Int) := (bj os.length os.length).map (bC c os)
def nV (c : List Int) (os : List (List Int)) : List (List Int) := kQ (dW (cq c os))
end
end bw
namespace bw
open PySem L2 dI
section
variable {P : Program} {w : World} {K : PySem.W.Frag} {mg : Str -> Option Value} {base : Heap}
abbrev cj : Stmt := top 44
theorem oU : bh ["table", "lists", "often", "turns", "deal"] ["table"] (ag cj) := ⟨rfl,rfl,rfl,by decide +kernel,rfl,by decide +kernel,by decide +kernel⟩
def tP (c : List Int) (os : List (List Int)) : Tr := .ow ((nV c os).map fun d => .tp [tF (fW ((bj os.length os.length).length : Nat) ((cq c os).count d : Nat)),aM d])
def Ed (dd : List Dv) (t : Tr) : Prop := ∃ c os,cV c os /\ os.length <= 5 /\ dd = [aX c os] /\ t = tP c os
abbrev fD (d : List Int) : List Key := d.map Sum.inl
theorem xT (a b : List Int) (h : fD a = fD b) : a = b := by
  have := congrArg (List.map fun k : Key => match k with | .inl n => n | .inr _ => 0) h
  unfold fD at this
  rw [List.map_map,List.map_map] at this
  have e : ∀ l : List Int,l.map ((fun k : Key => match k with | .inl n => n | .inr _ => 0) ∘ Sum.inl) = l := fun l => (List.map_congr_left (g := id) fun _ _ => rfl).trans (List.map_id l)
  rwa [e,e] at this
theorem Hx (d : List Int) : (fD d).map kV = d.map V.int := by unfold fD; rw [List.map_map]; rfl
theorem L4 {L : List (List Int)} {g : List Int -> List Int} {i : Nat} {ts : List Int} (h : L[i]? = some ts) : (L.map g).take (i + 1) = (L.map g).take i ++ [g ts] := by
  rw [<- List.map_take,<- List.map_take,dJ h,List.map_append]; rfl
abbrev dq : List Str := ["table", "lists", "often", "turns", "deal"]
def Td : Stmt -> Expr
  | .Assign _ e _ => e
  | _ => .Constant .none 0 ⟨0,0,0,0⟩
def Te : Stmt -> List Stmt
  | .For _ _ b _ _ => b
  | _ => []
abbrev tQ (j : Nat) : Stmt := (aQ cj).getD j (.Pass ⟨0,0,0,0⟩)
abbrev Yk : Expr := Td ((Te (tQ 2)).getD 0 (.Pass ⟨0,0,0,0⟩))
theorem Sy {ι : Type} {F : aU ι} {e : Expr} {ρ : En} {t : Tr} {σ : St} {G H : Hp} {Q : VK} (h : Ev F e ρ t) (s : ai G H) (r : bS F.K G ρ σ) (kk : Kv F.K G H t Q) : uE F e σ H Q := let ⟨τ,p,q⟩ := h; ⟨τ,p,q σ G H Q s r kk⟩
theorem OI {K : PySem.W.Frag} {G : Hp} {d0 d1 d3 : Dv} {v0 v1 v3 : V} {o2 o4 : Option V} (h0 : Hv K G d0 v0) (h1 : Hv K G d1 v1) (h3 : Hv K G d3 v3) : bS K G [some (.fz d0),some (.fz d1),none,some (.fz d3),none] [some v0,some v1,o2,some v3,o4] := fun j d h => by
  match j,h with
  | 0,h => cases h; exact ⟨v0,rfl,h0⟩
  | 1,h => cases h; exact ⟨v1,rfl,h1⟩
  | 3,h => cases h; exact ⟨v3,rfl,h3⟩
  | 2,h => cases h
  | 4,h => cases h
  | n + 5,h => cases h
theorem RD {f : Addr} {k : Nat} : ∃ τ : TS,(∀ i,PS ((aK P w K mg base dq "turn_mix" (ag cj) f (k + 2)).cx i) (tQ 1) τ) /\ ∀ D σ H,(∀ p,H p = none -> D.nx (σ.set 2 (some (.ref p))) (upd H p (.dT []))) -> τ D σ H :=
  ⟨_,fun i => pU (i := 2) oU.nd rfl (Or.inr rfl) Ou,fun D σ H h => h⟩
theorem RE {f f2 : Addr} {fd2 : FuncData} {k : Nat} {c : List Int} {os L : List (List Int)} (T : Txt mg) (wm : Kn P w K mg base aq (k + 2) "deal_by" f2 fd2 ["table", "turns"] (spT K pN)) (ok : cV c os) (Lp : ∀ ts ∈ L,ts.Perm (aG os.length)) (Ll : L.length <= 120) :
    ∃ τ : TS,(∀ i,PS ((aK P w K mg base dq "turn_mix" (ag cj) f (k + 2)).cx i) (tQ 2) τ) /\ ∀ (D : Ends) (v0 : V) (l1 p : Addr) (o3 o4 : Option V) (G0 H0 G H : Hp) (vs : List V),Step G0 H0 G H -> Hv K G (aX c os) v0 -> aD K G l1 vs -> aI K G (L.map dis) vs -> H0 p = none -> G p = none -> H p = some (.dT []) ->
      (∀ o3 o4 G' H',Step G0 H0 G' H' -> ai G G' -> G' p = none -> H' p = some (.dT (eZ fD (L.map (bC c os)))) -> D.nx [some v0,some (.ref l1),some (.ref p),o3,o4] H') -> τ D [some v0,some (.ref l1),some (.ref p),o3,o4] H := by
  refine ⟨jP (kK K (bb 1)) (cU 3) (fI (gP (uE (aK P w K mg base dq "turn_mix" (ag cj) f (k + 2)) Yk) (cU 4)) (yf (bb 2) (bb 4) (gX (jX fun i j => .int (i + j)) (xO (bb 2) (bb 4) (tC (.int 0))) (tC (.int 1))))),fun i => ?_,?_⟩
  · exact pV (X := (aK P w K mg base dq "turn_mix" (ag cj) f (k + 2)).cx i) (tg := .Name "turns" _) (iter := .Name "lists" _) (nZ rfl) rfl (pB (X := (aK P w K mg base dq "turn_mix" (ag cj) f (k + 2)).cx i) (pv (X := (aK P w K mg base dq "turn_mix" (ag cj) f (k + 2)).cx i) (x := "lists") 1)) (iS (X := (aK P w K mg base dq "turn_mix" (ag cj) f (k + 2)).cx i) (i := 3) oU.nd rfl (Or.inl rfl)) (il (pU (X := (aK P w K mg base dq "turn_mix" (ag cj) f (k + 2)).cx i) (i := 4) oU.nd rfl (Or.inl rfl) (jO i)) (jE (PH (X := (aK P w K mg base dq "turn_mix" (ag cj) f (k + 2)).cx i) (ya i.hr) (pv (X := (aK P w K mg base dq "turn_mix" (ag cj) f (k + 2)).cx i) (x := "often") 2) (pv (X := (aK P w K mg base dq "turn_mix" (ag cj) f (k + 2)).cx i) (x := "deal") 4) (GU (X := (aK P w K mg base dq "turn_mix" (ag cj) f (k + 2)).cx i) Ft (Ov (X := (aK P w K mg base dq "turn_mix" (ag cj) f (k + 2)).cx i) (ya i.hr) (pv (X := (aK P w K mg base dq "turn_mix" (ag cj) f (k + 2)).cx i) (x := "often") 2) (pv (X := (aK P w K mg base dq "turn_mix" (ag cj) f (k + 2)).cx i) (x := "deal") 4) sN ⟨rfl,rfl,rfl,rfl⟩) sN) rfl)))
  intro D v0 l1 p o3 o4 G0 H0 G H vs st h0 sq hv uk Yl Ym fin
  have hl : vs.length = L.length := by rw [<- hv.length,List.length_map]
  refine Ni (a := l1) (xs := vs) rfl (st.s.seq sq) (fun i ao H' => ∃ o3 o4 G',ao = [some v0,some (.ref l1),some (.ref p),o3,o4] /\ Step G0 H0 G' H' /\ ai G G' /\ G' p = none /\ H' p = some (.dT (eZ fD ((L.map (bC c os)).take i)))) ⟨o3,o4,G,rfl,st,ai.refl _,Yl,Ym⟩ (fun i ao H' _ z => ?_) (fun i x ao H' hx z => ?_) (fun ao H' z => ?_)
  · obtain ⟨_,_,G',_,s',g',_⟩ := z
    exact (g'.trans s'.s).seq sq
  · obtain ⟨o3,o4,G',rfl,s',g',np,hd⟩ := z
    obtain ⟨ts,j8⟩ : ∃ ts,L[i]? = some ts := ⟨_,List.getElem?_eq_getElem (by have := (List.getElem?_eq_some_iff.mp hx).1; omega)⟩
    have Yn : Hv K G (dis ts) x := by
      obtain ⟨v,e1,e2⟩ := hv.get (show (L.map dis)[i]? = some (dis ts) by rw [List.getElem?_map,j8]; rfl)
      rw [hx] at e1
      cases e1
      exact e2
    have Yo := List.mem_of_getElem? j8
    dsimp only [cU,fI,gP,List.set]
    refine Sy (ρ := [some (.fz (aX c os)),some (.fz (.lst (L.map dis))),none,some (.fz (dis ts)),none]) (t := .tp ((bC c os ts).map fun n => .fz (di n))) (Ev.to (OD T.Qs (aY wm (Nat.le_refl _) (ah (ae 0 rfl) (ah (ae 3 rfl) av)) ⟨c,os,ts,ok,Lp ts Yo,rfl,rfl⟩) (dN _)) (by rw [jH])) s'.s (OI (h0.mono g') ⟨l1,vs,rfl,g'.seq sq,hv.mono g'⟩ (Yn.mono g')) fun v G2 H2 fq aA ow nw => ?_
    obtain ⟨b,ws,JB,rfl,hb,eO,_⟩ := ow
    obtain ⟨rfl,rfl⟩ := D7 eO
    have hd2 := aA.h _ _ hd
    have fL : H2 b = some (.tup ((fD (bC c os ts)).map kV)) := by rw [Hx]; exact hb
    have Ak : G2 p = none := by
      cases q : G2 p with
      | none => rfl
      | some u =>
        have := aA.n p np (by rw [q]; exact fun z => nomatch z)
        rw [hd] at this; cases this
    have lim : ((eZ fD ((L.map (bC c os)).take i)) : List (List Key × V)).length < sizeLine := by
      have := vS ((L.map (bC c os)).take i)
      have h2 : ((L.map (bC c os)).take i).length <= 120 := by rw [List.length_take,List.length_map]; omega
      have big : 1000 < sizeLine := by decide
      unfold eZ
      rw [List.length_map]; omega
    have eg := RB (κ := List Key) xT ((L.map (bC c os)).take i) (bC c os ts)
    have ep := RA (κ := List Key) xT ((L.map (bC c os)).take i) (bC c os ts)
    dsimp only [cU,List.set,yf,gX,xO,bb,tC]
    refine ⟨_,rfl,p,rfl,.inr ⟨_,.inl hd2⟩,_,rfl,_,jc.t hd2 fL,_,_,eg,rfl,?_⟩
    refine ⟨_,rfl,_,rfl,p,_,rfl,qG.t hd2 fL lim,some x,some (.ref b),G2,rfl,?_,g'.trans aA.g,Ak,?_⟩
    · have uy := s'.trans aA
      refine ⟨uy.g,fun a o e => ?_,fun a o e => ?_,uy.n⟩
      · rw [aP fun z => by subst z; rw [uk] at e; cases e]
        exact uy.h a o e
      · rw [aP fun z => by subst z; rw [Ak] at e; cases e]
        exact uy.s a o e
    · rw [ck,L4 j8,<- ep]
      rfl
  · obtain ⟨o3,o4,G',rfl,s',g',np,hd⟩ := z
    rw [hl,List.take_of_length_le (by rw [List.length_map]; exact Nat.le_refl _)] at hd
    exact fin o3 o4 G' H' s' g' np hd
def Hy (K : PySem.W.Frag) : List V -> Hp -> VK -> Prop := fun xs H Q => ∃ p ys,xs = [.ref p] /\ (aD K H p ys \/ cE K H p ys) /\ Q (.int ys.length) H
def Hz (K : PySem.W.Frag) : List V -> Hp -> VK -> Prop := fun xs H Q => ∃ p ys,xs = [.ref p] /\ (aD K H p ys \/ cE K H p ys) /\ ∀ l,H l = none -> Q (.ref l) (upd H l (.lst ys))
theorem LD {α β : Type} (l : List α) (g : α -> β) (e : α) : (List.range l.length).map (fun i => g (l.getD i e)) = l.map g := by
  refine List.ext_getElem? fun n => ?_
  rw [List.getElem?_map,List.getElem?_map]
  by_cases hn : n < l.length
  · rw [List.getElem?_range hn,List.getElem?_eq_getElem hn]
    show some (g (l.getD n e)) = some (g l[n])
    rw [List.getD_eq_getElem?_getD,List.getElem?_eq_getElem hn]; rfl
  · rw [List.getElem?_eq_none (by rw [List.length_range]; omega),List.getElem?_eq_none (by omega)]; rfl
theorem qd {K : PySem.W.Frag} {G H : Hp} : ∀ d : List Int,aB K G H (d.map fun n => Tr.fz (di n)) (d.map V.int) []
  | [] => ⟨rfl,rfl⟩
  | n :: d => ⟨.int n,d.map V.int,[],[],rfl,rfl,⟨rfl,rfl,rfl⟩,qd d⟩
theorem RF {f f3 : Addr} {gj : FuncData} {k : Nat} {L D0 : List (List Int)} (T : Txt mg) (iR : Kn P w K mg base aq (k + 2) "fraction" f3 gj ["top", "bottom"] (spT K kO)) (L1 : 1 <= L.length) (Ll : L.length <= 120) (ne : ∀ d ∈ D0,d ≠ []) (Dl : D0.length <= 120) (d6 : ∀ d ∈ D0,d.length <= 6) :
    ∃ τ : TS,(∀ i,PS ((aK P w K mg base dq "turn_mix" (ag cj) f (k + 2)).cx i) (tQ 3) τ) /\ ∀ (D : Ends) (v0 : V) (l1 p : Addr) (o3 o4 : Option V) (G0 H0 G H : Hp) (vs : List V),Step G0 H0 G H -> aD K G l1 vs -> aI K G (L.map dis) vs -> H p = some (.dT (eZ fD D0)) ->
      (∀ v G' H' fq,Step G0 H0 G' H' -> Ow K G' H' (.ow ((kQ (dW D0)).map fun d => .tp [tF (fW (L.length : Nat) (D0.count d : Nat)),aM d])) v fq -> Nw H0 G' fq -> D.rt v H') -> τ D [some v0,some (.ref l1),some (.ref p),o3,o4] H := by
  refine ⟨nW (ub (kK K (gY Gh (bt (bb 2) cm))) (cU 0) sF (nX (bt (iC (spT K kO) [] E0 (bt (ye (bb 1) (bb 0)) (bt (gY (Hy K) (bt (bb 2) cm)) cm))) (bt (gY (Hz K) (bt (bb 0) cm)) cm))) ["deal"] [2,1]),fun i => ?_,?_⟩
  · refine pS (X := (aK P w K mg base dq "turn_mix" (ag cj) f (k + 2)).cx i) (Hd (X := (aK P w K mg base dq "turn_mix" (ag cj) f (k + 2)).cx i) (own := ["deal"]) (fr := [2,1]) (lcs ⟨rfl,rfl,by decide +kernel,by decide +kernel,by decide +kernel,by decide +kernel⟩) rfl (pB (X := (aK P w K mg base dq "turn_mix" (ag cj) f (k + 2)).cx i) (pf (X := (aK P w K mg base dq "turn_mix" (ag cj) f (k + 2)).cx i) (LY rfl) rfl T.D8 Dn (bB (pv (X := (aK P w K mg base dq "turn_mix" (ag cj) f (k + 2)).cx i) (x := "often") 2) cB))) (fun C s H ex pn => iS (i := 0) (by show List.Nodup (["deal", "often", "lists"] : List Str); decide) rfl (Or.inl rfl)) (fun C s H ex pn pins s1 az H1 Q I h => Hg pins s1 az H1 Q I h) (fun C s H ex pn => ?_))
    exact xD (bB (nQ (x := "fraction") iR i.hr rfl (bB (PF (ya i.hr) (pv (x := "often") 1) (pv (x := "deal") 0) (fun _ _ => rfl)) (bB (pf CU rfl T.cC xI (bB (pv (x := "lists") 2) cB)) cB))) (bB (rY CV rfl T.fP pF (bB (pv (x := "deal") 0) cB)) cB))
  intro D v0 l1 p o3 o4 G0 H0 G H vs st sq hv hd fin
  have big : 1000 < sizeLine := by decide
  have hl : vs.length = L.length := by rw [<- hv.length,List.length_map]
  have fl := vS D0
  refine ⟨_,rfl,p,eZ fD D0,dW D0,rfl,hd,?_,fun d hd => ne d ((oX D0).mp hd),by omega,fun l ps me hps pm pw => ⟨l,rfl,⟨_,.inl (.inl ck)⟩,fun acc eK => ?_⟩⟩
  · unfold eZ; rw [List.map_map]; rfl
  have ms : ps.map (·.2) = kQ (dW D0) := CZ (pm.trans (oY _).symm) pw (Ec _)
  have pl : ps.length <= 120 := by
    have := pm.length_eq
    rw [List.length_map] at this; omega
  have s1 : Step G0 H0 G (upd H l (.lst (ps.map fun q => .ref q.1))) := st.trans (.gD st.s me)
  have z9 : upd H l (.lst (ps.map fun q => .ref q.1)) p = some (.dT (eZ fD D0)) := by rw [aP fun z => by subst z; rw [hd] at me; cases me]; exact hd
  refine Rx (f := fun i => .tp [tF (fW (L.length : Nat) (D0.count ((ps.getD i (0,[])).2) : Nat)),aM (ps.getD i (0,[])).2]) s1.s ck eK (by rw [List.length_map]; omega) (fun i x hx G2 H2 Q g2 s2 h2 kv => ?_) (fun v G' H' fq af ow nw => ?_)
  · rw [List.getElem?_map] at hx
    obtain ⟨⟨b,d⟩,hq⟩ : ∃ q,ps[i]? = some q := by
      cases e : ps[i]? with
      | none => rw [e] at hx; cases hx
      | some q => exact ⟨q,rfl⟩
    rw [hq] at hx
    cases hx
    have Yp : ps.getD i (0,[]) = (b,d) := by rw [List.getD_eq_getElem?_getD,hq]; rfl
    rw [Yp] at kv
    have Io : (b,d) ∈ ps := List.mem_of_getElem? hq
    have ft : upd H l (.lst (ps.map fun q => .ref q.1)) b = some (.tup (d.map V.int)) := by
      have := hps (b,d) Io
      rw [aP fun z => by subst z; rw [this] at me; cases me]; exact this
    have Yq : d ∈ D0 := (oX D0).mp (pm.mem_iff.mp (List.mem_map.mpr ⟨(b,d),Io,rfl⟩))
    have JV := h2 _ _ ft
    have hd2 := h2 _ _ z9
    have fL : H2 b = some (.tup ((fD d).map kV)) := by rw [Hx]; exact JV
    have lZ : eW (eZ fD D0) (fD d) = some (.int (D0.count d : Nat)) := Sx (κ := List Key) xT Yq
    show nX _ [some (.ref b),some (.ref p),some (.ref l1)] H2 Q
    dsimp only [nX,bt,cm,iC,ye,bb,gY,Hy,Hz]
    refine ⟨_,rfl,_,rfl,p,_,rfl,lZ ▸ jc.t hd2 fL,_,rfl,l1,vs,rfl,.inl ((g2.trans s2).seq sq),?_⟩
    refine ⟨G2,[di (D0.count d : Nat),di (vs.length : Nat)],tF (fW (L.length : Nat) (D0.count d : Nat)),s2,?_,⟨_,_,by omega,?_,rfl,by rw [hl]; rfl⟩,fun v3 G3 H3 f3 s3 o3 w3 => ?_⟩
    · exact ⟨_,_,rfl,⟨rfl,rfl⟩,_,_,rfl,⟨rfl,rfl⟩,rfl⟩
    · rw [hl]
      exact Nat.lt_of_le_of_lt (show ((L.length : Nat) : Int).natAbs <= 2 ^ 70 by omega) (by decide)
    obtain ⟨rfl,Yr⟩ := o3
    refine ⟨_,rfl,b,d.map V.int,rfl,.inr (.inl (.inl (s3.h _ _ JV))),fun l2 iK => ⟨by show 2 <= sizeLine; decide,fun t2 uz => ?_⟩⟩
    have Ip : H3 t2 = none := by
      by_cases z : t2 = l2
      · rw [z]; exact iK
      · rwa [aP z] at uz
    have ne2 : t2 ≠ l2 := fun z => by rw [z,ck] at uz; cases uz
    have s4 : Step G2 H2 G3 (upd (upd H3 l2 (.lst (d.map V.int))) t2 (.tup [v3,.ref l2])) := (s3.trans (.gD s3.s iK)).trans (.gD (s3.s.trans (ai.new iK)) uz)
    refine kv (.ref t2) G3 _ [t2,l2] s4 ⟨t2,[v3,.ref l2],[l2],rfl,ck,⟨v3,[.ref l2],[],[l2],rfl,rfl,⟨rfl,Yr⟩,.ref l2,[],[l2],[],rfl,rfl,⟨l2,d.map V.int,[],rfl,?_,?_,rfl⟩,rfl,rfl⟩,rfl⟩ ⟨fun a ha => ?_,fun a ha => ?_,?_⟩
    · rw [aP (Ne.symm ne2),ck]
    · exact qd d
    · rcases List.mem_cons.mp ha with rfl | z
      · exact s3.h.free Ip
      · rw [List.mem_singleton.mp z]; exact s3.h.free iK
    · rcases List.mem_cons.mp ha with rfl | z
      · exact s3.s.free Ip
      · rw [List.mem_singleton.mp z]; exact s3.s.free iK
    · simp [ne2]
  · have e0 : (List.range (ps.map fun q => V.ref q.1).length).map (fun i => Tr.tp [tF (fW (L.length : Nat) (D0.count ((ps.getD i (0,[])).2) : Nat)),aM (ps.getD i (0,[])).2]) = ps.map fun q => Tr.tp [tF (fW (L.length : Nat) (D0.count q.2 : Nat)),aM q.2] := by
      rw [List.length_map]; exact LD ps (fun q => Tr.tp [tF (fW (L.length : Nat) (D0.count q.2 : Nat)),aM q.2]) (0,[])
    rw [e0] at ow
    have e : (ps.map fun q => Tr.tp [tF (fW (L.length : Nat) (D0.count q.2 : Nat)),aM q.2]) = (kQ (dW D0)).map fun d => .tp [tF (fW (L.length : Nat) (D0.count d : Nat)),aM d] := by rw [<- ms,List.map_map]; rfl
    rw [e] at ow
    exact fin v G' H' fq (s1.trans af) ow ⟨fun a ha => s1.h.free (nw.n a ha),nw.g,nw.d⟩
theorem Mv {f f1 f2 f3 : Addr} {fd aW fd2 gj : FuncData} {k : Nat} (F : bu K "turn_mix" "turn_mix" cj f fd) (T : Txt mg) (Mw : Kn P w K mg base aq (k + 2) "all_turns" f1 aW ["many"] (spT K Gm)) (wm : Kn P w K mg base aq (k + 2) "deal_by" f2 fd2 ["table", "turns"] (spT K pN)) (iR : Kn P w K mg base aq (k + 2) "fraction" f3 gj ["top", "bottom"] (spT K kO)) : aR P w K mg base aq (k + 3) f fd ["table"] (spT K Ed) := by
  refine bG F.d oU (fun dd t h => by obtain ⟨_,_,_,_,rfl,_⟩ := h; rfl) fun dd t h => ?_
  obtain ⟨c,os,ok,o5,rfl,rfl⟩ := h
  refine ⟨_,.inl rfl,?_⟩
  have big : 1000 < sizeLine := by decide
  obtain ⟨L,eL⟩ : ∃ L,L = bj os.length os.length := ⟨_,rfl⟩
  have Ll := wj os.length o5
  have Lp : ∀ ts ∈ L,ts.Perm (aG os.length) := fun ts h => vT os.length o5 ts (eL ▸ h)
  rw [<- eL] at Ll
  have eD : cq c os = L.map (bC c os) := by unfold cq; rw [eL]
  refine ak (aH 1 (Ev.s (Ev.as (d := .lst (L.map dis)) (aY Mw (Nat.le_refl _) (ah (Ev.to (t' := ti (os.length : Nat)) (cL T.cC (bO (d := .lst (os.map dis)) (ae 0 rfl) au rfl rfl) (.inl rfl)) (by rw [List.length_map])) av) ⟨os.length,o5,rfl,rfl⟩) (by rw [eL]; exact sV _))) (fun _ => oU.nd)) ?_
  show bI _ _ [some (.fz (aX c os)),some (.fz (.lst (L.map dis))),none,none,none] _
  obtain ⟨zX,p1,q1⟩ := RD (P := P) (w := w) (K := K) (mg := mg) (base := base) (f := f) (k := k)
  obtain ⟨zY,p2,q2⟩ := RE (f := f) (L := L) T wm ok Lp (by omega)
  have L1 : 1 <= L.length := by omega
  have dl : ∀ d ∈ L.map (bC c os),d.length = os.length := fun d h => by
    obtain ⟨ts,_,rfl⟩ := List.mem_map.mp h
    unfold bC
    rw [List.length_map,kj]
  obtain ⟨Ys,p3,q3⟩ := RF (f := f) (L := L) (D0 := L.map (bC c os)) T iR L1 (by omega) (fun d h z => by have := dl d h; rw [z] at this; have := ok.o1; simp at *; omega) (by rw [List.length_map]; omega) (fun d h => by have := dl d h; omega)
  refine ⟨fI zX (fI zY Ys),fun i => il (p1 i) (il (p2 i) (jE (p3 i))),fun D σ G0 H0 G H r post => ?_⟩
  obtain ⟨fp,r⟩ := r
  obtain ⟨v0,_,fa,_,rfl,rfl,⟨rfl,h0⟩,v1,_,fb,_,rfl,rfl,⟨rfl,l1,vs,rfl,sq,JW⟩,o2,_,rfl,o3,_,rfl,o4,_,rfl,rfl,rfl⟩ := r.own
  refine q1 _ _ _ fun p hp => ?_
  have Yt : Step G0 H0 G (upd H p (.dT [])) := r.st.trans (.gD r.st.s hp)
  refine q2 _ v0 l1 p o3 o4 G0 H0 G _ vs Yt h0 sq JW (r.st.h.free hp) (r.st.s.free hp) ck fun o3 o4 G2 H2 aA g2 Ak hd2 => ?_
  refine q3 _ v0 l1 p o3 o4 G0 H0 G2 H2 vs aA (g2.seq sq) (JW.mono g2) hd2 fun v G3 H3 fq dk ow nw => post v G3 H3 fq dk ?_ nw
  unfold tP nV
  rw [<- eL,eD]
  exact ow
end
end bw
namespace bw
open PySem L2 dI
section
variable {P : Program} {w : World} {K : PySem.W.Frag} {mg : Str -> Option Value} {base : Heap}
theorem HA {W s : Int} (h : 0 < W) (w1 : W < 2 ^ 70) (s0 : 0 <= s) (s1 : s <= 200 * W) : iY (fW W s) := by
  have a := kG (s := s) h
  have b := Hn (s := s) h
  have c := FN (s := s) h
  refine ⟨a,?_,?_⟩
  · have : (fW W s).2.natAbs <= 2 ^ 70 := by omega
    exact Nat.lt_of_le_of_lt this (by decide)
  · have : (fW W s).1.natAbs <= 200 * 2 ^ 70 := by omega
    exact Nat.lt_of_le_of_lt this (by decide)
theorem Sz (c : Int) : (lT c 1,lB c 1) = (c,1) := by
  have := wD (t := c) (b := 1) (p := c) (q := 1) (by decide) (by decide) (by simp) (by rfl)
  rw [<- this.1,<- this.2]
abbrev uA (W : Int) (ss : List Int) : Dv := .lst (ss.map fun s => dF (fW W s))
abbrev nh : Stmt := top 17
theorem r9 : bh ["some", "total", "one"] ["some"] (ag nh) := ⟨rfl,rfl,rfl,by decide +kernel,rfl,by decide +kernel,by decide +kernel⟩
def Gp (dd : List Dv) (t : Tr) : Prop := ∃ (W : Int) (ss : List Int),0 < W /\ W < 2 ^ 70 /\ (∀ s ∈ ss,0 <= s /\ s <= W) /\ ss.length <= 120 /\ dd = [uA W ss] /\ t = tF (fW W ss.sum)
theorem Ee {ss : List Int} {W : Int} (h : ∀ s ∈ ss,0 <= s /\ s <= W) (w0 : 0 < W) : ∀ j,0 <= (ss.take j).sum /\ (ss.take j).sum <= j * W
  | 0 => by rw [List.take_zero]; show 0 <= (0 : Int) /\ (0 : Int) <= ((0 : Nat) : Int) * W; omega
  | j + 1 => by
    have ih := Ee h w0 j
    have e : (((j + 1 : Nat) : Int)) * W = j * W + W := by rw [Int.natCast_add,Int.add_mul]; show _ + 1 * W = _; rw [Int.one_mul]
    rw [e]
    cases q : ss[j]? with
    | none =>
      have hj : ss.length <= j := by
        rcases Nat.lt_or_ge j ss.length with z | z
        · rw [List.getElem?_eq_getElem z] at q; cases q
        · exact z
      rw [List.take_of_length_le (by omega)]
      rw [List.take_of_length_le hj] at ih
      omega
    | some x =>
      have hx := h x (List.mem_of_getElem? q)
      rw [dJ q,List.sum_append,List.sum_singleton]
      omega
theorem NK {f f1 f2 : Addr} {fd aW fd2 : FuncData} {k : Nat} {tk : Tok} (F : bu K "sum_of" "sum_of" nh f fd) (T : Txt mg) (iR : Kn P w K mg base aq (k + 2) "fraction" f1 aW ["top", "bottom"] (spT K kO)) (B1 : Binds K aW ["top", "bottom"] [.int 1 tk]) (xU : Kn P w K mg base aq (k + 3) "plus" f2 fd2 ["one", "other"] (spT K yl)) : aR P w K mg base aq (k + 4) f fd ["some"] (spT K Gp) := by
  refine bG F.d r9 (fun dd t h => by obtain ⟨_,_,_,_,_,_,rfl,_⟩ := h; rfl) fun dd t h => ?_
  obtain ⟨W,ss,w0,w1,sb,sl,rfl,rfl⟩ := h
  refine ⟨_,.inl rfl,?_⟩
  refine ak (aH 1 (cg.to (t' := tF (fW W (ss.take 0).sum)) (Ev.s (D3 iR B1 (by show k + 2 <= k + 3; omega) (ah au av) ⟨0,1,by decide,by decide,rfl,rfl⟩)) (by rw [Sz,List.take_zero]; show tF (0,1) = tF (fW W 0); rw [PB w0])) (fun _ => r9.nd)) ?_
  refine ak (eE (bA.s (cT (ae 0 rfl) rfl)) (bJ 2 (fun _ => r9.nd)) (fun j => [some (.fz (uA W ss)),some (tF (fW W (ss.take j).sum)),none]) rfl (fun _ => rfl) (fun j d hd => ?_)) ?_
  · obtain ⟨x,hx,rfl⟩ := eA hd
    have hb := sb x (List.mem_of_getElem? hx)
    have ht := Ee sb w0 j
    have hj : j < ss.length := by
      rcases Nat.lt_or_ge j ss.length with z | z
      · exact z
      · rw [List.getElem?_eq_none z] at hx; cases hx
    have aak : (j : Int) * W <= 200 * W := Int.mul_le_mul_of_nonneg_right (by omega) (by omega)
    refine ⟨_,[some (.fz (uA W ss)),some (tF (fW W (ss.take (j + 1)).sum)),some (tF (fW W x))],rfl,?_,[2],rfl⟩
    rw [dJ hx,List.sum_append,List.sum_singleton]
    generalize (ss.take j).sum = S at ht
    exact aN (aH 1 (cg.to (t' := tF (fW W (S + x))) (Ev.s (aY xU (Nat.le_refl _) (ah (ae 1 rfl) (ah (ae 2 rfl) av)) ⟨fW W S,fW W x,HA w0 w1 ht.1 (by omega),HA w0 w1 hb.1 (by omega),rfl,rfl⟩)) (by rw [EX w0])) (fun _ => r9.nd))
  · rw [List.length_map,List.take_length]
    exact aN (cf (Ev.s (ae 1 rfl)))
def bN (l : List Int) (x : Int) : Int := l.getD x.toNat 0
theorem Gq {α : Type} (f : Int -> α) {l : List Int} {x : Int} (h0 : 0 <= x) (h1 : x < l.length) : aZ (l.map f) x = some (f (bN l x)) := by
  obtain ⟨m,rfl⟩ : ∃ m : Nat,x = (m : Int) := ⟨x.toNat,by omega⟩
  refine e9 ?_
  unfold bN
  rw [List.getElem?_map,List.getD_eq_getElem?_getD,Int.toNat_natCast,List.getElem?_eq_getElem (by omega)]; rfl
theorem wo (n : Nat) : (aG n).length = n := by unfold aG; rw [List.length_map,List.length_range]
theorem xu (n : Nat) {i : Int} (h : i = (n : Int)) : fi 0 i.toNat = (aG n).map di := by
  subst h
  rw [Int.toNat_natCast]
  unfold aG
  rw [List.map_map]; rfl
abbrev rN (W : Int) (m : Int × List Int) : Dv := .tup [dF (fW W m.1),dis m.2]
def oH (M : List (Int × List Int)) (a x : Int) : Int := ((M.filter fun m => decide (bN m.2 a = x)).map (·.1)).sum
structure zg (W : Int) (A : Nat) (M : List (Int × List Int)) : Prop where
  w0 : 0 < W
  w1 : W < 2 ^ 70
  ok : ∀ m ∈ M,0 <= m.1 /\ m.1 <= W /\ m.2.length = A
  ml : M.length <= 120
  a6 : A <= 6
abbrev mK : Stmt := top 37
theorem L5 : bh ["mix", "asker", "one"] ["mix", "asker", "one"] (ag mK) := ⟨rfl,rfl,rfl,by decide +kernel,rfl,by decide +kernel,by decide +kernel⟩
def DB (dd : List Dv) (t : Tr) : Prop := ∃ (W : Int) (A : Nat) (M : List (Int × List Int)) (a x : Int),zg W A M /\ 0 <= a /\ a < A /\ dd = [.lst (M.map (rN W)),di a,di x] /\ t = tF (fW W (oH M a x))
theorem L6 {f f1 : Addr} {fd aW : FuncData} {k : Nat} (F : bu K "weight_of" "weight_of" mK f fd) (T : Txt mg) (OJ : Kn P w K mg base aq (k + 4) "sum_of" f1 aW ["some"] (spT K Gp)) : aR P w K mg base aq (k + 5) f fd ["mix", "asker", "one"] (spT K DB) := by
  refine bG F.d L5 (fun dd t h => by obtain ⟨_,_,_,_,_,_,_,_,rfl,_⟩ := h; rfl) fun dd t h => ?_
  obtain ⟨W,A,M,a,x,iO,a0,a1,rfl,rfl⟩ := h
  refine ⟨_,.inl rfl,?_⟩
  have big : 1000 < sizeLine := by decide
  have ml := iO.ml
  have eF : er (.ow ((M.filter fun m => decide (bN m.2 a = x)).map fun m => tF (fW W m.1))) = uA W ((M.filter fun m => decide (bN m.2 a = x)).map (·.1)) := by
    rw [jC]
    show Dv.lst _ = Dv.lst (List.map _ (List.map _ _))
    rw [List.map_map]; rfl
  refine aN (cf (Ev.s (aY OJ (Nat.le_refl _) (ah (Ev.as (p9 (own := ["weight", "deal"]) (fr := [2,1]) M (rN W) (fun m => decide (bN m.2 a = x)) (fun m => tF (fW W m.1)) (fun i => lcs ⟨rfl,rfl,by decide +kernel,by decide +kernel,by decide +kernel,by decide +kernel⟩) (cT (ae 0 rfl) rfl) (p7 0 1 (fun _ => by show List.Nodup (["weight", "deal", "one", "asker"] : List Str); decide)) (by decide) (by omega) (fun m hm => ⟨_,rfl,by
      exact iX (nR (cw (ae 1 rfl) (ae 3 rfl) rfl (Gq di a0 (by rw [(iO.ok m hm).2.2]; exact a1))) (ae 2 rfl)),fun _ => by exact ae 0 rfl⟩) (fun dd => by rcases dd with _ | ⟨a,_ | ⟨b,dd⟩⟩ <;> rfl)) eF) av) ⟨W,(M.filter fun m => decide (bN m.2 a = x)).map (·.1),iO.w0,iO.w1,fun y hy => ?_,?_,rfl,rfl⟩)))
  · obtain ⟨m,hm,rfl⟩ := List.mem_map.mp hy
    have := iO.ok m (List.mem_filter.mp hm).1
    exact ⟨this.1,this.2.1⟩
  · rw [List.length_map]
    have := List.length_filter_le (fun m : Int × List Int => decide (bN m.2 a = x)) M
    omega
abbrev Iq (W : Int) (A n : Nat) (M : List (Int × List Int)) : Tr := .ow ((aG A).map fun a => .ow ((aG (n + 1)).map fun x => tF (fW W (oH M a x))))
abbrev mL : Stmt := top 38
theorem C0 : bh ["counts", "mix", "askers"] ["counts", "mix"] (ag mL) := ⟨rfl,rfl,rfl,by decide +kernel,rfl,by decide +kernel,by decide +kernel⟩
def DC (dd : List Dv) (t : Tr) : Prop := ∃ (W : Int) (A : Nat) (M : List (Int × List Int)) (c : List Int),zg W A M /\ M ≠ [] /\ c.length <= 6 /\ dd = [dis c,.lst (M.map (rN W))] /\ t = Iq W A c.length M
theorem L7 {f f1 : Addr} {fd aW : FuncData} {k : Nat} (F : bu K "shares_of" "shares_of" mL f fd) (T : Txt mg) (Mx : Kn P w K mg base aq (k + 5) "weight_of" f1 aW ["mix", "asker", "one"] (spT K DB)) : aR P w K mg base aq (k + 6) f fd ["counts", "mix"] (spT K DC) := by
  refine bG F.d C0 (fun dd t h => by obtain ⟨_,_,_,_,_,_,_,rfl,_⟩ := h; rfl) fun dd t h => ?_
  obtain ⟨W,A,M,c,iO,Yu,c6,rfl,rfl⟩ := h
  refine ⟨_,.inl rfl,?_⟩
  have big : 1000 < sizeLine := by decide
  have a6 := iO.a6
  obtain ⟨m0,M',rfl⟩ : ∃ m0 M',M = m0 :: M' := by
    cases M with
    | nil => exact absurd rfl Yu
    | cons m0 M' => exact ⟨m0,M',rfl⟩
  have l0 : m0.2.length = A := (iO.ok m0 (.head _)).2.2
  refine ak (aH 2 (cg.to (t' := ti A) (Ev.s (cL (xs := m0.2.map di) T.cC (bO (xs := [dF (fW W m0.1),dis m0.2]) (d := dis m0.2) (cw (d := rN W m0) (ae 1 rfl) au rfl (e9 (j := 0) rfl)) au rfl rfl) (.inl rfl))) (by rw [List.length_map,l0])) (fun _ => C0.nd)) ?_
  generalize m0 :: M' = M at iO
  refine aN (cf (Ev.s ?_))
  exact kF (own := ["asker"]) (fr := [1,0]) (aG A) di (fun a => .ow ((aG (c.length + 1)).map fun x => tF (fW W (oH M a x)))) (fun i => HS ⟨rfl,rfl,by decide +kernel,by decide +kernel,by decide +kernel,by decide +kernel⟩) (bA.to (fG T.eC (ae 2 rfl) (by omega)) (xu A rfl)) (bJ 0 (fun _ => by show List.Nodup (["asker", "mix", "counts"] : List Str); decide)) (by decide) (by rw [wo]; omega) (fun a ha => ⟨_,rfl,by
      obtain ⟨a0,a1⟩ := fM.mp ha
      exact kF (own := ["one"]) (fr := [1,0]) (aG (c.length + 1)) di (fun x => tF (fW W (oH M a x))) (fun i => Se ["asker", "mix", "counts"] ⟨rfl,by decide +kernel,by decide +kernel,by decide +kernel,by decide +kernel⟩ fun y hy => mZ _ _ y hy) (bA.to (fG T.eC (fc (cL T.cC (ae 2 rfl) (.inl rfl)) au) (by rw [List.length_map]; omega)) (xu (c.length + 1) (by rw [List.length_map]; omega))) (bJ 0 (fun _ => by show List.Nodup (["one", "mix", "asker"] : List Str); decide)) (by decide) (by rw [wo]; omega) (fun x hx => ⟨_,rfl,by
        exact aY Mx (Nat.le_refl _) (ah (ae 1 rfl) (ah (ae 2 rfl) (ah (ae 0 rfl) av))) ⟨W,A,M,a,x,iO,a0,a1,rfl,rfl⟩⟩) (fun dd => by cases dd <;> rfl)⟩) (fun dd => by cases dd <;> rfl)
theorem Qv {K : List (List Int)} (nd : K.Nodup) (p : List Int -> Bool) {e : List Int} (he : e ∈ K) : (((K.filter p).map fun d => (if e = d then 1 else 0 : Int))).sum = if p e then 1 else 0 := by
  induction K with
  | nil => cases he
  | cons d K ih =>
    have Al := List.nodup_cons.mp nd
    have none_of : ∀ K' : List (List Int),e ∉ K' -> (((K'.filter p).map fun d => (if e = d then 1 else 0 : Int))).sum = 0 := by
      intro K' h
      induction K' with
      | nil => rfl
      | cons x K' JX =>
        have h1 : e ≠ x := fun z => h (z ▸ .head _)
        have h2 : e ∉ K' := fun z => h (.tail _ z)
        rw [List.filter_cons]
        split
        · rw [List.map_cons,List.sum_cons,if_neg h1,JX h2]; rfl
        · exact JX h2
    by_cases q : e = d
    · subst q
      have := none_of K Al.1
      rw [List.filter_cons]
      by_cases pe : p e = true
      · rw [if_pos pe,List.map_cons,List.sum_cons,this,if_pos rfl,if_pos pe]; rfl
      · rw [if_neg pe,this,if_neg pe]
    · have hK : e ∈ K := by
        rcases List.mem_cons.mp he with z | z
        · exact absurd z q
        · exact z
      rw [List.filter_cons]
      split
      · rw [List.map_cons,List.sum_cons,if_neg q,ih Al.2 hK,Int.zero_add]
      · exact ih Al.2 hK
theorem sum_add (l : List (List Int)) (f g : List Int -> Int) : (l.map fun d => f d + g d).sum = (l.map f).sum + (l.map g).sum := by
  induction l with
  | nil => rfl
  | cons d l ih => simp only [List.map_cons,List.sum_cons,ih]; omega
theorem DE {K : List (List Int)} (nd : K.Nodup) (p : List Int -> Bool) : ∀ {D : List (List Int)},(∀ d ∈ D,d ∈ K) -> (((K.filter p).map fun d => ((D.count d : Nat) : Int))).sum = ((D.countP p : Nat) : Int)
  | [],_ => by
    have : ∀ l : List (List Int),(l.map fun d => ((([] : List (List Int)).count d : Nat) : Int)).sum = 0 := by
      intro l
      induction l with
      | nil => rfl
      | cons d l ih => rw [List.map_cons,List.sum_cons,ih]; rfl
    rw [this]; rfl
  | e :: D,h => by
    have ih := DE nd p (D := D) fun d hd => h d (.tail _ hd)
    have e1 : ((K.filter p).map fun d => (((e :: D).count d : Nat) : Int)) = (K.filter p).map fun d => ((D.count d : Nat) : Int) + (if e = d then 1 else 0 : Int) := List.map_congr_left fun d _ => by
      rw [List.count_cons]
      by_cases q : e = d
      · simp [q]
      · simp [q]
    rw [e1,sum_add,ih,Qv nd p (h e (.head _)),List.countP_cons]
    by_cases pe : p e = true
    · simp [pe]
    · simp [pe]
def cI (D : List (List Int)) (a x : Int) : Int := ((D.countP fun d => decide (bN d a = x) : Nat) : Int)
def jd (c : List Int) (os : List (List Int)) : List (Int × List Int) := (nV c os).map fun d => (((cq c os).count d : Nat),d)
abbrev wT (os : List (List Int)) : Int := ((bj os.length os.length).length : Nat)
theorem Qw (c : List Int) (os : List (List Int)) : er (tP c os) = .lst ((jd c os).map (rN (wT os))) := by
  unfold tP jd
  rw [jC,List.map_map]
  refine congrArg Dv.lst (List.map_congr_left fun d _ => ?_)
  show Dv.tup [_,er (aM d)] = _
  rw [dN]; rfl
theorem keys_nodup (c : List Int) (os : List (List Int)) : (nV c os).Nodup := (oY _).nodup_iff.mpr (ND _)
theorem mem_keys {c : List Int} {os : List (List Int)} {d : List Int} : d ∈ nV c os ↔ d ∈ cq c os := (oY _).mem_iff.trans (oX _)
theorem RG (c : List Int) (os : List (List Int)) (a x : Int) : oH (jd c os) a x = cI (cq c os) a x := by
  unfold oH jd cI
  rw [List.filter_map,List.map_map]
  exact DE (keys_nodup c os) (fun d => decide (bN d a = x)) fun d hd => mem_keys.mpr hd
theorem Fb {c : List Int} {os : List (List Int)} (o5 : os.length <= 5) : zg (wT os) os.length (jd c os) := by
  have Ll := wj os.length o5
  have al : (cq c os).length = (bj os.length os.length).length := by unfold cq; rw [List.length_map]
  refine ⟨by show (0 : Int) < ((bj os.length os.length).length : Nat); omega,by show ((bj os.length os.length).length : Int) < 2 ^ 70; exact Int.lt_of_le_of_lt (show _ <= (120 : Int) by omega) (by decide),fun m hm => ?_,?_,by omega⟩
  · obtain ⟨d,hd,rfl⟩ := List.mem_map.mp hm
    refine ⟨by show (0 : Int) <= ((cq c os).count d : Nat); omega,?_,?_⟩
    · have := List.count_le_length (a := d) (l := cq c os)
      show (((cq c os).count d : Nat) : Int) <= ((bj os.length os.length).length : Nat)
      omega
    · obtain ⟨ts,_,rfl⟩ := List.mem_map.mp (mem_keys.mp hd)
      unfold bC
      rw [List.length_map,kj]
  · unfold jd nV
    have := vS (cq c os)
    rw [List.length_map,(oY _).length_eq]
    omega
def uB (W : Int) (A n : Nat) (D : List (List Int)) : Tr := .ow ((aG A).map fun a => .ow ((aG (n + 1)).map fun x => tF (fW W (cI D a x))))
abbrev mw : Stmt := top 45
theorem Lg : bh ["table"] ["table"] (ag mw) := ⟨rfl,rfl,rfl,by decide +kernel,rfl,by decide +kernel,by decide +kernel⟩
def C5 (dd : List Dv) (t : Tr) : Prop := ∃ c os,cV c os /\ os.length <= 5 /\ dd = [aX c os] /\ t = uB (wT os) os.length c.length (cq c os)
theorem Lh {f f1 f2 : Addr} {fd aW fd2 : FuncData} {k : Nat} (F : bu K "turn_shares" "turn_shares" mw f fd) (T : Txt mg) (My : Kn P w K mg base aq (k + 6) "shares_of" f1 aW ["counts", "mix"] (spT K DC)) (MS : Kn P w K mg base aq (k + 3) "turn_mix" f2 fd2 ["table"] (spT K Ed)) : aR P w K mg base aq (k + 7) f fd ["table"] (spT K C5) := by
  refine bG F.d Lg (fun dd t h => by obtain ⟨_,_,_,_,rfl,_⟩ := h; rfl) fun dd t h => ?_
  obtain ⟨c,os,ok,o5,rfl,rfl⟩ := h
  refine ⟨_,.inl rfl,?_⟩
  have ne : jd c os ≠ [] := fun z => by
    have Ll := (wj os.length o5).1
    have : ∃ d,d ∈ cq c os := by
      cases q : cq c os with
      | nil => have := congrArg List.length q; unfold cq at this; rw [List.length_map] at this; simp at this; rw [this] at Ll; simp at Ll
      | cons d _ => exact ⟨d,.head _⟩
    obtain ⟨d,hd⟩ := this
    have : ((((cq c os).count d : Nat) : Int),d) ∈ jd c os := List.mem_map.mpr ⟨d,mem_keys.mpr hd,rfl⟩
    rw [z] at this
    cases this
  refine aN (cf (cg.to (Ev.s (aY My (Nat.le_refl _) (ah (bO (d := dis c) (ae 0 rfl) au rfl rfl) (ah (Ev.as (aY MS (by show k + 3 <= k + 6; omega) (ah (ae 0 rfl) av) ⟨c,os,ok,o5,rfl,rfl⟩) (Qw c os)) av)) ⟨wT os,os.length,jd c os,c,Fb o5,ne,ok.c6,rfl,rfl⟩)) ?_))
  unfold uB Iq
  simp only [RG]
end
end bw
namespace bw
open PySem L2 dI
section
variable {P : Program} {w : World} {K : PySem.W.Frag} {mg : Str -> Option Value} {base : Heap}
theorem RH (p : Int × Int) : fA (dF p) = true := rfl
theorem RJ (p : Int × Int) : cS (dF p) <= 1 := by
  show cO _ + 1 <= 1
  exact Nat.succ_le_succ (pJ fun d hd => by
    rcases List.mem_cons.mp hd with rfl | hd
    · exact Nat.le_refl _
    · rw [List.mem_singleton.mp hd]; exact Nat.le_refl _)
def fH (aL : List Int) (x : Int) : Int := aL.getD x.toNat 0
def bL (aL : List Int) (full : List Int) (k : Nat) : Int := ((full.take k).map (fH aL)).sum
theorem sd {aL full : List Int} {k : Nat} {x : Int} (h : full[k]? = some x) : bL aL full (k + 1) = bL aL full k + fH aL x := by
  unfold bL
  rw [dJ h,List.map_append,List.sum_append]
  simp
structure gM (W : Int) (n : Nat) (aL : List Int) : Prop where
  w0 : 0 < W
  w1 : W < 2 ^ 70
  len : aL.length = n + 1
  t0 : ∀ t ∈ aL,0 <= t /\ t <= W
theorem Ef {W : Int} {n : Nat} {aL : List Int} (h : gM W n aL) (x : Int) : 0 <= fH aL x /\ fH aL x <= W := by
  unfold fH
  rw [List.getD_eq_getElem?_getD]
  cases q : aL[x.toNat]? with
  | none => exact ⟨Int.le_refl _,Int.le_of_lt h.w0⟩
  | some t => exact h.t0 t (List.mem_of_getElem? q)
theorem xv {W : Int} {n : Nat} {aL : List Int} (h : gM W n aL) (full : List Int) : ∀ k,0 <= bL aL full k /\ bL aL full k <= k * W
  | 0 => by show 0 <= (0 : Int) /\ (0 : Int) <= ((0 : Nat) : Int) * W; omega
  | k + 1 => by
    have ih := xv h full k
    cases q : full[k]? with
    | none =>
      have hk : full.length <= k := by
        rcases Nat.lt_or_ge k full.length with z | z
        · rw [List.getElem?_eq_getElem z] at q; cases q
        · exact z
      have e : bL aL full (k + 1) = bL aL full k := by unfold bL; rw [List.take_of_length_le hk,List.take_of_length_le (by omega)]
      rw [e]
      have := h.w0
      refine ⟨ih.1,Int.le_trans ih.2 ?_⟩
      exact Int.mul_le_mul_of_nonneg_right (by omega) (by omega)
    | some x =>
      rw [sd q]
      have := Ef h x
      have e : (((k + 1 : Nat)) : Int) * W = k * W + W := by rw [Int.natCast_succ,Int.add_mul,Int.one_mul]
      rw [e]; omega
theorem wN {W s : Int} {m : Nat} (h : 0 < W) (w1 : W < 2 ^ 70) (s0 : 0 <= s) (s1 : s <= m * W) (hm : m <= 100) : iY (fW W s) := by
  have a := kG (s := s) h
  have b := Hn (s := s) h
  have c := FN (s := s) h
  have d : (m : Int) * W <= 100 * 2 ^ 70 := Int.mul_le_mul (by omega) (by omega) (by omega) (by decide)
  refine ⟨a,?_,?_⟩
  · have : (fW W s).2.natAbs <= 2 ^ 70 := by omega
    exact Nat.lt_of_le_of_lt this (by decide)
  · have : (fW W s).1.natAbs <= 100 * 2 ^ 70 := by omega
    exact Nat.lt_of_le_of_lt this (by decide)
def iH (W : Int) (aL full : List Int) (k : Nat) : List Tr := (List.range k).map fun j => tF (fW W (bL aL full (j + 1)))
theorem NM (W : Int) (aL full : List Int) (k : Nat) : iH W aL full (k + 1) = iH W aL full k ++ [tF (fW W (bL aL full (k + 1)))] := by
  unfold iH
  rw [List.range_succ,List.map_append]; rfl
theorem rowAt {W : Int} {n : Nat} {aL : List Int} (h : gM W n aL) {x : Int} (x0 : 0 <= x) (x1 : x <= n) : aZ ((aL.map (fW W)).map dF) x = some (dF (fW W (fH aL x))) := by
  obtain ⟨m,rfl⟩ : ∃ m : Nat,x = (m : Int) := ⟨x.toNat,by omega⟩
  have hm : m < aL.length := by rw [h.len]; omega
  refine e9 ?_
  unfold fH
  rw [List.getElem?_map,List.getElem?_map,List.getD_eq_getElem?_getD,Int.toNat_natCast,List.getElem?_eq_getElem hm]; rfl
theorem Qx {n : Nat} {o : List Int} (h : ∀ x ∈ o,0 <= x /\ x < n) : ∀ x ∈ aJ n o,0 <= x /\ x <= n := fun x hx => by
  unfold aJ gu at hx
  rcases List.mem_append.mp hx with z | z
  · rcases List.mem_append.mp z with z | z
    · have := h x z; omega
    · rw [List.mem_singleton] at z; omega
  · obtain ⟨k,hk,rfl⟩ := List.mem_map.mp z
    have := List.mem_range.mp (List.mem_filter.mp hk).1
    omega
theorem wO {n : Nat} (o : List Int) : (aJ n o).length <= o.length + 1 + n := by
  have := o8 n o
  unfold aJ
  simp only [List.length_append,List.length_singleton]; omega
abbrev nL : Stmt := top 34
theorem pP : bh ["table", "asker", "row", "told", "total", "one"] ["table", "asker", "row"] (ag nL) := ⟨rfl,rfl,rfl,by decide +kernel,rfl,by decide +kernel,by decide +kernel⟩
def HB (dd : List Dv) (t : Tr) : Prop := ∃ (c : List Int) (os : List (List Int)) (a : Int) (o : List Int) (W : Int) (aL : List Int),c.length <= 6 /\ o.length <= 6 /\ (∀ x ∈ o,0 <= x /\ x < c.length) /\ aZ os a = some o /\ gM W c.length aL /\
  dd = [aX c os,di a,.lst ((aL.map (fW W)).map dF)] /\ t = .ow (iH W aL (aJ c.length o) (aJ c.length o).length)
theorem Qy {f f1 f2 f3 : Addr} {fd aW fd2 gj : FuncData} {k : Nat} {tk : Tok} (F : bu K "sums" "sums" nL f fd) (T : Txt mg) (iR : Kn P w K mg base aq (k + 2) "fraction" f1 aW ["top", "bottom"] (spT K kO)) (B1 : Binds K aW ["top", "bottom"] [.int 1 tk]) (vI : Kn P w K mg base aq (k + 1) "full_order" f2 fd2 ["table", "asker"] (spT K nU)) (xU : Kn P w K mg base aq (k + 3) "plus" f3 gj ["one", "other"] (spT K yl)) : aR P w K mg base aq (k + 4) f fd ["table", "asker", "row"] (spT K HB) := by
  refine bG F.d pP (fun dd t h => by obtain ⟨_,_,_,_,_,_,_,_,_,_,_,rfl,_⟩ := h; rfl) fun dd t h => ?_
  obtain ⟨c,os,a,o,W,aL,c6,o6,je,fE,ok,rfl,rfl⟩ := h
  refine ⟨_,.inl rfl,?_⟩
  have big : 1000 < sizeLine := by decide
  have fl := wO (n := c.length) o
  have fin := Qx je
  have w0 := ok.w0
  refine ak (aH 3 (Ev.s (bX av (Nat.zero_le _))) (fun _ => pP.nd)) ?_
  have e0 : (lT 0 1,lB 0 1) = fW W (bL aL (aJ c.length o) 0) := by
    rw [show bL aL (aJ c.length o) 0 = 0 from rfl]
    exact EW w0 (by decide) (by rw [Int.zero_mul,Int.zero_mul])
  refine ak (aH 4 (cg.to (t' := tF (fW W (bL aL (aJ c.length o) 0))) (Ev.s (D3 iR B1 (by show k + 2 <= k + 3; omega) (ah au av) ⟨0,1,by decide,ip (by decide) (by decide),rfl,rfl⟩)) (by rw [e0])) (fun _ => pP.nd)) ?_
  refine ak (eE (bA.s (cT (aY vI (by show k + 1 <= k + 3; omega) (ah (ae 0 rfl) (ah (ae 1 rfl) av)) ⟨c,os,a,o,by omega,by omega,fE,rfl,rfl⟩) (dN _))) (bJ 5 (fun _ => pP.nd)) (fun k => [some (.fz (aX c os)),some (ti a),some (.fz (.lst ((aL.map (fW W)).map dF))),some (.ow (iH W aL (aJ c.length o) k)),some (tF (fW W (bL aL (aJ c.length o) k))),none]) rfl (fun _ => rfl) (fun j d hd => ?_)) ?_
  · obtain ⟨x,hx,rfl⟩ := eA hd
    obtain ⟨x0,x1⟩ := fin x (List.mem_of_getElem? hx)
    have hj : j < (aJ c.length o).length := by
      rcases Nat.lt_or_ge j (aJ c.length o).length with z | z
      · exact z
      · rw [List.getElem?_eq_none z] at hx; cases hx
    obtain ⟨s0,s1⟩ := xv ok (aJ c.length o) j
    obtain ⟨t0,t1⟩ := Ef ok x
    have pl : (iH W aL (aJ c.length o) j).length = j := by unfold iH; rw [List.length_map,List.length_range]
    rw [NM,sd hx]
    generalize iH W aL (aJ c.length o) j = L at pl
    generalize bL aL (aJ c.length o) j = S at s0 s1
    have uC : iY (fW W S) := wN w0 ok.w1 s0 s1 (by omega)
    have Am : iY (fW W (fH aL x)) := wN (m := 1) w0 ok.w1 t0 (by omega) (by decide)
    exact ⟨_,_,rfl,ak (aH 4 (cg.to (t' := tF (fW W (S + fH aL x))) (Ev.s (aY xU (Nat.le_refl _) (ah (ae 4 rfl) (ah (cw (ae 2 rfl) (ae 5 rfl) rfl (rowAt ok x0 x1)) av)) ⟨fW W S,fW W (fH aL x),uC,Am,rfl,rfl⟩)) (by rw [EX w0])) (fun _ => pP.nd)) (aN (rZ 3 rfl (Ev.s (ae 4 rfl)) (by omega))),[5],rfl⟩
  · rw [List.length_map]
    exact aN (kB 3 rfl)
def xV (p q : Int × Int) : Bool := decide (p.1 * q.2 < q.1 * p.2)
def Gr (dd : List Dv) (t : Tr) : Prop := ∃ p q : Int × Int,iY p /\ iY q /\ dd = [dF p,dF q] /\ t = tb (xV p q)
abbrev nu : Stmt := top 16
theorem OL : bh ["one", "other"] ["one", "other"] (ag nu) := ⟨rfl,rfl,rfl,by decide +kernel,rfl,by decide +kernel,by decide +kernel⟩
theorem OM {f : Addr} {fd : FuncData} {k : Nat} (F : bu K "under" "under" nu f fd) (T : Txt mg) : aR P w K mg base aq (k + 1) f fd ["one", "other"] (spT K Gr) := by
  refine bG F.d OL (fun dd t h => by obtain ⟨_,_,_,_,rfl,_⟩ := h; rfl) fun dd t h => ?_
  obtain ⟨p,q,⟨p1,p2,p3⟩,⟨q1,q2,q3⟩,rfl,rfl⟩ := h
  refine ⟨_,.inl rfl,?_⟩
  have rL : ∀ r : Int × Int,aZ [di r.1,di r.2] 0 = some (di r.1) := fun _ => rfl
  have jv : ∀ r : Int × Int,aZ [di r.1,di r.2] 1 = some (di r.2) := fun _ => rfl
  exact aN (cf (Ev.s (yb (nC (bO (ae 0 rfl) au rfl (rL p)) (bO (ae 1 rfl) au rfl (jv q)) ⟨gJ p3 (by decide),gJ q2 (by decide)⟩) (nC (bO (ae 1 rfl) au rfl (rL q)) (bO (ae 0 rfl) au rfl (jv p)) ⟨gJ q3 (by decide),gJ p2 (by decide)⟩))))
theorem OO {W s t : Int} (h : 0 < W) : xV (fW W s) (fW W t) = decide (s < t) := by
  unfold xV
  rw [decide_eq_decide]
  exact Sd h
def ym (t1 t2 full : List Int) : List Bool := (List.range full.length).map fun k => decide (bL t1 full (k + 1) < bL t2 full (k + 1))
def iD (t1 t2 full : List Int) : Bool := !(ym t1 t2 full).any id
theorem Eg {t1 t2 full : List Int} : iD t1 t2 full = true ↔ ∀ k,k < full.length -> bL t2 full (k + 1) <= bL t1 full (k + 1) := by
  unfold iD ym
  rw [Bool.not_eq_true',List.any_eq_false]
  constructor
  · intro h k hk
    have := h _ (List.mem_map.mpr ⟨k,List.mem_range.mpr hk,rfl⟩)
    simp only [id,decide_eq_true_eq] at this
    omega
  · intro h b hb
    obtain ⟨k,hk,rfl⟩ := List.mem_map.mp hb
    have := h k (List.mem_range.mp hk)
    simp only [id,decide_eq_true_eq]
    omega
def lq (W : Int) (aL full : List Int) (k : Nat) : List (Int × Int) := (List.range k).map fun j => fW W (bL aL full (j + 1))
theorem Fc (W : Int) (aL full : List Int) (k : Nat) : er (.ow (iH W aL full k)) = .lst ((lq W aL full k).map dF) := by
  unfold iH lq
  rw [jC,List.map_map]; rfl
theorem Qz (W : Int) (t1 t2 full : List Int) (m : Nat) : n6 ((lq W t1 full m).map dF) ((lq W t2 full m).map dF) = (List.range m).map fun j => .tup [dF (fW W (bL t1 full (j + 1))),dF (fW W (bL t2 full (j + 1)))] := by
  unfold lq
  rw [List.map_map,List.map_map]
  have gen : ∀ (f g : Nat -> Dv) (l : List Nat),n6 (l.map f) (l.map g) = l.map fun a => .tup [f a,g a] := fun f g l => by
    induction l with
    | nil => rfl
    | cons a l ih =>
      show Dv.tup [f a,g a] :: n6 (l.map f) (l.map g) = _
      rw [ih]; rfl
  exact gen _ _ _
theorem DF {W : Int} {n m : Nat} {aL full : List Int} (h : gM W n aL) (hm : m <= 100) : iY (fW W (bL aL full m)) := by
  obtain ⟨a,b⟩ := xv h full m
  exact wN h.w0 h.w1 a b hm
def df (W : Int) (aL : List Int) : Dv := .lst ((aL.map (fW W)).map dF)
abbrev m5 : Stmt := top 35
theorem vU : bh ["table", "asker", "one", "other", "own", "others"] ["table", "asker", "one", "other"] (ag m5) := ⟨rfl,rfl,rfl,by decide +kernel,rfl,by decide +kernel,by decide +kernel⟩
def HC (dd : List Dv) (t : Tr) : Prop := ∃ (c : List Int) (os : List (List Int)) (a : Int) (o : List Int) (W : Int) (t1 t2 : List Int),c.length <= 6 /\ o.length <= 6 /\ (∀ x ∈ o,0 <= x /\ x < c.length) /\ aZ os a = some o /\ gM W c.length t1 /\ gM W c.length t2 /\
  dd = [aX c os,di a,df W t1,df W t2] /\ t = tb (iD t1 t2 (aJ c.length o))
theorem MT {f f1 f2 : Addr} {fd aW fd2 : FuncData} {k : Nat} (F : bu K "as_good" "as_good" m5 f fd) (T : Txt mg) (Gs : Kn P w K mg base aq (k + 4) "sums" f1 aW ["table", "asker", "row"] (spT K HB)) (QA : Kn P w K mg base aq (k + 1) "under" f2 fd2 ["one", "other"] (spT K Gr)) : aR P w K mg base aq (k + 5) f fd ["table", "asker", "one", "other"] (spT K HC) := by
  refine bG F.d vU (fun dd t h => by obtain ⟨_,_,_,_,_,_,_,_,_,_,_,_,_,rfl,_⟩ := h; rfl) fun dd t h => ?_
  obtain ⟨c,os,a,o,W,t1,t2,c6,o6,je,fE,k1,k2,rfl,rfl⟩ := h
  refine ⟨_,.inl rfl,?_⟩
  have big : 1000 < sizeLine := by decide
  have fl := wO (n := c.length) o
  refine ak (aH 4 (Ev.s (Ev.as (d := .lst ((lq W t1 (aJ c.length o) (aJ c.length o).length).map dF)) (aY Gs (Nat.le_refl _) (ah (ae 0 rfl) (ah (ae 1 rfl) (ah (ae 2 rfl) av))) ⟨c,os,a,o,W,t1,c6,o6,je,fE,k1,rfl,rfl⟩) (Fc _ _ _ _))) (fun _ => vU.nd)) ?_
  refine ak (aH 5 (Ev.s (Ev.as (d := .lst ((lq W t2 (aJ c.length o) (aJ c.length o).length).map dF)) (aY Gs (Nat.le_refl _) (ah (ae 0 rfl) (ah (ae 1 rfl) (ah (ae 3 rfl) av))) ⟨c,os,a,o,W,t2,c6,o6,je,fE,k2,rfl,rfl⟩) (Fc _ _ _ _))) (fun _ => vU.nd)) ?_
  generalize aJ c.length o = full at fl
  refine aN (cf (cg.to (Ev.s (FH (xN (bs := ym t1 t2 full) T.yk (kF (own := ["mine", "theirs"]) (fr := []) (List.range full.length) (fun j => .tup [dF (fW W (bL t1 full (j + 1))),dF (fW W (bL t2 full (j + 1)))]) (fun j => tb (decide (bL t1 full (j + 1) < bL t2 full (j + 1)))) (fun i => lcs ⟨rfl,rfl,by decide +kernel,by decide +kernel,by decide +kernel,by decide +kernel⟩) (bA.to (Pr T.Sr (ae 4 rfl) (ae 5 rfl) rfl rfl) (Qz W t1 t2 full full.length)) (p7 0 1 (fun _ => by show List.Nodup (["mine", "theirs"] : List Str); decide)) (by decide) (by rw [List.length_range]; omega) (fun j hj => ⟨_,rfl,by
      have j6 := List.mem_range.mp hj
      exact Ev.to (aY QA (by show k + 1 <= k + 4; omega) (ah (ae 0 rfl) (ah (ae 1 rfl) av)) ⟨_,_,DF k1 (by omega),DF k2 (by omega),rfl,rfl⟩) (by rw [OO k1.w0])⟩) (fun dd => by rcases dd with _ | ⟨_,_ | ⟨_,_⟩⟩ <;> rfl)) (xq _ _)))) rfl))
end
end bw
namespace bw
open PySem L2 dI
section
variable {P : Program} {w : World} {K : PySem.W.Frag} {mg : Str -> Option Value} {base : Heap}
def b0 (n k : Nat) : List (List Int) := (List.range (k + 1)).flatMap (bj n)
theorem xx (n k : Nat) : b0 n (k + 1) = b0 n k ++ bj n (k + 1) := by
  unfold b0
  rw [List.range_succ (n := k + 1),List.flatMap_append]
  simp
theorem ku : ∀ n,n <= 4 -> ∀ k,k <= n -> (b0 n k).length <= 65 := by
  have : ∀ n : Fin 5,∀ k : Fin (n.val + 1),(b0 n.val k.val).length <= 65 := by decide +kernel
  intro n hn k hk
  exact this ⟨n,by omega⟩ ⟨k,by show k < n + 1; omega⟩
theorem sW {K : PySem.W.Frag} {G : Hp} : ∀ l : List Int,aI K G (l.map di) (l.map V.int)
  | [] => rfl
  | n :: l => ⟨.int n,l.map V.int,rfl,⟨rfl,rfl⟩,sW l⟩
theorem Eh {K : PySem.W.Frag} {G : Hp} : ∀ {ps : List (Addr × List Int)},(∀ p ∈ ps,G p.1 = some (.lst (p.2.map V.int))) -> aI K G ((ps.map (·.2)).map dis) (ps.map fun p => V.ref p.1)
  | [],_ => rfl
  | p :: ps,h => ⟨.ref p.1,_,rfl,⟨p.1,p.2.map V.int,rfl,aD.of (h p (.head _)),sW p.2⟩,Eh fun q hq => h q (.tail _ hq)⟩
theorem Ei {K : PySem.W.Frag} {G H : Hp} : ∀ {ps : List (Addr × List Int)},(∀ p ∈ ps,H p.1 = some (.lst (p.2.map V.int))) -> aB K G H ((ps.map (·.2)).map tL) (ps.map fun p => V.ref p.1) (ps.map (·.1))
  | [],_ => ⟨rfl,rfl⟩
  | p :: ps,h => ⟨.ref p.1,_,[p.1],ps.map (·.1),rfl,rfl,⟨p.1,p.2.map V.int,[],rfl,h p (.head _),qd p.2,rfl⟩,Ei fun q hq => h q (.tail _ hq)⟩
structure Told (H0 H : Hp) (a : Addr) (ps : List (Addr × List Int)) : Prop where
  at_ : H a = some (.lst (ps.map fun p => V.ref p.1))
  rows : ∀ p ∈ ps,H p.1 = some (.lst (p.2.map V.int))
  nd : (a :: ps.map (·.1)).Nodup
  new : ∀ x ∈ a :: ps.map (·.1),H0 x = none
theorem sM {K : PySem.W.Frag} {G H0 H : Hp} {L : List (List Int)} {v : V} {fq : List Addr} (h : Ow K G H (eu L) v fq) (n : ∀ x ∈ fq,H0 x = none) (d : fq.Nodup) : ∃ a ps,v = .ref a /\ fq = a :: ps.map (·.1) /\ ps.map (·.2) = L /\ Told H0 H a ps := by
  obtain ⟨a,vs,JB,rfl,ha,eO,rfl⟩ := h
  obtain ⟨ps,rfl,rfl,e3,e4⟩ := EY eO
  exact ⟨a,ps,rfl,rfl,e3,ha,e4,d,n⟩
abbrev dc : Stmt := top 50
abbrev fF : List Str := ["many", "told", "longest", "length"]
theorem oM : bh fF ["many"] (ag dc) := ⟨rfl,rfl,rfl,by decide +kernel,rfl,by decide +kernel,by decide +kernel⟩
abbrev zh (i : Nat) : Stmt := (aQ dc).getD i (.Pass ⟨0,0,0,0⟩)
theorem Yv {X : Cx} {K : PySem.W.Frag} {e : Expr} {t : TE} {ta : TA} (hK : X.K = K) (h : PE X e (fZ X.K "list" pC t ta)) : PE X e (fZ K "list" pC t ta) := hK ▸ h
theorem RK {f f1 : Addr} {aW : FuncData} {k n : Nat} (T : Txt mg) (pz : Kn P w K mg base aq (k + 1) "longer" f1 aW ["lists", "many"] (spT K pO)) (hn : n <= 4) :
    ∃ τ : TS,(∀ i,PS ((aK P w K mg base fF "all_orders" (ag dc) f (k + 1)).cx i) (zh 3) τ) /\ ∀ (D : Ends) (o3 : Option V) (H0 H : Hp) (a b : Addr) (ps qs : List (Addr × List Int)),ai H0 H -> Told H0 H a ps -> ps.map (·.2) = b0 n 0 -> H b = some (.lst (qs.map fun p => V.ref p.1)) -> (∀ q ∈ qs,H q.1 = some (.lst (q.2.map V.int))) -> qs.map (·.2) = bj n 0 ->
      (∀ o2 o3 H' uD,ai H0 H' -> Told H0 H' a uD -> uD.map (·.2) = b0 n n -> D.nx [some (.int n),some (.ref a),o2,o3] H') -> τ D [some (.int n),some (.ref a),some (.ref b),o3] H := by
  refine ⟨jP (tf (bt (bb 0) cm)) (cU 3) (fI (gP (iC (spT K pO) [] E0 (bt (bb 2) (bt (bb 0) cm))) (cU 2)) (jL (fZ K "list" pC (bb 1) (bt (bb 2) cm)))),fun i => ?_,?_⟩
  · exact pV (X := (aK P w K mg base fF "all_orders" (ag dc) f (k + 1)).cx i) (nZ rfl) rfl (Df (X := (aK P w K mg base fF "all_orders" (ag dc) f (k + 1)).cx i) rfl T.eC (bB (pv (X := (aK P w K mg base fF "all_orders" (ag dc) f (k + 1)).cx i) (x := "many") 0) cB)) (iS (X := (aK P w K mg base fF "all_orders" (ag dc) f (k + 1)).cx i) (i := 3) oM.nd rfl (Or.inl rfl))
      (il (pU (X := (aK P w K mg base fF "all_orders" (ag dc) f (k + 1)).cx i) (i := 2) oM.nd rfl (Or.inl rfl) (nQ (X := (aK P w K mg base fF "all_orders" (ag dc) f (k + 1)).cx i) (x := "longer") pz i.hr rfl (bB (pv (X := (aK P w K mg base fF "all_orders" (ag dc) f (k + 1)).cx i) (x := "longest") 2) (bB (pv (X := (aK P w K mg base fF "all_orders" (ag dc) f (k + 1)).cx i) (x := "many") 0) cB))))
      (jE (kx (X := (aK P w K mg base fF "all_orders" (ag dc) f (k + 1)).cx i) (Yv (K := K) rfl (jM (X := (aK P w K mg base fF "all_orders" (ag dc) f (k + 1)).cx i) PySem.F.plainAttrs_list PySem.F.slot_list_extend PySem.F.type_list_extend Dm (pv (X := (aK P w K mg base fF "all_orders" (ag dc) f (k + 1)).cx i) (x := "told") 1) (bB (pv (X := (aK P w K mg base fF "all_orders" (ag dc) f (k + 1)).cx i) (x := "longest") 2) cB))))))
  intro D o3 H0 H a b ps qs sm td e0 hb hq e1 fin
  have big : 1000 < sizeLine := by decide
  refine Pl (hi := (n : Int)) n (fun R h => ⟨_,rfl,h⟩) ⟨by omega,by omega⟩ (by omega) (fun i ao H' => ∃ b o3 ps qs,ao = [some (.int n),some (.ref a),some (.ref b),o3] /\ ai H0 H' /\ Told H0 H' a ps /\ ps.map (·.2) = b0 n i /\ H' b = some (.lst (qs.map fun p => V.ref p.1)) /\ (∀ q ∈ qs,H' q.1 = some (.lst (q.2.map V.int))) /\ qs.map (·.2) = bj n i) ⟨b,o3,ps,qs,rfl,sm,td,e0,hb,hq,e1⟩ (fun i ao H' hi z => ?_) (fun ao H' z => ?_)
  · obtain ⟨b,o3,ps,qs,rfl,sm,td,e0,hb,hq,e1⟩ := z
    obtain ⟨b1,b2⟩ := vN n (by omega) i (by omega)
    dsimp only [cU,List.set,fI,gP]
    refine ⟨_,rfl,_,rfl,H',[.lst ((qs.map (·.2)).map dis),di n],eu (cv (bj n i) n),ai.refl _,⟨_,_,rfl,⟨b,_,rfl,aD.of hb,Eh hq⟩,⟨_,_,rfl,⟨rfl,rfl⟩,rfl⟩⟩,⟨bj n i,n,by rw [e1],b1,by omega,b2,rfl⟩,fun v G2 H2 fq aA ow nw => ?_⟩
    obtain ⟨b',j9,rfl,rfl,e3,An⟩ := sM (H0 := H') ow nw.n nw.d
    have ne : ∀ x ∈ b' :: j9.map (·.1),x ≠ a := fun x hx z => by
      have := nw.n x hx
      rw [z,td.at_] at this
      cases this
    have l1 : (ps.map fun p => V.ref p.1).length <= 65 := by
      have := congrArg List.length e0
      rw [List.length_map] at this
      rw [List.length_map,this]
      exact ku n hn i (by omega)
    have l2 : (j9.map fun p => V.ref p.1).length <= 1000 - 65 := by
      have h1 := congrArg List.length e3
      have h2 := congrArg List.length (xx n i)
      have h3 := ku n hn (i + 1) (by omega)
      rw [List.length_append] at h2
      have h4 : (bj n (i + 1)).length = (cv (bj n i) n).length := rfl
      rw [List.length_map] at h1
      rw [List.length_map,h1]
      omega
    have a2 := aA.h _ _ td.at_
    refine ⟨_,rfl,.inl ⟨rfl,_,aD.of a2⟩,_,rfl,a,b',_,_,rfl,rfl,a2,An.at_,by omega,?_⟩
    have Tf : ∀ x ∈ b' :: j9.map (·.1),H0 x = none := fun x hx => sm.free (nw.n x hx)
    have Am : ai H0 (upd H2 a (.lst ((ps.map fun p => V.ref p.1) ++ j9.map fun p => V.ref p.1))) := (sm.trans aA.h).upd (td.new a (.head _))
    have jr := (List.nodup_cons.mp nw.d).2
    have Ao := List.nodup_cons.mp td.nd
    have HD : ∀ p ∈ ps ++ j9,upd H2 a (.lst ((ps.map fun p => V.ref p.1) ++ j9.map fun p => V.ref p.1)) p.1 = some (.lst (p.2.map V.int)) := fun p hp => by
      rcases List.mem_append.mp hp with hp | hp
      · have ne2 : p.1 ≠ a := fun z => Ao.1 (by rw [<- z]; exact List.mem_map_of_mem hp)
        rw [aP ne2]
        exact aA.h _ _ (td.rows p hp)
      · rw [aP (ne _ (.tail _ (List.mem_map_of_mem hp)))]
        exact An.rows p hp
    refine ⟨b',some (.int (0 + i)),ps ++ j9,j9,rfl,Am,⟨?_,HD,?_,?_⟩,?_,?_,fun q hq => HD q (List.mem_append_right _ hq),e3⟩
    · rw [ck,List.map_append]
    · rw [List.map_append]
      refine List.nodup_cons.mpr ⟨fun z => ?_,List.nodup_append.mpr ⟨Ao.2,jr,fun x hx y hy z => ?_⟩⟩
      · rcases List.mem_append.mp z with z | z
        · exact Ao.1 z
        · exact ne a (.tail _ z) rfl
      · subst z
        obtain ⟨p,hp,rfl⟩ := List.mem_map.mp hx
        have := nw.n p.1 (.tail _ hy)
        rw [td.rows p hp] at this
        cases this
    · intro x hx
      rcases List.mem_cons.mp hx with rfl | hx
      · exact td.new x (.head _)
      · rw [List.map_append] at hx
        rcases List.mem_append.mp hx with hx | hx
        · exact td.new x (.tail _ hx)
        · exact Tf x (.tail _ hx)
    · rw [List.map_append,e0,e3,xx]; rfl
    · rw [aP (ne b' (.head _))]
      exact An.at_
  · obtain ⟨b,o3,ps,qs,rfl,sm,td,e0,_⟩ := z
    exact fin _ _ _ ps sm td e0
def HE (dd : List Dv) (t : Tr) : Prop := ∃ n : Nat,n <= 4 /\ dd = [di n] /\ t = eu (b0 n n)
theorem LI {f f1 : Addr} {fd aW : FuncData} {k : Nat} (F : bu K "all_orders" "all_orders" dc f fd) (T : Txt mg) (pz : Kn P w K mg base aq (k + 1) "longer" f1 aW ["lists", "many"] (spT K pO)) : aR P w K mg base aq (k + 2) f fd ["many"] (spT K HE) := by
  refine bG F.d oM (fun dd t h => by obtain ⟨n,_,rfl,_⟩ := h; rfl) fun dd t h => ?_
  obtain ⟨n,hn,rfl,rfl⟩ := h
  obtain ⟨tk,hg⟩ := T.oK
  refine ⟨_,.inl rfl,?_⟩
  refine ak (du (Et.s (Ew.et (kL (p := false) (q := false) (Et.to (qj (ae 0 rfl) au) ?_) fun _ => nD (Et.to (jN (ae 0 rfl) (pG (v := .int 4) hg ⟨_,rfl⟩ rfl)) ?_)))) rfl) ?_
  · exact decide_eq_false (by omega)
  · exact decide_eq_false (by omega)
  refine ak (aH 1 (Ev.s (bX (ah (bX av (Nat.zero_le _)) av) (by show 1 <= sizeLine; decide))) (fun _ => oM.nd)) ?_
  refine ak (aH 2 (Ev.s (bX (ah (bX av (Nat.zero_le _)) av) (by show 1 <= sizeLine; decide))) (fun _ => oM.nd)) ?_
  show bI _ [zh 3,zh 4] [some (ti n),some (eu [[]]),some (eu [[]]),none] _
  obtain ⟨τ,p,q⟩ := RK (P := P) (w := w) (base := base) (f := f) T pz hn
  refine ⟨fI τ (nW (bb 1)),fun i => il (p i) (jE (pS (pv (X := (aK P w K mg base fF "all_orders" (ag dc) f (k + 1)).cx i) (x := "told") 1))),fun D σ G0 H0 G H r post => ?_⟩
  obtain ⟨fp,r⟩ := r
  obtain ⟨v0,_,fa,_,rfl,rfl,⟨Ap,h0⟩,v1,_,uF,_,rfl,rfl,Aq,v2,_,uG,_,rfl,rfl,Yw,o3,_,rfl,rfl,rfl⟩ := r.own
  have hG : ∀ x o,G0 x = some o -> x ∉ fa ++ (uF ++ (uG ++ [])) := fun x o hx hm => by
    have := r.g x hm
    rw [r.st.g x o hx] at this
    cases this
  have hH : ∀ x o,H0 x = some o -> x ∉ fa ++ (uF ++ (uG ++ [])) := fun x o hx hm => by
    have := r.n x hm
    rw [hx] at this
    cases this
  have d0 := r.d
  obtain ⟨B,hB⟩ : ∃ B : Hp,B = fun x => if x ∈ uF ++ uG then none else H x := ⟨_,rfl⟩
  have Ar : fa = [] := Ap
  rw [Ar,List.nil_append,List.append_nil] at d0 hG hH
  have n0 : ∀ x ∈ uF ++ uG,B x = none := fun x hx => by rw [hB]; exact if_pos hx
  have sB : ai B H := fun x o hx => by
    rw [hB] at hx
    dsimp only at hx
    split at hx
    · cases hx
    · exact hx
  have gB : ai G0 B := fun x o hx => by rw [hB]; exact (if_neg (hG x o hx)).trans (r.st.s _ _ (r.st.g _ _ hx))
  have oB : ai H0 B := fun x o hx => by rw [hB]; exact (if_neg (hH x o hx)).trans (r.st.h _ _ hx)
  have nn : ∀ x,B x = none -> H0 x = none /\ G0 x = none := fun x hx => ⟨oB.free hx,gB.free hx⟩
  obtain ⟨d1,d2,d3⟩ := List.nodup_append.mp d0
  obtain ⟨a,ps,rfl,rfl,e1,uH⟩ := sM (H0 := B) Aq (fun x hx => n0 x (List.mem_append_left _ hx)) d1
  obtain ⟨b,qs,rfl,rfl,e2,JY⟩ := sM (H0 := B) Yw (fun x hx => n0 x (List.mem_append_right _ hx)) d2
  rw [aO h0]
  refine q _ o3 B H a b ps qs sB uH e1 JY.at_ JY.rows e2 fun o2 o3 H' uD sm td e3 => ?_
  refine ⟨_,rfl,?_⟩
  refine post (.ref a) G0 H' (a :: uD.map (·.1)) ⟨ai.refl _,oB.trans sm,gB.trans sm,fun a h h' => absurd h h'⟩ ?_ ⟨fun x hx => (nn x (td.new x hx)).1,fun x hx => (nn x (td.new x hx)).2,td.nd⟩
  rw [<- e3]
  exact ⟨a,_,_,rfl,td.at_,Ei td.rows,rfl⟩
end
end bw
namespace bw
open PySem L2 dI
section
variable {P : Program} {w : World} {K : PySem.W.Frag} {mg : Str -> Option Value} {base : Heap}
theorem nM (cs : List Int) (os : List (List Int)) : aZ [dis cs,.lst (os.map dis)] 1 = some (.lst (os.map dis)) := rfl
theorem nN (cs : List Int) (os : List (List Int)) : aZ [dis cs,.lst (os.map dis)] 0 = some (dis cs) := rfl
abbrev mz : Stmt := top 48
theorem Li : bh ["table", "asker"] ["table", "asker"] (ag mz) := ⟨rfl,rfl,rfl,by decide +kernel,rfl,by decide +kernel,by decide +kernel⟩
def zi (dd : List Dv) (t : Tr) : Prop := ∃ (cs : List Int) (os : List (List Int)) (n : Int),0 <= n /\ n < os.length /\ dd = [aX cs os,di n] /\ t = tn
theorem Lj {f : Addr} {fd : FuncData} {k : Nat} (F : bu K "check_asker" "check_asker" mz f fd) (T : Txt mg) : aR P w K mg base aq (k + 1) f fd ["table", "asker"] (spT K zi) := by
  refine bG F.d Li (fun dd t h => by obtain ⟨_,_,_,_,_,rfl,_⟩ := h; rfl) fun dd t h => ?_
  obtain ⟨cs,os,n,n0,n1,rfl,rfl⟩ := h
  refine ⟨_,.inr ⟨rfl,[some (.fz (aX cs os)),some (ti n)],rfl⟩,?_⟩
  refine aN (du (Et.s (Ew.et (kL (p := false) (q := false) (Et.to (qj (ae 1 rfl) au) (decide_eq_false (by omega))) fun _ => nD (Et.to (R4 (ae 1 rfl) (cL T.cC (bO (ae 0 rfl) au rfl (nM cs os)) (.inl rfl))) (decide_eq_false (by rw [List.length_map]; omega)))))) rfl)
abbrev Yx : List Str := ["table", "asker", "order", "orders"]
abbrev mh : Stmt := top 49
theorem CP : bh Yx ["table", "asker", "order"] (ag mh) := ⟨rfl,rfl,rfl,by decide +kernel,rfl,by decide +kernel,by decide +kernel⟩
theorem NN (os : List (List Int)) (n : Nat) (o : List Int) : er (.ow (((os.map dis).map Tr.fz).set n (.fz (dis o)))) = .lst ((os.set n o).map dis) := by
  rw [<- List.map_set,<- List.map_set,iA]
theorem RL {os : List (List Int)} {n : Int} (n0 : 0 <= n) (n1 : n < os.length) : dR ((os.map dis).map Tr.fz).length n = some n.toNat := by
  unfold dR
  rw [List.length_map,List.length_map,if_pos n0,if_pos (by omega)]
def uI (dd : List Dv) (t : Tr) : Prop := ∃ (cs : List Int) (os : List (List Int)) (n : Int) (o : List Int),0 <= n /\ n < os.length /\ cV cs (os.set n.toNat o) /\ dd = [aX cs os,di n,dis o] /\ t = .tp [aM cs,kN (os.set n.toNat o)]
theorem KZ {f f1 f2 : Addr} {fd aW fd2 : FuncData} {k : Nat} (F : bu K "told_otherwise" "told_otherwise" mh f fd) (T : Txt mg) (vH : Kn P w K mg base aq (k + 1) "check_asker" f1 aW ["table", "asker"] (spT K zi)) (MU : Kn P w K mg base aq (k + 2) "table_of" f2 fd2 ["counts", "orders"] (spT K Im)) : aR P w K mg base aq (k + 3) f fd ["table", "asker", "order"] (spT K uI) := by
  refine bG F.d CP (fun dd t h => by obtain ⟨_,_,_,_,_,_,_,rfl,_⟩ := h; rfl) fun dd t h => ?_
  obtain ⟨cs,os,n,o,n0,n1,ok,rfl,rfl⟩ := h
  refine ⟨_,.inl rfl,?_⟩
  refine ak (w8 (Ev.s (aY vH (by show k + 1 <= k + 2; omega) (ah (ae 0 rfl) (ah (ae 1 rfl) av)) ⟨cs,os,n,n0,n1,rfl,rfl⟩))) ?_
  refine ak (aH 3 (Ev.s (jF T.fP (bO (ae 0 rfl) au rfl (nM cs os)) (.inl rfl))) (fun _ => CP.nd)) ?_
  refine ak (m8 3 (n := n) (m := n.toNat) (us := (os.map dis).map Tr.fz) (t := .fz (dis o)) rfl (Ev.s (ae 1 rfl)) (RL n0 n1) (Ev.s (ae 2 rfl)) (hps := fun i => nz (pv 3) (jO i) set_list)) ?_
  refine PC 3 rfl ?_
  rw [NN]
  show bI _ _ [some (.fz (aX cs os)),some (ti n),some (.fz (dis o)),some (.fz (.lst ((os.set n.toNat o).map dis)))] _
  exact aN (cf (Ev.s (aY MU (Nat.le_refl _) (ah (bO (ae 0 rfl) au rfl (nN cs os)) (ah (ae 3 rfl) av)) ⟨cs,os.set n.toNat o,ok,rfl,rfl⟩)))
def cb (c : List Int) (os : List (List Int)) (a : Int) : List Int := (aG (c.length + 1)).map (cI (cq c os) a)
theorem wQ (W : Int) (r : List Int) : df W r = .lst (r.map fun s => dF (fW W s)) := by unfold df; rw [List.map_map]; rfl
abbrev ni : Stmt := top 51
theorem DG : bh ["table", "asker", "way", "shares"] ["table", "asker", "way"] (ag ni) := ⟨rfl,rfl,rfl,by decide +kernel,rfl,by decide +kernel,by decide +kernel⟩
theorem Gu {c : List Int} {os : List (List Int)} (h5 : os.length <= 5) (a : Int) : gM (wT os) c.length (cb c os a) := by
  have M := Fb (c := c) h5
  refine ⟨M.w0,M.w1,by unfold cb; rw [List.length_map,wo],fun t ht => ?_⟩
  obtain ⟨x,_,rfl⟩ := List.mem_map.mp ht
  have al : (cq c os).length = (bj os.length os.length).length := by unfold cq; rw [List.length_map]
  have := List.countP_le_length (p := fun d => decide (bN d a = x)) (l := cq c os)
  unfold cI
  show _ /\ _ <= ((bj os.length os.length).length : Int)
  omega
def sX (dd : List Dv) (t : Tr) : Prop := ∃ (c : List Int) (os : List (List Int)) (a : Int),cV c os /\ 0 <= a /\ a < os.length /\ os.length <= 5 /\ dd = [aX c os,di a,ds "turns"] /\ t = .fz (df (wT os) (cb c os a))
theorem NP {f f1 : Addr} {fd aW : FuncData} {k : Nat} (F : bu K "row_at" "row_at" ni f fd) (T : Txt mg) (LJ : Kn P w K mg base aq (k + 7) "turn_shares" f1 aW ["table"] (spT K C5)) : aR P w K mg base aq (k + 8) f fd ["table", "asker", "way"] (spT K sX) := by
  refine bG F.d DG (fun dd t h => by obtain ⟨_,_,_,_,_,_,_,rfl,_⟩ := h; rfl) fun dd t h => ?_
  obtain ⟨c,os,a,ok,a0,a1,h5,rfl,rfl⟩ := h
  refine ⟨_,.inl rfl,?_⟩
  have key : ∀ (g : Int -> Dv),aZ ((aG os.length).map g) a = some (g a) := fun g => by
    rw [show a = ((a.toNat : Nat) : Int) by omega]
    refine e9 ?_
    unfold aG
    rw [List.map_map,List.getElem?_map,List.getElem?_range (by omega)]
    show some (g (0 + ((a.toNat : Nat) : Int))) = _
    rw [Int.zero_add]
  have e : er (uB (wT os) os.length c.length (cq c os)) = .lst ((aG os.length).map fun b => df (wT os) (cb c os b)) := by
    unfold uB
    rw [jC]
    congr 1
    refine List.map_congr_left fun b _ => ?_
    rw [jC,wQ]
    unfold cb
    rw [List.map_map]; rfl
  refine ak (aH 3 (Ev.s (R7 (Et.to (q := true) (FO (u := .str "turns") (v := .str "turns") (ae 2 rfl) iV rfl) (decide_eq_true rfl)) (fun _ => Ev.as (aY LJ (Nat.le_refl _) (ah (ae 0 rfl) av) ⟨c,os,ok,h5,rfl,rfl⟩) e) (fun h => by cases h))) (fun _ => DG.nd)) ?_
  exact aN (cf (Ev.s (cw (ae 3 rfl) (ae 1 rfl) rfl (key _))))
def tE (W : Int) (t1 t2 full : List Int) : Str := if bR (df W t2) (df W t1) = true then "same" else if iD t1 t2 full = true then "worse" else if iD t2 t1 full = true then "better" else "other"
abbrev mV : Stmt := top 52
theorem Mz : bh ["table", "asker", "first", "new"] ["table", "asker", "first", "new"] (ag mV) := ⟨rfl,rfl,rfl,by decide +kernel,rfl,by decide +kernel,by decide +kernel⟩
def tG (dd : List Dv) (t : Tr) : Prop := ∃ (c : List Int) (os : List (List Int)) (a : Int) (o : List Int) (W : Int) (t1 t2 : List Int),c.length <= 6 /\ o.length <= 6 /\ (∀ x ∈ o,0 <= x /\ x < c.length) /\ aZ os a = some o /\ gM W c.length t1 /\ gM W c.length t2 /\ dd = [aX c os,di a,df W t1,df W t2] /\ t = tx (tE W t1 t2 (aJ c.length o))
theorem Gv (W : Int) (r : List Int) : cS (df W r) <= 50 := Nat.le_trans (sJ (n := 1) fun d hd => by
  obtain ⟨p,_,rfl⟩ := List.mem_map.mp hd
  exact RJ p) (by decide)
theorem MA {f f1 : Addr} {fd aW : FuncData} {k : Nat} (F : bu K "word_for" "word_for" mV f fd) (T : Txt mg) (se : Kn P w K mg base aq (k + 5) "as_good" f1 aW ["table", "asker", "one", "other"] (spT K HC)) : aR P w K mg base aq (k + 6) f fd ["table", "asker", "first", "new"] (spT K tG) := by
  refine bG F.d Mz (fun dd t h => by obtain ⟨_,_,_,_,_,_,_,_,_,_,_,_,_,rfl,_⟩ := h; rfl) fun dd t h => ?_
  obtain ⟨c,os,a,o,W,t1,t2,c6,o6,je,fE,k1,k2,rfl,rfl⟩ := h
  refine ⟨_,.inl rfl,?_⟩
  unfold tE
  by_cases h0 : bR (df W t2) (df W t1) = true
  · rw [if_pos h0]
    exact pI (nH (Et.s (sQ (ae 3 rfl) (ae 2 rfl) (.inl ⟨_,_,rfl,rfl⟩) (Gv W t2))) h0 (aN (cf (Ev.s iV))))
  · rw [if_neg h0]
    refine ak (du (Et.s (sQ (ae 3 rfl) (ae 2 rfl) (.inl ⟨_,_,rfl,rfl⟩) (Gv W t2))) (by show bR (df W t2) (df W t1) = false; simpa using h0)) ?_
    by_cases h1 : iD t1 t2 (aJ c.length o) = true
    · rw [if_pos h1]
      exact pI (nH (Et.s (gI (aY se (Nat.le_refl _) (ah (ae 0 rfl) (ah (ae 1 rfl) (ah (ae 2 rfl) (ah (ae 3 rfl) av)))) ⟨c,os,a,o,W,t1,t2,c6,o6,je,fE,k1,k2,rfl,rfl⟩))) h1 (aN (cf (Ev.s iV))))
    · rw [if_neg h1]
      refine ak (du (Et.s (gI (aY se (Nat.le_refl _) (ah (ae 0 rfl) (ah (ae 1 rfl) (ah (ae 2 rfl) (ah (ae 3 rfl) av)))) ⟨c,os,a,o,W,t1,t2,c6,o6,je,fE,k1,k2,rfl,rfl⟩))) (by simpa using h1)) ?_
      by_cases h2 : iD t2 t1 (aJ c.length o) = true
      · rw [if_pos h2]
        exact pI (nH (Et.s (gI (aY se (Nat.le_refl _) (ah (ae 0 rfl) (ah (ae 1 rfl) (ah (ae 3 rfl) (ah (ae 2 rfl) av)))) ⟨c,os,a,o,W,t2,t1,c6,o6,je,fE,k2,k1,rfl,rfl⟩))) h2 (aN (cf (Ev.s iV))))
      · rw [if_neg h2]
        exact ak (du (Et.s (gI (aY se (Nat.le_refl _) (ah (ae 0 rfl) (ah (ae 1 rfl) (ah (ae 3 rfl) (ah (ae 2 rfl) av)))) ⟨c,os,a,o,W,t2,t1,c6,o6,je,fE,k2,k1,rfl,rfl⟩))) (by simpa using h2)) (aN (cf (Ev.s iV)))
end
end bw
namespace bw
open PySem L2 dI
section
variable {P : Program} {w : World} {K : PySem.W.Frag} {mg : Str -> Option Value} {base : Heap}
theorem head_take {o g : List Int} {k : Nat} {y : Int} (h1 : y ∈ o.take k) (h2 : y ∉ g) : (dZ o g).headD 0 ∈ o.take k := by
  have e : dZ o g = dZ (o.take k) g ++ dZ (o.drop k) g := by
    unfold dZ
    rw [<- List.filter_append,List.take_append_drop]
  have hy : y ∈ dZ (o.take k) g := List.mem_filter.mpr ⟨h1,by simpa using h2⟩
  rw [e]
  cases q : dZ (o.take k) g with
  | nil => rw [q] at hy; cases hy
  | cons z r =>
    have hz : z ∈ dZ (o.take k) g := by rw [q]; exact .head _
    exact (List.mem_filter.mp hz).1
theorem QB {n : Nat} {o : List Int} (nd : o.Nodup) (h : ∀ x ∈ o,0 <= x /\ x < n) : (aJ n o).Nodup := by
  unfold aJ gu
  rw [List.append_assoc,List.nodup_append]
  refine ⟨nd,?_,?_⟩
  · rw [List.singleton_append,List.nodup_cons]
    refine ⟨fun hx => ?_,?_⟩
    · obtain ⟨k,hk,e⟩ := List.mem_map.mp hx
      have := List.mem_range.mp (List.mem_filter.mp hk).1
      omega
    · rw [List.nodup_iff_pairwise_ne,List.pairwise_map]
      exact ((List.nodup_range (n := n)).filter _).imp fun h z => h (by omega)
  · intro x hx y hy e
    subst e
    rcases List.mem_append.mp hy with hy | hy
    · have := List.mem_singleton.mp hy
      have := h x hx
      omega
    · obtain ⟨k,hk,e⟩ := List.mem_map.mp hy
      have h2 := (List.mem_filter.mp hk).2
      rw [e] at h2
      simp at h2
      exact h2 hx
theorem MB {c : List Int} {os : List (List Int)} {a : Nat} {o : List Int} : ∀ (n : Nat) (ts : List Int),ts.length = n -> (∀ b ∈ ts,b.toNat ≠ a) -> bK c (os.set a o) ts = bK c os ts := by
  intro n
  induction n with
  | zero =>
    intro ts hl _
    obtain rfl := List.length_eq_zero_iff.mp hl
    show List.replicate _ _ = List.replicate _ _
    rw [List.length_set]
  | succ n ih =>
    intro rM hl h
    obtain ⟨ts,b,rfl⟩ : ∃ ts b,rM = ts ++ [b] := by
      rcases List.eq_nil_or_concat rM with rfl | ⟨ts,b,rfl⟩
      · cases hl
      · exact ⟨ts,b,by rw [List.concat_eq_append]⟩
    have hb := h b (by simp)
    rw [kh,kh,ih ts (by simpa using hl) fun x hx => h x (List.mem_append_left _ hx)]
    unfold fR
    rw [List.getD_eq_getElem?_getD,List.getElem?_set_ne (fun z => hb z.symm),<- List.getD_eq_getElem?_getD]
theorem xA {c : List Int} {os : List (List Int)} {ts : List Int} (hp : ts.Perm (aG os.length)) {a : Int} (a0 : 0 <= a) (a1 : a < os.length) : ∃ j,ts[j]? = some a /\ bN (bC c os ts) a = eU c (os.getD a.toNat []) (bK c os (ts.take j)) := by
  obtain ⟨j,hj,ej⟩ := List.mem_iff_getElem.mp (hp.mem_iff.mpr (fM.mpr ⟨a0,a1⟩))
  have ha : ts[j]? = some a := by rw [List.getElem?_eq_getElem hj,ej]
  refine ⟨j,ha,?_⟩
  unfold bN bC
  rw [List.getD_eq_getElem?_getD,List.getElem?_map,NB hp ha]; rfl
theorem RM {c : List Int} {os : List (List Int)} {ts : List Int} (hp : ts.Perm (aG os.length)) {a : Int} (a0 : 0 <= a) (a1 : a < os.length) (o : List Int) {k : Nat} (h : bN (bC c (os.set a.toNat o) ts) a ∈ (aJ c.length (os.getD a.toNat [])).take k) : bN (bC c os ts) a ∈ (aJ c.length (os.getD a.toNat [])).take k := by
  obtain ⟨j,hj,e⟩ := xA (c := c) hp a0 a1
  obtain ⟨j',j6,e'⟩ := xA (c := c) (os := os.set a.toNat o) (ts := ts) (by rw [List.length_set]; exact hp) a0 (by rw [List.length_set]; exact a1)
  have nd : ts.Nodup := hp.nodup_iff.mpr (oV _)
  have jj : j' = j := by
    obtain ⟨q1,q2⟩ := List.getElem?_eq_some_iff.mp hj
    obtain ⟨q3,q4⟩ := List.getElem?_eq_some_iff.mp j6
    exact (List.getElem_inj nd).mp (q4.trans q2.symm)
  subst jj
  have jl := (List.getElem?_eq_some_iff.mp hj).1
  have off : ∀ b ∈ ts.take j',b.toNat ≠ a.toNat := fun b hb z => by
    have hb0 := fM.mp (hp.mem_iff.mp (List.mem_of_mem_take hb))
    have : b = a := by omega
    subst this
    obtain ⟨i,hi,ei⟩ := List.mem_take_iff_getElem.mp hb
    obtain ⟨q1,q2⟩ := List.getElem?_eq_some_iff.mp hj
    have := (List.getElem_inj nd).mp (ei.trans q2.symm)
    omega
  rw [MB _ _ rfl off] at e'
  rw [e'] at h
  rw [e]
  unfold eU at h ⊢
  obtain ⟨y,r,hy⟩ := pM c ((os.set a.toNat o).getD a.toNat []) (bK c os (ts.take j'))
  rw [hy] at h
  exact head_take h (sv hy).2
theorem DH {α : Type} (p q : α -> Bool) (h : ∀ d,p d = true -> q d = false) : ∀ D : List α,D.countP (fun d => p d || q d) = D.countP p + D.countP q
  | [] => rfl
  | d :: D => by
    rw [List.countP_cons,List.countP_cons,List.countP_cons,DH p q h D]
    have := h d
    cases hp : p d <;> cases hq : q d <;> simp_all <;> omega
theorem Fe (D : List (List Int)) (a : Int) : ∀ P : List Int,P.Nodup -> (P.map (cI D a)).sum = ((D.countP fun d => decide (bN d a ∈ P) : Nat) : Int)
  | [],_ => by
    have : (D.countP fun d => decide (bN d a ∈ ([] : List Int))) = 0 := List.countP_eq_zero.mpr fun d _ h => by simp at h
    rw [this]; rfl
  | x :: P,nd => by
    obtain ⟨h1,h2⟩ := List.nodup_cons.mp nd
    rw [List.map_cons,List.sum_cons,Fe D a P h2]
    unfold cI
    have e : (fun d => decide (bN d a ∈ x :: P)) = fun d : List Int => decide (bN d a = x) || decide (bN d a ∈ P) := by
      funext d
      rw [Bool.eq_iff_iff,Bool.or_eq_true,decide_eq_true_iff,decide_eq_true_iff,decide_eq_true_iff,List.mem_cons]
    rw [e,DH _ _ (fun d hd => by
      have hd := of_decide_eq_true hd
      rw [hd]; exact decide_eq_false h1),Int.natCast_add]
theorem Gw {c : List Int} {os : List (List Int)} {a : Int} {full : List Int} (nd : full.Nodup) (bQ : ∀ x ∈ full,0 <= x /\ x <= c.length) (k : Nat) : bL (cb c os a) full k = (((cq c os).countP fun d => decide (bN d a ∈ full.take k) : Nat) : Int) := by
  unfold bL
  rw [<- Fe _ _ _ (nd.sublist (List.take_sublist k full))]
  congr 1
  refine List.map_congr_left fun x hx => ?_
  have := bQ x (List.mem_of_mem_take hx)
  unfold fH cb aG
  rw [List.map_map,List.getD_eq_getElem?_getD,List.getElem?_map,List.getElem?_range (by omega)]
  show cI _ _ (0 + ((x.toNat : Nat) : Int)) = _
  rw [show (0 + ((x.toNat : Nat) : Int)) = x by omega]
theorem CQ {α β : Type} (f g : α -> β) (p : β -> Bool) : ∀ {l : List α},(∀ x ∈ l,p (f x) = true -> p (g x) = true) -> (l.map f).countP p <= (l.map g).countP p
  | [],_ => Nat.le_refl _
  | x :: l,h => by
    rw [List.map_cons,List.map_cons,List.countP_cons,List.countP_cons]
    have ih := CQ f g p (l := l) fun y hy => h y (.tail _ hy)
    have hx := h x (.head _)
    cases hf : p (f x) with
    | false => rw [if_neg Bool.false_ne_true]; split <;> omega
    | true => rw [hx hf]; omega
theorem Ej {c : List Int} {os : List (List Int)} (ok : cV c os) (h5 : os.length <= 5) {a : Int} (a0 : 0 <= a) (a1 : a < os.length) (o : List Int) : iD (cb c os a) (cb c (os.set a.toNat o) a) (aJ c.length (os.getD a.toNat [])) = true := by
  have om : os.getD a.toNat [] ∈ os := by
    rw [List.getD_eq_getElem?_getD,List.getElem?_eq_getElem (show a.toNat < os.length by omega)]
    exact List.getElem_mem _
  have nd := QB (ok.nd _ om) (ok.bQ _ om)
  have bQ := kr (ok.bQ _ om)
  refine Eg.mpr fun k _ => ?_
  rw [Gw nd bQ,Gw nd bQ]
  have : ((cq c (os.set a.toNat o)).countP fun d => decide (bN d a ∈ (aJ c.length (os.getD a.toNat [])).take (k + 1))) <= (cq c os).countP fun d => decide (bN d a ∈ (aJ c.length (os.getD a.toNat [])).take (k + 1)) := by
    unfold cq
    rw [List.length_set]
    exact CQ _ _ _ fun ts j8 h => decide_eq_true (RM (vT _ h5 ts j8) a0 a1 o (of_decide_eq_true h))
  omega
end
end bw
namespace bw
open PySem L2 dI
section
variable {P : Program} {w : World} {K : PySem.W.Frag} {mg : Str -> Option Value} {base : Heap}
abbrev mq : Stmt := top 55
theorem Lb : bh ["_law_script", "_law_k"] ["_law_script", "_law_k"] (ag mq) := ⟨rfl,rfl,rfl,by decide +kernel,rfl,by decide +kernel,by decide +kernel⟩
def yo (dd : List Dv) (t : Tr) : Prop := ∃ (ns : List Int) (k : Int),0 <= k /\ dd = [dis ns,di k] /\ t = ti (bH ns k)
theorem Lc {f : Addr} {fd : FuncData} {k : Nat} (F : bu K "_law_cell_at" "_law_cell_at" mq f fd) (T : Txt mg) : aR P w K mg base aq (k + 1) f fd ["_law_script", "_law_k"] (spT K yo) := by
  refine bG F.d Lb (fun dd t h => by obtain ⟨_,_,_,rfl,_⟩ := h; rfl) fun dd t h => ?_
  obtain ⟨ns,j,hj,rfl,rfl⟩ := h
  refine ⟨_,.inl rfl,?_⟩
  by_cases hl : j < ns.length
  · refine pI (nH (Et.s (qj (ae 1 rfl) (cL T.cC (ae 0 rfl) (.inl rfl)))) ?_ (aN (cf (Ev.s (cw (ae 0 rfl) (ae 1 rfl) rfl ?_)))))
    · rw [List.length_map]; exact decide_eq_true hl
    · exact cell_in hj hl
  · refine ak (du (Et.s (qj (ae 1 rfl) (cL T.cC (ae 0 rfl) (.inl rfl)))) ?_) ?_
    · rw [List.length_map]; exact decide_eq_false hl
    · rw [cell_out hj (by omega)]
      exact aN (cf (Ev.s au))
def bP (cell : Int) (left : List Int) : Nat -> Int × List Int × List Int
  | 0 => (cell,left,[])
  | k + 1 => ((bP cell left k).1 / (bP cell left k).2.1.length,(bP cell left k).2.1.eraseIdx ((bP cell left k).1 % (bP cell left k).2.1.length).toNat,(bP cell left k).2.2 ++ [(((bP cell left k).2.1)[((bP cell left k).1 % (bP cell left k).2.1.length).toNat]?).getD 0])
theorem wq (cell : Int) (left : List Int) : ∀ k,k <= left.length -> ((bP cell left k).2.2 ++ (bP cell left k).2.1).Perm left /\ (bP cell left k).2.1.length = left.length - k /\ (bP cell left k).2.2.length = k
  | 0,_ => ⟨.refl _,by simp [bP],rfl⟩
  | k + 1,hk => by
    obtain ⟨h1,h2,h3⟩ := wq cell left k (by omega)
    generalize hs : bP cell left k = s at *
    obtain ⟨c,l,o⟩ := s
    have e : bP cell left (k + 1) = (c / l.length,l.eraseIdx (c % l.length).toNat,o ++ [(l[(c % l.length).toNat]?).getD 0]) := by
      show ((bP cell left k).1 / _,_,_) = _
      rw [hs]
    rw [e]
    have hl : 0 < l.length := by have : l.length = left.length - k := h2; omega
    have m0 := Int.emod_nonneg c (show (l.length : Int) ≠ 0 by omega)
    have m1 := Int.emod_lt_of_pos c (show 0 < (l.length : Int) by omega)
    generalize hm : (c % l.length).toNat = m at *
    have As : m < l.length := by omega
    refine ⟨?_,?_,by rw [List.length_append]; have : o.length = k := h3; simp [this]⟩
    · show (o ++ [(l[m]?).getD 0] ++ l.eraseIdx m).Perm left
      rw [List.getElem?_eq_getElem As,Option.getD_some,List.append_assoc]
      exact (List.Perm.append_left o (C8 As)).trans h1
    · show (l.eraseIdx m).length = _
      rw [List.length_eraseIdx_of_lt As]
      have : l.length = left.length - k := h2
      omega
def i3 (cell : Int) (n : Nat) : Nat := if cell % 2 = 0 then n else (cell / 2 % (n + 1)).toNat
def nO (cell : Int) (n : Nat) : List Int := (bP (cell / (2 * n + 2)) (aG n) (i3 cell n)).2.2
theorem size_le (cell : Int) (n : Nat) : i3 cell n <= n := by
  unfold i3
  split
  · exact Nat.le_refl _
  · have := Int.emod_lt_of_pos (cell / 2) (show 0 < (n : Int) + 1 by omega)
    omega
theorem nj (n : Nat) : (aG n).length = n := by unfold aG; rw [List.length_map,List.length_range]
theorem Ek (cell : Int) (n : Nat) : (nO cell n).Nodup /\ ∀ x ∈ nO cell n,0 <= x /\ x < n := by
  obtain ⟨h,_⟩ := wq (cell / (2 * n + 2)) (aG n) (i3 cell n) (by rw [nj]; exact size_le cell n)
  refine ⟨(List.nodup_append.mp (h.nodup_iff.mpr (oV n))).1,fun x hx => fM.mp (h.mem_iff.mp (List.mem_append_left _ hx))⟩
abbrev mF : Stmt := top 56
theorem jA : bh ["_law_cell", "_law_many", "_law_size", "_law_left", "_law_order_here", "_law_k", "_law_at"] ["_law_cell", "_law_many"] (ag mF) := ⟨rfl,rfl,rfl,by decide +kernel,rfl,by decide +kernel,by decide +kernel⟩
def Gx (dd : List Dv) (t : Tr) : Prop := ∃ (cell : Int) (n : Nat),n <= 6 /\ dd = [di cell,di n] /\ t = aM (nO cell n)
theorem LK {f : Addr} {fd : FuncData} {k : Nat} (F : bu K "_law_order" "_law_order" mF f fd) (T : Txt mg) : aR P w K mg base aq (k + 1) f fd ["_law_cell", "_law_many"] (spT K Gx) := by
  refine bG F.d jA (fun dd t h => by obtain ⟨_,_,_,rfl,_⟩ := h; rfl) fun dd t h => ?_
  obtain ⟨cell,n,hn,rfl,rfl⟩ := h
  refine ⟨_,.inl rfl,?_⟩
  have big : 1000 < sizeLine := by decide
  have hsz := size_le cell n
  refine ak (aH 2 (Ev.s (cw (d := di (i3 cell n)) (bX (ah (ae 1 rfl) (ah (eS (iw (ae 0 rfl) au ⟨by decide,ip (by decide) (by decide)⟩) (fc (ae 1 rfl) au) (by omega)) av)) (by show 2 <= sizeLine; decide)) (eS (ae 0 rfl) au (by decide)) rfl ?_)) (fun _ => jA.nd)) ?_
  · show aZ [di (n : Int),di (cell / 2 % ((n : Int) + 1))] (cell % 2) = _
    have h0 := Int.emod_nonneg cell (show (2 : Int) ≠ 0 by decide)
    have h2 := Int.emod_lt_of_pos cell (show (0 : Int) < 2 by decide)
    unfold i3
    have : cell % 2 = 0 \/ cell % 2 = 1 := by omega
    rcases this with h | h
    · rw [h,if_pos rfl]; rfl
    · rw [h,if_neg (by decide)]
      have m0 := Int.emod_nonneg (cell / 2) (show (n : Int) + 1 ≠ 0 by omega)
      rw [show (((cell / 2 % ((n : Int) + 1)).toNat : Nat) : Int) = cell / 2 % ((n : Int) + 1) by omega]
      rfl
  refine ak (aH 0 (Ev.s (iw (ae 0 rfl) (fc (nC au (ae 1 rfl) ⟨ip (by decide) (by decide),ip (by omega) (by omega)⟩) au) ⟨by omega,ip (by omega) (by omega)⟩)) (fun _ => jA.nd)) ?_
  refine ak (aH 3 (Ev.s (CY T.fP T.eC (ae 1 rfl) (by omega) (by omega))) (fun _ => jA.nd)) ?_
  refine ak (aH 4 (Ev.s (bX av (Nat.zero_le _))) (fun _ => jA.nd)) ?_
  refine ak (eE (bA.s (fG T.eC (ae 2 rfl) ⟨by omega,by omega⟩)) (bJ 5 (fun _ => jA.nd)) (fun k => [some (ti (bP (cell / (2 * n + 2)) (aG n) k).1),some (ti n),some (ti (i3 cell n)),some (aM (bP (cell / (2 * n + 2)) (aG n) k).2.1),some (aM (bP (cell / (2 * n + 2)) (aG n) k).2.2),none,none]) rfl (fun _ => rfl) (fun j d hd => ?_)) ?_
  · obtain ⟨hj,rfl⟩ := jG hd
    have j6 : j < i3 cell n := by omega
    obtain ⟨p1,p2,p3⟩ := wq (cell / (2 * n + 2)) (aG n) j (by rw [nj]; omega)
    rw [nj] at p2
    have e : bP (cell / (2 * n + 2)) (aG n) (j + 1) = ((bP (cell / (2 * n + 2)) (aG n) j).1 / (bP (cell / (2 * n + 2)) (aG n) j).2.1.length,(bP (cell / (2 * n + 2)) (aG n) j).2.1.eraseIdx ((bP (cell / (2 * n + 2)) (aG n) j).1 % (bP (cell / (2 * n + 2)) (aG n) j).2.1.length).toNat,(bP (cell / (2 * n + 2)) (aG n) j).2.2 ++ [(((bP (cell / (2 * n + 2)) (aG n) j).2.1)[((bP (cell / (2 * n + 2)) (aG n) j).1 % (bP (cell / (2 * n + 2)) (aG n) j).2.1.length).toNat]?).getD 0]) := rfl
    rw [e]
    generalize bP (cell / (2 * n + 2)) (aG n) j = s at p1 p2 p3
    obtain ⟨c,l,o⟩ := s
    simp only at p1 p2 p3 ⊢
    have hl : 0 < (l.length : Int) := by omega
    have hl6 : (l.length : Int) <= 6 := by omega
    have m0 := Int.emod_nonneg c (show (l.length : Int) ≠ 0 by omega)
    have m1 := Int.emod_lt_of_pos c hl
    have el : (cJ (l.map fun n => Tr.fz (di n))).length = l.length := by rw [iq,List.length_map,List.length_map]
    have hlm : (((l.map fun n => Tr.fz (di n)).length : Nat) : Int) = l.length := by rw [List.length_map]
    refine ⟨_,_,rfl,ak (aH 6 (cg.to (t' := ti (c % l.length)) (Ev.pk (eS (ae 0 rfl) (cL T.cC (ae 3 rfl) (.inl rfl)) (by rw [el]; exact hl)) True.intro) (by rw [el])) (fun _ => jA.nd))
      (ak (aH 0 (cg.to (t' := ti (c / l.length)) (Ev.pk (iw (ae 0 rfl) (cL T.cC (ae 3 rfl) (.inl rfl)) (by rw [el]; exact ⟨hl,ip (by omega) (by omega)⟩)) True.intro) (by rw [el])) (fun _ => jA.nd))
      (aN (Lx 4 3 (d := di ((l[(c % l.length).toNat]?).getD 0)) (n := c % l.length) (m := (c % l.length).toNat) (by decide) rfl rfl (Ev.s (ae 6 rfl)) ?_ ⟨by omega,by omega⟩ ?_ ?_))),[5,6],?_⟩
    · rw [List.length_map]
      unfold dR
      rw [if_pos m0,if_pos m1]
    · rw [List.getElem?_map,List.getElem?_eq_getElem (show (c % l.length).toNat < l.length by omega)]
      rfl
    · rw [List.length_map]; omega
    · show [_,_,_,some (Tr.ow (List.eraseIdx _ _)),some (Tr.ow (_ ++ [_])),_,_] = [_,_,_,some (Tr.ow _),some (Tr.ow _),_,_]
      rw [List.map_append,Du]
      rfl
  · rw [List.length_map,List.length_range]
    show bI _ _ [_,_,_,_,some (aM (bP (cell / (2 * n + 2)) (aG n) (i3 cell n)).2.2),_,_] _
    exact aN (kB 4 rfl)
def eG (ns : List Int) (st : Int) : List Int := (List.range 13).map fun k => bH ns (st + (0 + ((k : Nat) : Int)))
theorem NQ (ns : List Int) (st : Int) {k : Nat} (hk : k < 13) : (eG ns st)[k]? = some (bH ns (st + (0 + ((k : Nat) : Int)))) := by
  unfold eG
  rw [List.getElem?_map,List.getElem?_range hk]; rfl
def jT (c : Int) : Int := if c / 10 % 2 = 0 then c % 4 else c % 10
def dO (th : Nat) (ns : List Int) (st : Int) : Nat := (bH ns (st + (0 + ((0 : Nat) : Int))) % ((th : Int) + 1)).toNat
def iu (th : Nat) (ns : List Int) (st : Int) : List Int := (cutD (eG ns st) (some 1) (some (1 + (dO th ns st : Int)))).map jT
def jf (ns : List Int) (st most : Int) : Nat := (1 + bH ns (st + (0 + ((0 : Nat) : Int))) / 7 % most).toNat
def kR (ns : List Int) (st : Int) (k : Nat) : Int := if bH ns (st + (0 + ((0 : Nat) : Int))) / 42 % 3 = 0 /\ 1 < bH ns (st + (0 + ((7 + k : Nat) : Int))) % 5 then bH ns (st + (0 + ((7 : Nat) : Int))) else bH ns (st + (0 + ((7 + k : Nat) : Int)))
def dw (th : Nat) (ns : List Int) (st most : Int) : List (List Int) := (List.range (jf ns st most)).map fun k => nO (kR ns st k) (dO th ns st)
theorem Em (th : Nat) (ns : List Int) (st : Int) : dO th ns st <= th := by
  unfold dO
  have := Int.emod_lt_of_pos (bH ns (st + (0 + ((0 : Nat) : Int)))) (show (0 : Int) < (th : Int) + 1 by omega)
  omega
theorem wR {th : Nat} (h : th <= 6) (ns : List Int) (st : Int) : dO th ns st <= 6 := Nat.le_trans (Em th ns st) h
theorem NR (th : Nat) (ns : List Int) (st : Int) : bH ns (st + (0 + ((0 : Nat) : Int))) % ((th : Int) + 1) = (dO th ns st : Int) := by
  unfold dO
  have := Int.emod_nonneg (bH ns (st + (0 + ((0 : Nat) : Int)))) (show (th : Int) + 1 ≠ 0 by omega)
  omega
theorem Ff {ns : List Int} {st most : Int} (h1 : 1 <= most) (h6 : most <= 6) : 1 <= jf ns st most /\ jf ns st most <= 6 /\ (1 + bH ns (st + (0 + ((0 : Nat) : Int))) / 7 % most = (jf ns st most : Int)) := by
  unfold jf
  have a := Int.emod_nonneg (bH ns (st + (0 + ((0 : Nat) : Int))) / 7) (show most ≠ 0 by omega)
  have b := Int.emod_lt_of_pos (bH ns (st + (0 + ((0 : Nat) : Int))) / 7) (show 0 < most by omega)
  omega
theorem OQ {α : Type} (l : List α) (a b : Nat) : cutD l (some (a : Int)) (some (b : Int)) = (l.drop (min a l.length)).take (min b l.length - min a l.length) := by
  unfold cutD
  rw [HT.sC,HT.sC]
theorem vV {th : Nat} (h6 : th <= 6) (ns : List Int) (st : Int) : (iu th ns st).length = dO th ns st := by
  unfold iu
  have := wR h6 ns st
  have e : cutD (eG ns st) (some 1) (some (1 + (dO th ns st : Int))) = cutD (eG ns st) (some ((1 : Nat) : Int)) (some ((1 + dO th ns st : Nat) : Int)) := by
    congr 2
  rw [List.length_map,e,OQ,List.length_take,List.length_drop]
  have : (eG ns st).length = 13 := by unfold eG; rw [List.length_map,List.length_range]
  omega
theorem QC (c : Int) : 0 <= jT c /\ jT c <= 9 := by
  unfold jT
  have := Int.emod_nonneg c (show (4 : Int) ≠ 0 by decide)
  have := Int.emod_lt_of_pos c (show (0 : Int) < 4 by decide)
  have := Int.emod_nonneg c (show (10 : Int) ≠ 0 by decide)
  have := Int.emod_lt_of_pos c (show (0 : Int) < 10 by decide)
  split <;> omega
theorem RN {th : Nat} (t6 : th <= 6) {ns : List Int} {st most : Int} (h1 : 1 <= most) (h6 : most <= 6) : cV (iu th ns st) (dw th ns st most) := by
  obtain ⟨n1,n2,_⟩ := Ff (ns := ns) (st := st) h1 h6
  refine ⟨by rw [vV t6]; exact wR t6 ns st,fun x hx => ?_,?_,?_,fun o ho => ?_,fun o ho x hx => ?_⟩
  · obtain ⟨c,_,rfl⟩ := List.mem_map.mp hx
    exact QC c
  · unfold dw; rw [List.length_map,List.length_range]; exact n1
  · unfold dw; rw [List.length_map,List.length_range]; exact n2
  · obtain ⟨k,_,rfl⟩ := List.mem_map.mp ho
    exact (Ek _ _).1
  · obtain ⟨k,_,rfl⟩ := List.mem_map.mp ho
    rw [vV t6]
    exact (Ek _ _).2 x hx
abbrev mG : Stmt := top 57
theorem iP : bh ["_law_script", "_law_start", "_law_things", "_law_askers", "_law_cells", "_law_many", "_law_counts", "_law_orders", "_law_k", "_law_cell"] ["_law_script", "_law_start", "_law_things", "_law_askers"] (ag mG) := ⟨rfl,rfl,rfl,by decide +kernel,rfl,by decide +kernel,by decide +kernel⟩
def Gy (dd : List Dv) (t : Tr) : Prop := ∃ (th : Nat) (ns : List Int) (st most : Int),th <= 6 /\ 0 <= st /\ 1 <= most /\ most <= 6 /\ dd = [dis ns,di st,di th,di most] /\ t = .fz (aX (iu th ns st) (dw th ns st most))
theorem LL {f f1 f2 : Addr} {fd aW fd2 : FuncData} {k : Nat} (F : bu K "_law_table" "_law_table" mG f fd) (T : Txt mg) (vE : Kn P w K mg base aq (k + 1) "_law_cell_at" f1 aW ["_law_script", "_law_k"] (spT K yo)) (C1 : Kn P w K mg base aq (k + 1) "_law_order" f2 fd2 ["_law_cell", "_law_many"] (spT K Gx)) : aR P w K mg base aq (k + 2) f fd ["_law_script", "_law_start", "_law_things", "_law_askers"] (spT K Gy) := by
  refine bG F.d iP (fun dd t h => by obtain ⟨_,_,_,_,_,_,_,_,rfl,_⟩ := h; rfl) fun dd t h => ?_
  obtain ⟨th,ns,st,most,t6,Jl,h1,h6,rfl,rfl⟩ := h
  refine ⟨_,.inl rfl,?_⟩
  have big : 1000 < sizeLine := by decide
  have hM := wR t6 ns st
  obtain ⟨n1,n2,n3⟩ := Ff (ns := ns) (st := st) h1 h6
  have oj : ∀ k : Nat,k < 13 -> aZ ((eG ns st).map di) ((k : Nat) : Int) = some (di (bH ns (st + (0 + ((k : Nat) : Int))))) := fun k hk => e9 (by rw [List.getElem?_map,NQ ns st hk]; rfl)
  have Tg : (eG ns st).length = 13 := by unfold eG; rw [List.length_map,List.length_range]
  refine ak (ρ1 := [some (.fz (dis ns)),some (ti st),some (ti th),some (ti most),some (.fz (dis (eG ns st))),none,none,none,none,none]) (nG 4 (y3 (eY.as (d := dis (eG ns st)) (rp (own := ["_law_k"]) (fr := [0,1]) (fG T.eC au ⟨by decide,by decide⟩) (bJ 0 (fun _ => by show List.Nodup (["_law_k", "_law_script", "_law_start"] : List Str); decide)) (by decide) (fun k => true) (fun k => ti (bH ns (st + (0 + ((k : Nat) : Int))))) (by rw [List.length_map,List.length_range]; show 13 < sizeLine; decide) (fun k d hd => by
      obtain ⟨hk,rfl⟩ := jG hd
      exact ⟨_,rfl,nF,fun _ => aY vE (Nat.le_refl _) (ah (ae 1 rfl) (ah (fc (ae 2 rfl) (ae 0 rfl)) av)) ⟨ns,_,by omega,rfl,rfl⟩⟩) (fun dd => by cases dd <;> rfl)) (by rw [List.filter_eq_self.mpr (fun _ _ => rfl),kE]; rfl))) (fun i => lcs ⟨rfl,rfl,by decide +kernel,by decide +kernel,by decide +kernel,by decide +kernel⟩) (fun _ => iP.nd)) ?_
  refine ak (aH 5 (cg.to (t' := ti (dO th ns st)) (Ev.s (eS (cw (d := di (bH ns (st + (0 + ((0 : Nat) : Int))))) (ae 4 rfl) au rfl (oj 0 (by decide))) (fc (ae 2 rfl) au) (by omega))) (by rw [NR])) (fun _ => iP.nd)) ?_
  refine ak (nG 6 (y3 (eY.as (d := dis (iu th ns st)) (rp (own := ["_law_cell"]) (fr := []) (cT (wA (ae 4 rfl) rfl (sH au) (sH (fc au (ae 5 rfl)))) (iA _)) (bJ 0 (fun _ => by show List.Nodup (["_law_cell"] : List Str); decide)) (by decide) (fun k => true) (fun k => ti ((((cutD (eG ns st) (some 1) (some (1 + (dO th ns st : Int)))).map jT)[k]?).getD 0)) ?_ (fun k d hd => ?_) (fun dd => ?_)) ?_)) (fun i => lcs ⟨rfl,rfl,by decide +kernel,by decide +kernel,by decide +kernel,by decide +kernel⟩) (fun _ => iP.nd)) ?_
  · have := Oj ((eG ns st).map di) (some 1) (some (1 + (dO th ns st : Int)))
    rw [List.length_map,Tg] at this
    omega
  · rw [DX] at hd
    obtain ⟨c,hc,rfl⟩ := eA hd
    refine ⟨_,rfl,nF,fun _ => ?_⟩
    rw [List.getElem?_map,hc]
    refine cw (d := di (jT c)) (bX (ah (eS (ae 0 rfl) au (by decide)) (ah (eS (ae 0 rfl) au (by decide)) av)) (by show 2 <= sizeLine; decide)) (eS (iw (ae 0 rfl) au ⟨by decide,ip (by decide) (by decide)⟩) au (by decide)) rfl ?_
    show aZ [di (c % 4),di (c % 10)] (c / 10 % 2) = _
    have a := Int.emod_nonneg (c / 10) (show (2 : Int) ≠ 0 by decide)
    have b := Int.emod_lt_of_pos (c / 10) (show (0 : Int) < 2 by decide)
    unfold jT
    have : c / 10 % 2 = 0 \/ c / 10 % 2 = 1 := by omega
    rcases this with h | h <;> rw [h] <;> rfl
  · cases dd <;> rfl
  · rw [List.filter_eq_self.mpr (fun _ _ => rfl),kE,DX,List.length_map]
    unfold iu
    have := vF ((cutD (eG ns st) (some 1) (some (1 + (dO th ns st : Int)))).map jT) 0 id
    rw [List.length_map] at this
    simp only [List.map_id,id] at this
    rw [this]
  refine ak (aH 7 (Ev.s (bX av (Nat.zero_le _))) (fun _ => iP.nd)) ?_
  have uJ : qh (bH ns (st + (0 + ((0 : Nat) : Int)))) 7 := ⟨by decide,ip (by decide) (by decide)⟩
  have Ir : qh (bH ns (st + (0 + ((0 : Nat) : Int)))) 42 := ⟨by decide,ip (by decide) (by decide)⟩
  refine ak (eE (its := fi 0 (jf ns st most)) (bA.s (bA.to (fG T.eC (fc au (eS (iw (cw (d := di (bH ns (st + (0 + ((0 : Nat) : Int))))) (ae 4 rfl) au rfl (oj 0 (by decide))) au uJ) (ae 3 rfl) (by omega))) ?_) ?_)) (bJ 8 (fun _ => iP.nd)) (fun k => [some (.fz (dis ns)),some (ti st),some (ti th),some (ti most),some (.fz (dis (eG ns st))),some (ti (dO th ns st)),some (.fz (dis (iu th ns st))),some (kN ((dw th ns st most).take k)),none,none]) rfl (fun _ => rfl) (fun j d hd => ?_)) ?_
  · rw [n3]; omega
  · rw [n3,Int.toNat_natCast]
  · obtain ⟨hj,rfl⟩ := jG hd
    have c7 : aZ ((eG ns st).map di) (7 + (0 + (j : Int))) = some (di (bH ns (st + (0 + ((7 + j : Nat) : Int))))) := by
      have := oj (7 + j) (by omega)
      rwa [show ((7 + j : Nat) : Int) = 7 + (0 + (j : Int)) by omega] at this ⊢
    have Th : (dw th ns st most)[j]? = some (nO (kR ns st j) (dO th ns st)) := by
      unfold dw
      rw [List.getElem?_map,List.getElem?_range hj]; rfl
    have hlen : ((dw th ns st most).take j).length < sizeLine := by
      rw [List.length_take]
      have : (dw th ns st most).length = jf ns st most := by unfold dw; rw [List.length_map,List.length_range]
      omega
    have fin : kN ((dw th ns st most).take (j + 1)) = .ow (((dw th ns st most).take j).map aM ++ [aM (nO (kR ns st j) (dO th ns st))]) := by
      rw [dJ Th]
      show Tr.ow _ = _
      rw [List.map_append]; rfl
    rw [fin]
    cases hf : decide (bH ns (st + (0 + ((0 : Nat) : Int))) / 42 % 3 = 0) && decide (1 < bH ns (st + (0 + ((7 + j : Nat) : Int))) % 5) with
    | true =>
      have ec : kR ns st j = bH ns (st + (0 + ((7 : Nat) : Int))) := by
        unfold kR
        rw [Bool.and_eq_true,decide_eq_true_eq,decide_eq_true_eq] at hf
        rw [if_pos hf]
      refine ⟨_,_,rfl,ak (aH 9 (Ev.s (cw (ae 4 rfl) (fc au (ae 8 rfl)) rfl c7)) (fun _ => iP.nd)) (ak (nH (Et.s (Ew.et (FE (nR (eS (iw (cw (d := di (bH ns (st + (0 + ((0 : Nat) : Int))))) (ae 4 rfl) au rfl (oj 0 (by decide))) au Ir) au (by decide)) au) fun _ => (EI (jN (eS (ae 9 rfl) au (by decide)) au))))) hf (aN (aH 9 (Ev.s (cw (d := di (bH ns (st + (0 + ((7 : Nat) : Int))))) (ae 4 rfl) au rfl (oj 7 (by decide)))) (fun _ => iP.nd))))
        (aN (rZ 7 rfl (Ev.s (aY C1 (Nat.le_refl _) (ah (ae 9 rfl) (ah (ae 5 rfl) av)) ⟨_,dO th ns st,hM,rfl,rfl⟩)) (by rw [List.length_map]; exact hlen)))),[8,9],?_⟩
      rw [ec]; rfl
    | false =>
      have ec : kR ns st j = bH ns (st + (0 + ((7 + j : Nat) : Int))) := by
        unfold kR
        rw [if_neg]
        intro z
        rw [decide_eq_true z.1,decide_eq_true z.2] at hf
        cases hf
      refine ⟨_,_,rfl,ak (aH 9 (Ev.s (cw (ae 4 rfl) (fc au (ae 8 rfl)) rfl c7)) (fun _ => iP.nd)) (ak (du (Et.s (Ew.et (FE (nR (eS (iw (cw (d := di (bH ns (st + (0 + ((0 : Nat) : Int))))) (ae 4 rfl) au rfl (oj 0 (by decide))) au Ir) au (by decide)) au) fun _ => (EI (jN (eS (ae 9 rfl) au (by decide)) au))))) hf)
        (aN (rZ 7 rfl (Ev.s (aY C1 (Nat.le_refl _) (ah (ae 9 rfl) (ah (ae 5 rfl) av)) ⟨_,dO th ns st,hM,rfl,rfl⟩)) (by rw [List.length_map]; exact hlen)))),[8,9],?_⟩
      rw [ec]; rfl
  · have el : (fi 0 (jf ns st most)).length = (dw th ns st most).length := by unfold dw; simp
    rw [el,List.take_length]
    refine oO (d := .lst ((dw th ns st most).map dis)) 7 rfl (D1 _) ?_
    exact aN (cf (Ev.s (wZ (ah (ae 6 rfl) (ah (ae 7 rfl) av)) rfl (by show 2 <= sizeLine; decide))))
end
end bw
namespace bw
open PySem L2 dI
section
variable {P : Program} {w : World} {K : PySem.W.Frag} {mg : Str -> Option Value} {base : Heap}
abbrev mM : Stmt := top 58
theorem vJ : bh ["_law_table_here", "_law_asker", "_law_order_here", "_law_many"] ["_law_table_here", "_law_asker"] (ag mM) := ⟨rfl,rfl,rfl,by decide +kernel,rfl,by decide +kernel,by decide +kernel⟩
theorem L8 {f : Addr} {fd : FuncData} {k : Nat} (F : bu K "_law_full" "_law_full" mM f fd) (T : Txt mg) : aR P w K mg base aq (k + 1) f fd ["_law_table_here", "_law_asker"] (spT K nU) := by
  refine bG F.d vJ (fun dd t h => by obtain ⟨_,_,_,_,_,_,_,rfl,_⟩ := h; rfl) fun dd t h => ?_
  obtain ⟨c,os,a,o,h1,h2,h3,rfl,rfl⟩ := h
  refine ⟨_,.inl rfl,?_⟩
  have big : 1000 < sizeLine := by decide
  refine ak (aH 2 (Ev.s (cw (d := dis o) (bO (d := .lst (os.map dis)) (ae 0 rfl) au rfl rfl) (ae 1 rfl) rfl (E8 dis h3))) (fun _ => vJ.nd)) ?_
  refine ak (aH 3 (Ev.s (cL T.cC (bO (d := dis c) (ae 0 rfl) au rfl rfl) (.inl rfl))) (fun _ => vJ.nd)) ?_
  rw [List.length_map]
  refine aN (cf (Ev.s (Ev.to (iz (iz (ae 2 rfl) (bX (ah (ae 3 rfl) av) (by show 1 <= sizeLine; decide)) rfl rfl ?_) (kM (own := ["_law_k"]) (fr := [2]) (fun i => lcs ⟨rfl,rfl,by decide +kernel,by decide +kernel,by decide +kernel,by decide +kernel⟩) (fG T.eC (ae 3 rfl) ⟨by omega,by omega⟩) (bJ 0 (fun _ => by show List.Nodup (["_law_k", "_law_order_here"] : List Str); decide)) (by decide) (fun k => !o.contains (0 + ((k : Nat) : Int))) (fun k => ti (0 + ((k : Nat) : Int))) ?_ (fun k d hd => ?_) (fun dd => ?_)) (iA _) (kE _ _) ?_) ?_)))
  · show (o.map di).length + 1 <= sizeLine
    rw [List.length_map]; omega
  · rw [List.length_map,List.length_range]; omega
  · obtain ⟨hi,rfl⟩ := jG hd
    exact ⟨_,rfl,iX (pj (ae 0 rfl) (ae 1 rfl) rfl (by with_unfolding_all rfl)),fun _ => ae 0 rfl⟩
  · cases dd <;> rfl
  · have e : (fi 0 ((c.length : Nat) : Int).toNat).length = c.length := by simp
    rw [e]
    show ((o.map di) ++ [di _]).length + ((gu c.length o).map di).length <= sizeLine
    have := o8 c.length o
    simp only [List.length_append,List.length_map,List.length_singleton]
    omega
  · have e : (fi 0 ((c.length : Nat) : Int).toNat).length = c.length := by simp
    rw [e]
    show Tr.ow ((((o.map di) ++ [di _]) ++ ((gu c.length o).map di)).map .fz) = Tr.ow ((o ++ [(c.length : Int)] ++ gu c.length o).map _)
    simp only [List.map_append,List.map_map]
    rfl
end
end bw
namespace bw
open PySem L2 dI
section
variable {P : Program} {w : World} {K : PySem.W.Frag} {mg : Str -> Option Value} {base : Heap}
abbrev mN : Stmt := top 59
theorem oS : bh ["_law_table_here", "_law_turns", "_law_left", "_law_deal_here", "_law_asker", "_law_number"] ["_law_table_here", "_law_turns"] (ag mN) := ⟨rfl,rfl,rfl,by decide +kernel,rfl,by decide +kernel,by decide +kernel⟩
theorem MV (c : List Int) (os : List (List Int)) (ts : List Int) : (eV c os ts).2.length = os.length := by
  have gen : ∀ (ts : List Int) (s : List Int × List Int),(ts.foldl (kP c os) s).2.length = s.2.length := by
    intro ts
    induction ts with
    | nil => intro s; rfl
    | cons a ts ih => intro s; rw [List.foldl_cons,ih]; unfold kP; rw [List.length_set]
  unfold eV
  rw [gen,List.length_replicate]
theorem L9 {f f1 : Addr} {fd aW : FuncData} {k : Nat} (F : bu K "_law_deal" "_law_deal" mN f fd) (T : Txt mg) (vO : Kn P w K mg base aq (k + 1) "_law_full" f1 aW ["_law_table_here", "_law_asker"] (spT K nU)) : aR P w K mg base aq (k + 2) f fd ["_law_table_here", "_law_turns"] (spT K pN) := by
  refine bG F.d oS (fun dd t h => by obtain ⟨_,_,_,_,_,rfl,_⟩ := h; rfl) fun dd t h => ?_
  obtain ⟨c,os,ts,ok,hp,rfl,rfl⟩ := h
  refine ⟨_,.inl rfl,?_⟩
  have big : 1000 < sizeLine := by decide
  have hlen : ts.length = os.length := by rw [hp.length_eq]; unfold aG; rw [List.length_map,List.length_range]
  have o6 := ok.o6
  have c6 := ok.c6
  refine ak (aH 2 (cg.to (t' := aM (eV c os (ts.take 0)).1) (Ev.s (iz (jF T.fP (bO (d := dis c) (ae 0 rfl) au rfl rfl) (.inl rfl)) (bX (ah (cL T.cC (ae 1 rfl) (.inl rfl)) av) (by show 1 <= sizeLine; decide)) (iA _) rfl ?_)) ?_) (fun _ => oS.nd)) ?_
  · show (c.map di).length + 1 <= sizeLine
    rw [List.length_map]; omega
  · show Tr.ow _ = Tr.ow (List.map _ (c ++ [(os.length : Int)]))
    rw [List.length_map,hlen,List.map_append,List.map_append,List.map_map]; rfl
  refine ak (nG 3 (y4 (eY.to (t' := aM (eV c os (ts.take 0)).2) (y6 (own := ["_law_asker"]) (fr := []) ts di (fun _ => ti 0) (cT (ae 1 rfl) rfl) (bJ 0 (fun _ => by show List.Nodup (["_law_asker"] : List Str); decide)) (by decide) (by omega) (fun x hx => ⟨_,rfl,by exact au⟩) (fun dd => by cases dd <;> rfl)) ?_) ?_) (fun i => lcs ⟨rfl,rfl,by decide +kernel,by decide +kernel,by decide +kernel,by decide +kernel⟩) (fun _ => oS.nd)) ?_
  · show Tr.ow _ = Tr.ow (List.map _ (List.replicate os.length (0 : Int)))
    rw [List.map_replicate,<- hlen,List.map_const']
  · exact pH _
  refine ak (eE (bA.s (cT (ae 1 rfl) rfl)) (bJ 4 (fun _ => oS.nd)) (fun k => [some (.fz (aX c os)),some (.fz (dis ts)),some (aM (eV c os (ts.take k)).1),some (aM (eV c os (ts.take k)).2),none,none]) rfl (fun _ => rfl) (fun j d hd => ?_)) ?_
  · obtain ⟨a,ha,rfl⟩ := eA hd
    obtain ⟨a0,a1⟩ := fM.mp (hp.mem_iff.mp (List.mem_of_getElem? ha))
    have hj : j < ts.length := (List.getElem?_eq_some_iff.mp ha).1
    obtain ⟨o,jw⟩ : ∃ o,os[a.toNat]? = some o := ⟨_,List.getElem?_eq_getElem (by omega)⟩
    have lZ : aZ os a = some o := by
      have := e9 jw
      rwa [show ((a.toNat : Nat) : Int) = a by omega] at this
    have Yj := ok.jS (List.mem_of_getElem? jw)
    have iv := zf ok hp j (by omega)
    have l1 := iv.l1
    have lc : 0 < (eV c os (ts.take j)).1.getD c.length 0 := by have := iv.l3; have := iv.l5; omega
    have l2 := MV c os (ts.take j)
    have JU : (aJ c.length o).length <= 100 := by
      unfold aJ
      have := o8 c.length o
      simp only [List.length_append,List.length_singleton]
      omega
    have Yy : os.getD a.toNat [] = o := by rw [List.getD_eq_getElem?_getD,jw]; rfl
    have Yz : eV c os (ts.take (j + 1)) = kP c os (eV c os (ts.take j)) a := by rw [dJ ha,Dc]
    rw [Yz]
    unfold kP
    rw [Yy]
    generalize eV c os (ts.take j) = s at l1 l2 lc
    obtain ⟨left,Ti⟩ := s
    obtain ⟨x,r,hx⟩ : ∃ x r,(aJ c.length o).filter (fun p => decide (0 < left.getD p.toNat 0)) = x :: r := by
      have : ((c.length : Nat) : Int) ∈ (aJ c.length o).filter (fun p => decide (0 < left.getD p.toNat 0)) := by
        refine List.mem_filter.mpr ⟨?_,?_⟩
        · unfold aJ; simp
        · rw [Int.toNat_natCast]; exact decide_eq_true lc
      cases q : (aJ c.length o).filter (fun p => decide (0 < left.getD p.toNat 0)) with
      | nil => rw [q] at this; cases this
      | cons x r => exact ⟨x,r,rfl⟩
    have enum : lg c o left = x := by unfold lg; rw [hx]; rfl
    have xm : x ∈ aJ c.length o := (List.mem_filter.mp (hx ▸ List.mem_cons_self : x ∈ (aJ c.length o).filter (fun p => decide (0 < left.getD p.toNat 0)))).1
    obtain ⟨x0,x1⟩ := kr (ok.bQ o (List.mem_of_getElem? jw)) x xm
    have YB : left.length = c.length + 1 := l1
    have YC : Ti.length = os.length := l2
    have JZ : ∀ y : Int,0 <= y -> y <= c.length -> aZ (left.map di) y = some (di (left.getD y.toNat 0)) := fun y y0 y1 => by
      obtain ⟨m,rfl⟩ : ∃ m : Nat,y = (m : Int) := ⟨y.toNat,by omega⟩
      refine e9 ?_
      rw [List.getElem?_map,List.getD_eq_getElem?_getD,Int.toNat_natCast,List.getElem?_eq_getElem (by omega)]; rfl
    rw [enum]
    refine ⟨_,_,rfl,ak (aH 5 (Ev.pk (t := ti x) (cw (xs := ((aJ c.length o).filter (fun p => decide (0 < left.getD p.toNat 0))).map di) (d := di x) (p9 (own := ["_law_place"]) (fr := [2]) (aJ c.length o) di (fun p => decide (0 < left.getD p.toNat 0)) ti (fun i => lcs ⟨rfl,rfl,by decide +kernel,by decide +kernel,by decide +kernel,by decide +kernel⟩) (cT (aY vO (Nat.le_refl _) (ah (ae 0 rfl) (ah (ae 4 rfl) av)) ⟨c,os,a,o,by omega,by omega,lZ,rfl,rfl⟩) (dN _)) (bJ 0 (fun _ => by show List.Nodup (["_law_place", "_law_left"] : List Str); decide)) (by decide) (by omega) (fun p qX => ⟨_,rfl,by
        obtain ⟨p0,p1⟩ := kr (ok.bQ o (List.mem_of_getElem? jw)) p qX
        exact iX (jN (cw (ae 1 rfl) (ae 0 rfl) (dN left) (JZ p p0 p1)) au),fun _ => by exact ae 0 rfl⟩) (fun dd => by cases dd <;> rfl)) au ?_ ?_) True.intro) (fun _ => oS.nd))
      (ak (m8 3 (n := a) (m := a.toNat) rfl (Ev.s (ae 4 rfl)) ?_ (Ev.s (ae 5 rfl)) (hps := fun i => nz (pv 3) (jO i) set_list))
      (aN (m8 2 (n := x) (m := x.toNat) rfl (Ev.s (ae 5 rfl)) ?_ (Ev.pk (Q8 (cw (ae 2 rfl) (ae 5 rfl) (dN left) (JZ x x0 x1)) au) True.intro) (hps := fun i => nz (pv 2) (jO i) set_list)))),[4,5],?_⟩
    · rw [kE,List.map_id']
    · rw [hx]; exact e9 (j := 0) rfl
    · rw [List.length_map,YC]
      unfold dR
      rw [if_pos a0,if_pos a1]
    · rw [List.length_map,YB]
      unfold dR
      rw [if_pos x0,if_pos (by omega)]
    · show [_,_,some (Tr.ow (List.set _ _ _)),some (Tr.ow (List.set _ _ _)),_,_] = [_,_,some (Tr.ow _),some (Tr.ow _),_,_]
      rw [List.map_set,List.map_set]
  · rw [List.length_map,List.take_length]
    rw [MR ok hp]
    exact aN (kB 3 rfl)
abbrev mW : Stmt := top 60
theorem mO : bh ["_law_many", "_law_rows", "_law_k", "_law_longer", "_law_row"] ["_law_many"] (ag mW) := ⟨rfl,rfl,rfl,by decide +kernel,rfl,by decide +kernel,by decide +kernel⟩
def Iu (dd : List Dv) (t : Tr) : Prop := ∃ n : Nat,n <= 5 /\ dd = [di n] /\ t = .fz (.lst ((d8 n).map dis))
theorem Dd : ∀ n,n <= 5 -> (d8 n).length <= 120 /\ ∀ l ∈ d8 n,l.length <= 5 := by
  have : ∀ n : Fin 6,(decide ((d8 n.val).length <= 120) && (d8 n.val).all fun l => decide (l.length <= 5)) = true := by decide +kernel
  intro n hn
  have := this ⟨n,by omega⟩
  rw [Bool.and_eq_true] at this
  exact ⟨of_decide_eq_true this.1,fun l hl => of_decide_eq_true (List.all_eq_true.mp this.2 l hl)⟩
theorem OS (L : List (List Int)) (k : Int) : ∀ j,((L.take j).flatMap fun row => fV row k).length <= (L.flatMap fun row => fV row k).length := fun j => by
  conv => rhs; rw [<- List.take_append_drop j L,List.flatMap_append,List.length_append]
  omega
theorem xW {row : List Int} {i : Nat} (h : i <= row.length) : cutD (row.map di) none (some (0 + ((i : Nat) : Int))) = (row.take i).map di := by
  rw [Int.zero_add]
  unfold cutD
  rw [HT.sC,List.length_map,Nat.min_eq_left h,List.map_take]
  rfl
theorem Ep {row : List Int} {i : Nat} (h : i <= row.length) : cutD (row.map di) (some (0 + ((i : Nat) : Int))) none = (row.drop i).map di := by
  rw [Int.zero_add]
  unfold cutD
  rw [HT.sC,List.length_map,Nat.min_eq_left h,List.map_drop]
  rw [HT.N1,List.take_of_length_le (by rw [List.length_drop,List.length_map]; exact Nat.le_refl _)]
theorem MC {f : Addr} {fd : FuncData} {k : Nat} (F : bu K "_law_all" "_law_all" mW f fd) (T : Txt mg) : aR P w K mg base aq (k + 1) f fd ["_law_many"] (spT K Iu) := by
  refine bG F.d mO (fun dd t h => by obtain ⟨_,_,rfl,_⟩ := h; rfl) fun dd t h => ?_
  obtain ⟨n,n5,rfl,rfl⟩ := h
  refine ⟨_,.inl rfl,?_⟩
  have big : 1000 < sizeLine := by decide
  refine ak (aH 1 (Ev.s (Ev.as (d := .lst [.lst []]) (bX (ah (bX av (Nat.zero_le _)) av) (by show 1 <= sizeLine; decide)) rfl)) (fun _ => mO.nd)) ?_
  refine ak (eE (bA.s (fG T.eC (ae 0 rfl) ⟨by omega,by omega⟩)) (bJ 2 (fun _ => mO.nd)) (fun k => [some (ti n),some (.fz (.lst ((d8 k).map dis))),none,none,none]) rfl (fun _ => rfl) (fun j d hd => ?_)) ?_
  · obtain ⟨hj,rfl⟩ := jG hd
    have j6 : j < n := by omega
    have sm := Dd j (by omega)
    have uC := (Dd (j + 1) (by omega)).1
    have eN : d8 (j + 1) = (d8 j).flatMap fun row => fV row (0 + ((j : Nat) : Int)) := rfl
    rw [eN] at uC ⊢
    generalize d8 j = L at sm uC
    refine ⟨_,[some (ti n),some (.fz (.lst ((L.flatMap fun row => fV row (0 + ((j : Nat) : Int))).map dis))),some (ti (0 + (j : Int))),some (.fz (.lst ((L.flatMap fun row => fV row (0 + ((j : Nat) : Int))).map dis))),none],rfl,?_,[2,3,4],rfl⟩
    refine ak (aH 3 (Ev.s (bX av (Nat.zero_le _))) (fun _ => mO.nd)) ?_
    refine ak (eE (bA.s (cT (ae 1 rfl) rfl)) (bJ 4 (fun _ => mO.nd)) (fun i => [some (ti n),some (.fz (.lst (L.map dis))),some (ti (0 + (j : Int))),some (eu ((L.take i).flatMap fun row => fV row (0 + ((j : Nat) : Int)))),none]) rfl (fun _ => rfl) (fun i d hd => ?_)) ?_
    · obtain ⟨row,hr,rfl⟩ := eA hd
      have rl := sm.2 row (List.mem_of_getElem? hr)
      have e : ((L.take (i + 1)).flatMap fun row => fV row (0 + ((j : Nat) : Int))) = ((L.take i).flatMap fun row => fV row (0 + ((j : Nat) : Int))) ++ fV row (0 + ((j : Nat) : Int)) := by
        rw [dJ hr,List.flatMap_append]; simp
      have me := OS L (0 + ((j : Nat) : Int)) (i + 1)
      rw [e] at me ⊢
      have eR : (List.filter (fun _ => true) (List.range (fi 0 (((List.map di row).length : Nat) + 1 : Int).toNat).length)).map (fun m => tL (row.take m ++ [0 + (j : Int)] ++ row.drop m)) = (fV row (0 + ((j : Nat) : Int))).map tL := by
        have q : (fi 0 (((List.map di row).length : Nat) + 1 : Int).toNat).length = row.length + 1 := by rw [List.length_map,List.length_map,List.length_range]; omega
        rw [q,List.filter_eq_self.mpr fun _ _ => rfl]
        unfold fV
        rw [List.map_map]
        rfl
      refine ⟨_,_,rfl,aN (vZ 3 rfl (Ev.s (kM (own := ["_law_at"]) (fr := [4,2]) (fun i => lcs ⟨rfl,rfl,by decide +kernel,by decide +kernel,by decide +kernel,by decide +kernel⟩) (fG T.eC (fc (cL T.cC (ae 4 rfl) (.inl rfl)) au) ⟨by omega,by rw [List.length_map]; omega⟩)
        (bJ 0 (fun _ => by show List.Nodup (["_law_at", "_law_row", "_law_k"] : List Str); decide)) (by decide) (fun _ => true) (fun m => tL (row.take m ++ [0 + (j : Int)] ++ row.drop m)) ?_ (fun m d hd => ?_) (fun dd => ?_))) ?_),[4],?_⟩
      · rw [List.length_map,List.length_range,List.length_map]; omega
      · obtain ⟨hm,rfl⟩ := jG hd
        have lW : m <= row.length := by rw [List.length_map] at hm; omega
        refine ⟨_,rfl,nF,fun _ => Ev.to (iz (iz (wA (ae 1 rfl) rfl EJ (sH (ae 0 rfl))) (bX (ah (ae 2 rfl) av) (by show 1 <= sizeLine; decide)) (iA _) rfl ?_) (wA (ae 1 rfl) rfl (sH (ae 0 rfl)) EJ) (iA _) (iA _) ?_) ?_⟩
        · show _ + 1 <= sizeLine
          rw [xW lW,List.length_map,List.length_take]; omega
        · rw [xW lW,Ep lW]
          show (List.map di (List.take m row) ++ [di (0 + (j : Int))]).length + _ <= sizeLine
          rw [List.length_append,List.length_map,List.length_map,List.length_take,List.length_drop]
          show _ + 1 + _ <= _
          omega
        · rw [xW lW,Ep lW]
          show Tr.ow _ = Tr.ow _
          congr 1
          show List.map Tr.fz (List.map di (List.take m row) ++ [di (0 + (j : Int))] ++ List.map di (List.drop m row)) = _
          rw [List.map_append,List.map_append,List.map_append,List.map_append,List.map_map,List.map_map]
          rfl
      · cases dd <;> rfl
      · rw [eR,<- List.length_append,<- List.map_append,List.length_map]; omega
      · show [_,_,_,some (Tr.ow _),none] = [_,_,_,some (Tr.ow _),none]
        rw [eR,<- List.map_append]
    · rw [List.length_map,List.take_length]
      refine oO (d := .lst ((L.flatMap fun row => fV row (0 + ((j : Nat) : Int))).map dis)) 3 rfl (sV _) ?_
      exact aN (aH 1 (Ev.s (ae 3 rfl)) (fun _ => mO.nd))
  · have el : (fi 0 ((n : Nat) : Int).toNat).length = n := by simp
    rw [el]
    exact aN (cf (Ev.s (ae 1 rfl)))
end
end bw
namespace bw
open PySem L2 dI
section
variable {P : Program} {w : World} {K : PySem.W.Frag} {mg : Str -> Option Value} {base : Heap}
abbrev YD : List Str := ["_law_many", "_law_rows", "_law_found", "_law_k", "_law_longer", "_law_row"]
abbrev mH : Stmt := top 61
theorem jB : bh YD ["_law_many"] (ag mH) := ⟨rfl,rfl,rfl,by decide +kernel,rfl,by decide +kernel,by decide +kernel⟩
def Gz (dd : List Dv) (t : Tr) : Prop := ∃ n : Nat,n <= 4 /\ dd = [di n] /\ t = .fz (.lst ((b0 n n).map dis))
theorem LN {f : Addr} {fd : FuncData} {k : Nat} (F : bu K "_law_lists" "_law_lists" mH f fd) (T : Txt mg) : aR P w K mg base aq (k + 1) f fd ["_law_many"] (spT K Gz) := by
  refine bG F.d jB (fun dd t h => by obtain ⟨_,_,rfl,_⟩ := h; rfl) fun dd t h => ?_
  obtain ⟨n,n4,rfl,rfl⟩ := h
  refine ⟨_,.inl rfl,?_⟩
  have big : 1000 < sizeLine := by decide
  refine ak (aH 1 (Ev.s (Ev.as (d := .lst ((bj n 0).map dis)) (bX (ah (bX av (Nat.zero_le _)) av) (by show 1 <= sizeLine; decide)) rfl)) (fun _ => jB.nd)) ?_
  refine ak (aH 2 (Ev.s (Ev.as (d := .lst ((b0 n 0).map dis)) (bX (ah (bX av (Nat.zero_le _)) av) (by show 1 <= sizeLine; decide)) rfl)) (fun _ => jB.nd)) ?_
  have rl : (fi 0 ((n : Int)).toNat).length = n := by rw [List.length_map,List.length_range]; omega
  refine ak (eE (bA.s (fG T.eC (ae 0 rfl) ⟨by omega,by omega⟩)) (bJ 3 (fun _ => jB.nd)) (fun i => [some (ti n),some (.fz (.lst ((bj n i).map dis))),some (.fz (.lst ((b0 n i).map dis))),none,none,none]) rfl (fun _ => rfl) (fun i d hd => ?_)) ?_
  · obtain ⟨hi,rfl⟩ := jG hd
    have uq : i < n := by omega
    obtain ⟨b1,b2⟩ := vN n (by omega) i (by omega)
    have YF := ku n n4 i (by omega)
    have Au := ku n n4 (i + 1) (by omega)
    have J0 := xx n i
    have tk : bj n (i + 1) = cv (bj n i) n := rfl
    rw [J0,tk]
    rw [J0,tk,List.length_append] at Au
    generalize bj n i = L at b1 b2 Au
    generalize b0 n i = V at YF Au
    refine ⟨_,[some (ti n),some (.fz (.lst ((cv L n).map dis))),some (.fz (.lst ((V ++ cv L n).map dis))),some (ti (0 + (i : Int))),some (.fz (.lst ((cv L n).map dis))),none],rfl,?_,[3,4],rfl⟩
    refine ak (aH 4 (Ev.s (bX av (Nat.zero_le _))) (fun _ => jB.nd)) ?_
    refine ak (eE (bA.s (cT (ae 1 rfl) rfl)) (bJ 5 (fun _ => jB.nd)) (fun j => [some (ti n),some (.fz (.lst (L.map dis))),some (.fz (.lst (V.map dis))),some (ti (0 + (i : Int))),some (eu (cv (L.take j) n)),none]) rfl (fun _ => rfl) (fun j d hd => ?_)) ?_
    · obtain ⟨l,hl,rfl⟩ := eA hd
      have e : (cv (L.take (j + 1)) n) = cv (L.take j) n ++ ((List.range n).filter fun k => !l.contains (0 + ((k : Nat) : Int))).map fun k => l ++ [0 + ((k : Nat) : Int)] := by
        rw [dJ hl]
        unfold cv
        rw [List.flatMap_append]
        simp
      have hlen : (cv (L.take (j + 1)) n).length <= 1000 := by
        refine Nat.le_trans (vM _ _) (Nat.le_trans (Nat.mul_le_mul_right n ?_) b1)
        rw [List.length_take]; exact Nat.min_le_right ..
      have ll := b2 l (List.mem_of_getElem? hl)
      refine ⟨_,_,rfl,aN (vZ 4 rfl (Ev.s (p9 (own := ["_law_number"]) (fr := [5]) (List.range n) (fun k => di (0 + ((k : Nat) : Int))) (fun k => !l.contains (0 + ((k : Nat) : Int))) (fun k => .ow ((l.map di ++ [di (0 + ((k : Nat) : Int))]).map .fz)) (fun i => lcs ⟨rfl,rfl,by decide +kernel,by decide +kernel,by decide +kernel,by decide +kernel⟩) (bA.to (fG T.eC (ae 0 rfl) ⟨by omega,by omega⟩) (by rw [Int.toNat_natCast])) (bJ 0 (fun _ => by show List.Nodup (["_law_number", "_law_row"] : List Str); decide)) (by decide) (by rw [List.length_range]; omega) (fun x hx => ⟨_,rfl,by exact iX (pj (ae 0 rfl) (ae 1 rfl) rfl (by with_unfolding_all rfl)),fun _ => by
          exact iz (ae 1 rfl) (bX (ah (ae 0 rfl) av) (by show 1 <= sizeLine; decide)) rfl rfl (by show (l.map di).length + 1 <= sizeLine; rw [List.length_map]; omega)⟩) (fun dd => by cases dd <;> rfl))) ?_),[5],?_⟩
      · rw [List.length_map,List.length_map]
        have := congrArg List.length e
        rw [List.length_append,List.length_map] at this
        omega
      · have eT : eu (cv (L.take (j + 1)) n) = .ow (List.map tL (cv (L.take j) n) ++ List.map (fun k => Tr.ow (List.map Tr.fz (List.map di l ++ [di (0 + ((k : Nat) : Int))]))) (List.filter (fun k => !l.contains (0 + ((k : Nat) : Int))) (List.range n))) := by
          rw [e]
          unfold eu
          rw [List.map_append,List.map_map]
          congr 2
          refine List.map_congr_left fun k _ => ?_
          show Tr.ow _ = Tr.ow _
          rw [List.map_append,List.map_append,List.map_map]
          rfl
        show [_,_,_,_,some _,_] = [_,_,_,_,some _,_]
        rw [eT]
    · rw [List.length_map,List.take_length]
      refine oO (d := .lst ((cv L n).map dis)) 4 rfl (sV _) ?_
      refine ak (aH 1 (Ev.s (ae 4 rfl)) (fun _ => jB.nd)) ?_
      refine aN (aH 2 (Ev.s (Ev.as (d := .lst ((V ++ cv L n).map dis)) (iz (ae 2 rfl) (ae 1 rfl) rfl rfl (by rw [List.length_map,List.length_map]; omega)) (by rw [iA,List.map_append]))) (fun _ => jB.nd))
  · rw [rl]
    exact aN (cf (Ev.s (ae 2 rfl)))
theorem OT {D E : List (List Int)} (h : D.Perm E) (a x : Int) : cI D a x = cI E a x := by unfold cI; rw [h.countP_eq]
theorem QD {n i : Nat} (h : i < n) : (aG n)[i]? = some ((i : Nat) : Int) := by
  unfold aG
  rw [List.getElem?_map,List.getElem?_range h]
  show some (0 + ((i : Nat) : Int)) = _
  rw [Int.zero_add]
theorem NS (D : List (List Int)) (d : List Int) (a x : Int) : cI (D ++ [d]) a x = cI D a x + if bN d a = x then 1 else 0 := by
  unfold cI
  rw [List.countP_append,List.countP_singleton]
  by_cases h : bN d a = x
  · simp [h]
  · simp [h]
def dP (n : Nat) (D : List (List Int)) (a : Int) : List Int := (aG (n + 1)).map (cI D a)
theorem sx (n : Nat) (D : List (List Int)) (a : Int) : (dP n D a).length = n + 1 := by unfold dP; rw [List.length_map,nj]
theorem Fh {n : Nat} {D : List (List Int)} {a x : Int} (h0 : 0 <= x) (h1 : x <= n) : (dP n D a)[x.toNat]? = some (cI D a x) := by
  unfold dP
  rw [List.getElem?_map,QD (by omega),show ((x.toNat : Nat) : Int) = x by omega]; rfl
theorem NT {n : Nat} {D : List (List Int)} {d : List Int} {a : Int} (h0 : 0 <= bN d a) : dP n (D ++ [d]) a = (dP n D a).set (bN d a).toNat (cI D a (bN d a) + 1) := by
  refine List.ext_getElem (by rw [List.length_set,sx,sx]) fun i h1 h2 => ?_
  rw [sx] at h1
  have g : ∀ D,(dP n D a)[i]? = some (cI D a (i : Int)) := fun D => by
    have := Fh (n := n) (D := D) (a := a) (x := (i : Int)) (by omega) (by omega)
    rwa [Int.toNat_natCast] at this
  have e : ∀ D (h : i < (dP n D a).length),(dP n D a)[i]'h = cI D a (i : Int) := fun D h => by
    have := g D
    rw [List.getElem?_eq_getElem h] at this
    exact Option.some.inj this
  rw [List.getElem_set,e,NS]
  by_cases q : (bN d a).toNat = i
  · rw [if_pos q,if_pos (by omega),show (i : Int) = bN d a by omega]
  · rw [if_neg q,if_neg (by omega),Int.add_zero,e]
abbrev YG : List Str := ["_law_table_here", "_law_asker", "_law_rows", "_law_totals_here", "_law_turns", "_law_number"]
abbrev mB : Stmt := top 62
theorem rS : bh YG ["_law_table_here", "_law_asker", "_law_rows"] (ag mB) := ⟨rfl,rfl,rfl,by decide +kernel,rfl,by decide +kernel,by decide +kernel⟩
def Fi (dd : List Dv) (t : Tr) : Prop := ∃ (c : List Int) (os : List (List Int)) (a : Int),cV c os /\ os.length <= 5 /\ 0 <= a /\ a < os.length /\ dd = [aX c os,di a,.lst ((d8 os.length).map dis)] /\ t = aM (cb c os a)
theorem Lk {f f1 : Addr} {fd aW : FuncData} {k : Nat} (F : bu K "_law_totals" "_law_totals" mB f fd) (T : Txt mg) (MD : Kn P w K mg base aq (k + 2) "_law_deal" f1 aW ["_law_table_here", "_law_turns"] (spT K pN)) : aR P w K mg base aq (k + 3) f fd ["_law_table_here", "_law_asker", "_law_rows"] (spT K Fi) := by
  refine bG F.d rS (fun dd t h => by obtain ⟨_,_,_,_,_,_,_,rfl,_⟩ := h; rfl) fun dd t h => ?_
  obtain ⟨c,os,a,ok,o5,a0,a1,rfl,rfl⟩ := h
  refine ⟨_,.inl rfl,?_⟩
  have big : 1000 < sizeLine := by decide
  have c6 := ok.c6
  have lp := NF os.length o5
  have each : ∀ ts ∈ d8 os.length,ts.Perm (aG os.length) := fun ts h => vT os.length o5 ts (lp.mem_iff.mp h)
  have fin : dP c.length ((d8 os.length).map (bC c os)) a = cb c os a := by
    unfold dP cb
    exact List.map_congr_left fun x _ => OT (lp.map _) a x
  rw [<- fin]
  have e0 : Tr.ow ((aG (c.length + 1)).map fun _ => ti 0) = aM (dP c.length [] a) := by
    unfold dP
    show Tr.ow _ = Tr.ow (List.map _ (List.map _ _))
    rw [List.map_map]; rfl
  refine ak (nG 3 (y3 (eY.to (t' := aM (dP c.length [] a)) (y6 (own := ["_law_k"]) (fr := []) (aG (c.length + 1)) di (fun _ => ti 0) (bA.to (fG T.eC (fc (cL T.cC (bO (ae 0 rfl) au rfl (nN c os)) (.inl rfl)) au) (by rw [List.length_map]; omega)) (xu (c.length + 1) (by rw [List.length_map]; omega))) (bJ 0 (fun _ => by show List.Nodup (["_law_k"] : List Str); decide)) (by decide) (by rw [nj]; omega) (fun x hx => ⟨_,rfl,by exact au⟩) (fun dd => by cases dd <;> rfl)) e0)) (fun i => lcs ⟨rfl,rfl,by decide +kernel,by decide +kernel,by decide +kernel,by decide +kernel⟩) (fun _ => rS.nd)) ?_
  generalize d8 os.length = L at each
  refine ak (eE (bA.s (cT (ae 2 rfl) rfl)) (bJ 4 (fun _ => rS.nd)) (fun j => [some (.fz (aX c os)),some (ti a),some (.fz (.lst (L.map dis))),some (aM (dP c.length ((L.take j).map (bC c os)) a)),none,none]) rfl (fun _ => rfl) (fun j d hd => ?_)) ?_
  · obtain ⟨ts,j8,rfl⟩ := eA hd
    have hp := each ts (List.mem_of_getElem? j8)
    obtain ⟨q,hq,eq⟩ := xA (c := c) hp a0 a1
    have dl : (bC c os ts).length = os.length := by unfold bC; rw [List.length_map,kj]
    have dat : aZ ((bC c os ts).map di) a = some (di (bN (bC c os ts) a)) := Gq di a0 (by omega)
    have om : os.getD a.toNat [] ∈ os := by
      rw [List.getD_eq_getElem?_getD,List.getElem?_eq_getElem (show a.toNat < os.length by omega)]
      exact List.getElem_mem _
    have dr : 0 <= bN (bC c os ts) a /\ bN (bC c os ts) a <= c.length := by
      rw [eq]
      unfold eU
      obtain ⟨x,r,hx⟩ := pM c (os.getD a.toNat []) (bK c os (ts.take q))
      rw [hx]
      exact kr (ok.bQ _ om) x (sv hx).1
    rw [dJ j8,List.map_append]
    show ∃ _ _,_ /\ bI _ _ _ _ /\ Fg _ [_,_,_,some (aM (dP c.length ((L.take j).map (bC c os) ++ [bC c os ts]) a)),_,_]
    rw [NT dr.1]
    generalize (L.take j).map (bC c os) = D
    generalize hx : bN (bC c os ts) a = x at dr dat
    have YH := Fh (D := D) (a := a) dr.1 dr.2
    have tl := sx c.length D a
    refine ⟨_,[some (.fz (aX c os)),some (ti a),some (.fz (.lst (L.map dis))),some (aM ((dP c.length D a).set x.toNat (cI D a x + 1))),some (.fz (dis ts)),some (ti x)],rfl,?_,[4,5],rfl⟩
    refine ak (aH 5 (Ev.s (cw (aY MD (Nat.le_refl _) (ah (ae 0 rfl) (ah (ae 4 rfl) av)) ⟨c,os,ts,ok,hp,rfl,rfl⟩) (ae 1 rfl) (dN _) dat)) (fun _ => rS.nd)) ?_
    refine aN (Rn.to (m8 3 (us := (dP c.length D a).map fun n => .fz (di n)) (n := x) (m := x.toNat) (t := ti (cI D a x + 1)) rfl (Ev.s (ae 5 rfl)) (by rw [List.length_map,tl]; unfold dR; rw [if_pos dr.1,if_pos (by omega)]) (Ev.pk (t := ti (cI D a x + 1)) (fc (cw (d := di (cI D a x)) (ae 3 rfl) (ae 5 rfl) (dN _) (by
      have : aZ ((dP c.length D a).map di) ((x.toNat : Nat) : Int) = some (di (cI D a x)) := e9 (by rw [List.getElem?_map,YH]; rfl)
      rwa [show ((x.toNat : Nat) : Int) = x by omega] at this)) au) True.intro) (hps := fun i => nz (pv 3) (jO i) set_list)) ?_)
    show [_,_,_,some (Tr.ow _),_,_] = [_,_,_,some (Tr.ow _),_,_]
    rw [List.map_set]
  · rw [List.length_map,List.take_length]
    exact aN (kB 3 rfl)
abbrev YJ : List Str := ["_law_table_here", "_law_asker", "_law_first", "_law_other", "_law_here", "_law_there", "_law_number"]
abbrev mP : Stmt := top 63
theorem mI : bh YJ ["_law_table_here", "_law_asker", "_law_first", "_law_other"] (ag mP) := ⟨rfl,rfl,rfl,by decide +kernel,rfl,by decide +kernel,by decide +kernel⟩
def kc (t1 t2 : List Int) : Str := if t1 = t2 then "same" else "worse"
def GA (dd : List Dv) (t : Tr) : Prop := ∃ (c : List Int) (os : List (List Int)) (a : Int) (o t1 t2 : List Int),cV c os /\ aZ os a = some o /\ o ∈ os /\ t1.length = c.length + 1 /\ t2.length = c.length + 1 /\ iD t1 t2 (aJ c.length o) = true /\ dd = [aX c os,di a,dis t1,dis t2] /\ t = tx (kc t1 t2)
theorem Ma {f f1 : Addr} {fd aW : FuncData} {k : Nat} (F : bu K "_law_word" "_law_word" mP f fd) (T : Txt mg) (vO : Kn P w K mg base aq (k + 1) "_law_full" f1 aW ["_law_table_here", "_law_asker"] (spT K nU)) : aR P w K mg base aq (k + 2) f fd ["_law_table_here", "_law_asker", "_law_first", "_law_other"] (spT K GA) := by
  refine bG F.d mI (fun dd t h => by obtain ⟨_,_,_,_,_,_,_,_,_,_,_,_,rfl,_⟩ := h; rfl) fun dd t h => ?_
  obtain ⟨c,os,a,o,t1,t2,ok,fE,om,l1,l2,good,rfl,rfl⟩ := h
  refine ⟨_,.inl rfl,?_⟩
  have big : 1000 < sizeLine := by decide
  have c6 := ok.c6
  unfold kc
  have J1 : cS (dis t1) <= 50 := Nat.le_trans (pK _) (by decide)
  by_cases h : t1 = t2
  · rw [if_pos h]
    exact pI (nH (Et.s (sQ (ae 2 rfl) (ae 3 rfl) (.inl ⟨_,_,rfl,rfl⟩) J1)) (by show bR (dis t1) (dis t2) = true; rw [xk]; exact decide_eq_true h) (aN (cf (Ev.s iV))))
  · rw [if_neg h]
    refine ak (du (Et.s (sQ (ae 2 rfl) (ae 3 rfl) (.inl ⟨_,_,rfl,rfl⟩) J1)) (by show bR (dis t1) (dis t2) = false; rw [xk]; exact decide_eq_false h)) ?_
    have bQ := kr (ok.bQ o om)
    have fl := wO (n := c.length) o
    have ol := ok.jS om
    have gi := Eg.mp good
    refine ak (aH 4 (cg.to (t' := ti (bL t1 (aJ c.length o) 0)) (Ev.s au) rfl) (fun _ => mI.nd)) ?_
    refine ak (aH 5 (cg.to (t' := ti (bL t2 (aJ c.length o) 0)) (Ev.s au) rfl) (fun _ => mI.nd)) ?_
    refine ak (eE (bA.s (cT (aY vO (Nat.le_refl _) (ah (ae 0 rfl) (ah (ae 1 rfl) av)) ⟨c,os,a,o,by omega,by omega,fE,rfl,rfl⟩) (dN _))) (bJ 6 (fun _ => mI.nd)) (fun j => [some (.fz (aX c os)),some (ti a),some (.fz (dis t1)),some (.fz (dis t2)),some (ti (bL t1 (aJ c.length o) j)),some (ti (bL t2 (aJ c.length o) j)),none]) rfl (fun _ => rfl) (fun j d hd => ?_)) (aN (cf (Ev.s iV)))
    obtain ⟨x,hx,rfl⟩ := eA hd
    have jl := (List.getElem?_eq_some_iff.mp hx).1
    obtain ⟨x0,x1⟩ := bQ x (List.mem_of_getElem? hx)
    have at_ : ∀ {t : List Int},t.length = c.length + 1 -> aZ (t.map di) x = some (di (fH t x)) := fun {t} ht => by
      have : aZ (t.map di) ((x.toNat : Nat) : Int) = some (di (fH t x)) := e9 (by
        unfold fH
        rw [List.getElem?_map,List.getD_eq_getElem?_getD,List.getElem?_eq_getElem (show x.toNat < t.length by omega)]; rfl)
      rwa [show ((x.toNat : Nat) : Int) = x by omega] at this
    have g := gi j jl
    refine ⟨_,[some (.fz (aX c os)),some (ti a),some (.fz (dis t1)),some (.fz (dis t2)),some (ti (bL t1 (aJ c.length o) (j + 1))),some (ti (bL t2 (aJ c.length o) (j + 1))),some (ti x)],rfl,?_,[6],rfl⟩
    rw [sd hx,sd hx] at g ⊢
    refine ak (aH 4 (Ev.s (fc (ae 4 rfl) (cw (ae 2 rfl) (ae 6 rfl) rfl (at_ l1)))) (fun _ => mI.nd)) ?_
    refine ak (aH 5 (Ev.s (fc (ae 5 rfl) (cw (ae 3 rfl) (ae 6 rfl) rfl (at_ l2)))) (fun _ => mI.nd)) ?_
    exact aN (du (Et.s (jN (ae 5 rfl) (ae 4 rfl))) (decide_eq_false (by omega)))
theorem RO (p q : Int × Int) : bR (dF p) (dF q) = decide (p = q) := by
  show (p.1 == q.1 && (p.2 == q.2 && true)) = _
  rw [Bool.and_true,Bool.eq_iff_iff,Bool.and_eq_true,beq_iff_eq,beq_iff_eq,decide_eq_true_iff]
  exact ⟨fun h => Prod.ext h.1 h.2,fun h => by rw [h]; exact ⟨rfl,rfl⟩⟩
theorem Fj {W : Int} (hW : 0 < W) : ∀ a b : List Int,bR (.lst (a.map fun s => dF (fW W s))) (.lst (b.map fun s => dF (fW W s))) = true -> a = b
  | [],[],_ => rfl
  | [],_ :: _,h => by cases h
  | _ :: _,[],h => by cases h
  | x :: a,y :: b,h => by
    have h : (bR (dF (fW W x)) (dF (fW W y)) && bR (.lst (a.map fun s => dF (fW W s))) (.lst (b.map fun s => dF (fW W s)))) = true := h
    rw [Bool.and_eq_true,RO,decide_eq_true_iff] at h
    rw [Rp hW h.1,Fj hW a b h.2]
theorem NU {W : Int} {n : Nat} {t1 t2 full : List Int} (k1 : gM W n t1) (good : iD t1 t2 full = true) : tE W t1 t2 full = kc t1 t2 := by
  unfold tE kc
  by_cases h : t1 = t2
  · rw [if_pos h,if_pos (by rw [h]; exact pq (xh RH _))]
  · rw [if_neg h,if_neg (fun z => h ?_),if_pos good]
    rw [wQ,wQ] at z
    exact (Fj k1.w0 _ _ z).symm
end
end bw
namespace bw
open PySem L2 dI
section
variable {P : Program} {w : World} {K : PySem.W.Frag} {mg : Str -> Option Value} {base : Heap}
abbrev YK : List Str := ["_law_table_here", "_law_asker", "_law_turns", "_law_first", "_law_rows", "_law_order_here", "_law_orders"]
abbrev mX : Stmt := top 64
theorem mQ : bh YK ["_law_table_here", "_law_asker"] (ag mX) := ⟨rfl,rfl,rfl,by decide +kernel,rfl,by decide +kernel,by decide +kernel⟩
theorem yp : ∀ n,n <= 4 -> ∀ o ∈ b0 n n,o.Nodup /\ ∀ x ∈ o,0 <= x /\ x < (n : Int) := by
  have : ∀ n : Fin 5,((b0 n.val n.val).all fun o => decide o.Nodup && o.all fun x => decide (0 <= x /\ x < (n.val : Int))) = true := by decide +kernel
  intro n hn o ho
  have := List.all_eq_true.mp (this ⟨n,by omega⟩) o ho
  rw [Bool.and_eq_true,decide_eq_true_eq,List.all_eq_true] at this
  exact ⟨this.1,fun x hx => of_decide_eq_true (this.2 x hx)⟩
theorem GD {c : List Int} {os : List (List Int)} (ok : cV c os) {a : Nat} {o : List Int} (nd : o.Nodup) (bQ : ∀ x ∈ o,0 <= x /\ x < c.length) : cV c (os.set a o) := by
  refine ⟨ok.c6,ok.cnt,by rw [List.length_set]; exact ok.o1,by rw [List.length_set]; exact ok.o6,fun o' h => ?_,fun o' h => ?_⟩
  · rcases List.mem_or_eq_of_mem_set h with z | rfl
    · exact ok.nd o' z
    · exact nd
  · rcases List.mem_or_eq_of_mem_set h with z | rfl
    · exact ok.bQ o' z
    · exact bQ
def cZ (c : List Int) (os : List (List Int)) (a : Int) (o : List Int) : Str := kc (cb c os a) (cb c (os.set a.toNat o) a)
abbrev jU (c : List Int) (os : List (List Int)) (a : Int) (L : List (List Int)) : Dv := .lst (L.map fun o => .tup [dis o,ds (cZ c os a o)])
def Iv (dd : List Dv) (t : Tr) : Prop := ∃ (c : List Int) (os : List (List Int)) (a : Int),cV c os /\ c.length <= 4 /\ os.length <= 5 /\ 0 <= a /\ a < os.length /\ dd = [aX c os,di a] /\ t = .fz (jU c os a (b0 c.length c.length))
theorem OU (os : List (List Int)) (n : Nat) (o : List Int) : er (.ow ((os.map aM).set n (.fz (dis o)))) = .lst ((os.set n o).map dis) := by
  have e : ∀ (l : List (List Int)) (n : Nat),cJ ((l.map aM).set n (.fz (dis o))) = (l.set n o).map dis := by
    intro l
    induction l with
    | nil => intro n; rfl
    | cons x l ih =>
      intro n
      cases n with
      | zero =>
        show dis o :: cJ (l.map aM) = _
        rw [iq,List.map_map]
        show _ = dis o :: l.map dis
        congr 1
        exact List.map_congr_left fun x _ => dN x
      | succ n =>
        show er (aM x) :: cJ ((l.map aM).set n _) = dis x :: (l.set n o).map dis
        rw [ih,dN]
  show Dv.lst _ = Dv.lst _
  rw [e]
theorem ME {f f1 f2 f3 f4 : Addr} {fd aW fd2 gj ke : FuncData} {k : Nat} (F : bu K "_law_due" "_law_due" mX f fd) (T : Txt mg) (MX : Kn P w K mg base aq (k + 1) "_law_all" f1 aW ["_law_many"] (spT K Iu)) (CT : Kn P w K mg base aq (k + 3) "_law_totals" f2 fd2 ["_law_table_here", "_law_asker", "_law_rows"] (spT K Fi)) (Mb : Kn P w K mg base aq (k + 1) "_law_lists" f3 gj ["_law_many"] (spT K Gz)) (MF : Kn P w K mg base aq (k + 2) "_law_word" f4 ke ["_law_table_here", "_law_asker", "_law_first", "_law_other"] (spT K GA)) : aR P w K mg base aq (k + 4) f fd ["_law_table_here", "_law_asker"] (spT K Iv) := by
  refine bG F.d mQ (fun dd t h => by obtain ⟨_,_,_,_,_,_,_,_,rfl,_⟩ := h; rfl) fun dd t h => ?_
  obtain ⟨c,os,a,ok,c4,o5,a0,a1,rfl,rfl⟩ := h
  refine ⟨_,.inl rfl,?_⟩
  have big : 1000 < sizeLine := by decide
  have c6 := ok.c6
  have lvl := ku c.length c4 c.length (Nat.le_refl _)
  have oI := yp c.length c4
  obtain ⟨o1,iN⟩ : ∃ o1,os[a.toNat]? = some o1 := ⟨_,List.getElem?_eq_getElem (by omega)⟩
  have uK := List.mem_of_getElem? iN
  have og : os.getD a.toNat [] = o1 := by rw [List.getD_eq_getElem?_getD,iN]; rfl
  have fE : aZ os a = some o1 := by
    rw [show a = ((a.toNat : Nat) : Int) by omega]
    exact e9 iN
  have tl : ∀ (os : List (List Int)),(cb c os a).length = c.length + 1 := fun os => by unfold cb; rw [List.length_map,nj]
  refine ak (aH 2 (Ev.s (aY MX (by show k + 1 <= k + 3; omega) (ah (Ev.to (t' := ti (os.length : Nat)) (cL T.cC (bO (ae 0 rfl) au rfl (nM c os)) (.inl rfl)) (by rw [List.length_map])) av) ⟨os.length,o5,rfl,rfl⟩)) (fun _ => mQ.nd)) ?_
  refine ak (aH 3 (Ev.s (Ev.as (d := dis (cb c os a)) (aY CT (Nat.le_refl _) (ah (ae 0 rfl) (ah (ae 1 rfl) (ah (ae 2 rfl) av))) ⟨c,os,a,ok,o5,a0,a1,rfl,rfl⟩) (dN _))) (fun _ => mQ.nd)) ?_
  refine ak (aH 4 (cg.to (t' := .ow (((b0 c.length c.length).take 0).map fun o => .fz (.tup [dis o,ds (cZ c os a o)]))) (Ev.s (bX av (Nat.zero_le _))) rfl) (fun _ => mQ.nd)) ?_
  refine ak (eE (its := (b0 c.length c.length).map dis) (bA.s (cT (aY Mb (by show k + 1 <= k + 3; omega) (ah (Ev.to (t' := ti (c.length : Nat)) (cL T.cC (bO (ae 0 rfl) au rfl (nN c os)) (.inl rfl)) (by rw [List.length_map])) av) ⟨c.length,c4,rfl,rfl⟩) rfl)) (bJ 5 (fun _ => mQ.nd)) (fun j => [some (.fz (aX c os)),some (ti a),some (.fz (.lst ((d8 os.length).map dis))),some (.fz (dis (cb c os a))),some (.ow (((b0 c.length c.length).take j).map fun o => .fz (.tup [dis o,ds (cZ c os a o)]))),none,none]) rfl (fun _ => rfl) (fun j d hd => ?_)) ?_
  · obtain ⟨o,ho,rfl⟩ := eA hd
    obtain ⟨nd,bQ⟩ := oI o (List.mem_of_getElem? ho)
    have uM := GD ok (a := a.toNat) nd bQ
    have l2 : (os.set a.toNat o).length = os.length := List.length_set
    have sp := Ej ok o5 a0 a1 o
    rw [og] at sp
    have jl : ((b0 c.length c.length).take j).length <= 65 := by rw [List.length_take]; omega
    refine ⟨_,[some (.fz (aX c os)),some (ti a),some (.fz (.lst ((d8 os.length).map dis))),some (.fz (dis (cb c os a))),some (.ow (((b0 c.length c.length).take (j + 1)).map fun o => .fz (.tup [dis o,ds (cZ c os a o)]))),some (.fz (dis o)),some (.fz (.lst ((os.set a.toNat o).map dis)))],rfl,?_,[5,6],rfl⟩
    refine ak (nG 6 (y4 (y6 (own := ["_law_one"]) (fr := []) os dis aM (cT (bO (ae 0 rfl) au rfl (nM c os)) rfl) (bJ 0 (fun _ => by show List.Nodup (["_law_one"] : List Str); decide)) (by decide) (by omega) (fun o ho => ⟨_,rfl,by exact Ev.to (jF T.fP (ae 0 rfl) (.inl rfl)) (by rw [jH])⟩) (fun dd => by cases dd <;> rfl)) (D2 _)) (fun i => lcs ⟨rfl,rfl,by decide +kernel,by decide +kernel,by decide +kernel,by decide +kernel⟩) (fun _ => mQ.nd)) ?_
    refine ak (m8 6 (n := a) (m := a.toNat) (us := os.map aM) (t := .fz (dis o)) rfl (Ev.s (ae 1 rfl)) (by rw [List.length_map]; unfold dR; rw [if_pos a0,if_pos (by omega)]) (Ev.s (ae 5 rfl)) (hps := fun i => nz (pv 6) (jO i) set_list)) ?_
    refine oO (d := .lst ((os.set a.toNat o).map dis)) 6 rfl (OU _ _ _) ?_
    refine aN (Rn.to (rZ 4 rfl (Ev.s (wZ (dd := [dis o,ds (cZ c os a o)]) (ah (Ev.as (d := dis o) (jF T.fP (ae 5 rfl) (.inl rfl)) (iA _)) (ah (aY MF (by show k + 2 <= k + 3; omega) (ah (ae 0 rfl) (ah (ae 1 rfl) (ah (ae 3 rfl) (ah (Ev.as (d := dis (cb c (os.set a.toNat o) a)) (aY CT (Nat.le_refl _) (ah (sT (ah (bO (ae 0 rfl) au rfl (nN c os)) (ah (ae 6 rfl) av)) (by show 2 <= sizeLine; decide)) (ah (ae 1 rfl) (ah (ae 2 rfl) av))) ⟨c,os.set a.toNat o,a,uM,by rw [l2]; exact o5,a0,by rw [l2]; exact a1,by rw [l2]; rfl,rfl⟩) (dN _)) av)))) ⟨c,os,a,o1,cb c os a,cb c (os.set a.toNat o) a,ok,fE,uK,tl _,tl _,sp,rfl,rfl⟩) av)) rfl (by show 2 <= sizeLine; decide))) (by rw [List.length_map]; omega)) ?_)
    rw [dJ ho,List.map_append]; rfl
  · rw [List.length_map,List.take_length]
    refine oO (d := jU c os a (b0 c.length c.length)) 4 rfl (by rw [jC]; rfl) ?_
    exact aN (cf (Ev.s (ae 4 rfl)))
end
end bw
namespace bw
open PySem L2 dI
section
variable {P : Program} {w : World} {K : PySem.W.Frag} {mg : Str -> Option Value} {base : Heap}
abbrev cK : List Str := ["table", "asker", "way", "orders", "first", "told", "order", "new"]
abbrev bq : Stmt := top 53
theorem ny : bh cK ["table", "asker", "way"] (ag bq) := ⟨rfl,rfl,rfl,by decide +kernel,rfl,by decide +kernel,by decide +kernel⟩
abbrev zj (i : Nat) : Stmt := (aQ bq).getD i (.Pass ⟨0,0,0,0⟩)
theorem YL {X : Cx} {K : PySem.W.Frag} {e : Expr} {t : TE} {ta : TA} (hK : X.K = K) (h : PE X e (fZ X.K "list" ky t ta)) : PE X e (fZ K "list" ky t ta) := hK ▸ h
theorem GF (cs : List Int) (os : List (List Int)) : er (.tp [aM cs,kN os]) = aX cs os := by
  show Dv.tup [er _,er _] = _
  rw [dN,D1]; rfl
structure Av (B H : Hp) (l b : Addr) (ps : List (Addr × List Int)) (wd : List Int -> Str) (zs : List (Addr × Addr × List Int)) : Prop where
  la : H l = some (.lst (ps.map fun p => V.ref p.1))
  rows : ∀ p ∈ ps,H p.1 = some (.lst (p.2.map V.int))
  lb : H b = some (.lst (zs.map fun z => V.ref z.1))
  tup : ∀ z ∈ zs,H z.1 = some (.tup [.ref z.2.1,.str (wd z.2.2)])
  nd : (zs.map (·.1)).Nodup
  new : ∀ z ∈ zs,B z.1 = none /\ z.1 ≠ b /\ z.1 ∉ ps.map (·.1)
theorem RP {f f3 f4 f5 : Addr} {gj ke Aw : FuncData} {k : Nat} (sy : Kn P w K mg base aq (k + 8) "row_at" f3 gj ["table", "asker", "way"] (spT K sX)) (vC : Kn P w K mg base aq (k + 3) "told_otherwise" f4 ke ["table", "asker", "order"] (spT K uI)) (vW : Kn P w K mg base aq (k + 6) "word_for" f5 Aw ["table", "asker", "first", "new"] (spT K tG))
    {c : List Int} {os : List (List Int)} {a : Int} (ok : cV c os) (c4 : c.length <= 4) (h5 : os.length <= 5) (a0 : 0 <= a) (a1 : a < os.length) :
    ∃ τ : TS,(∀ i,PS ((aK P w K mg base cK "lies" (ag bq) f (k + 8)).cx i) (zj 4) τ) /\ ∀ (D : Ends) (o6 o7 : Option V) (B H : Hp) (v0 v4 : V) (l b : Addr) (ps : List (Addr × List Int)),ai B H -> Hv K B (aX c os) v0 -> Hv K B (df (wT os) (cb c os a)) v4 -> ps.map (·.2) = b0 c.length c.length -> Av B H l b ps (cZ c os a) [] -> B b = none -> b ≠ l -> b ∉ ps.map (·.1) ->
      (∀ o6 o7 H' zs,ai B H' -> Av B H' l b ps (cZ c os a) zs -> zs.map (·.2) = ps -> D.nx [some v0,some (.int a),some (.str "turns"),some (.ref l),some v4,some (.ref b),o6,o7] H') -> τ D [some v0,some (.int a),some (.str "turns"),some (.ref l),some v4,some (.ref b),o6,o7] H := by
  refine ⟨jP (kK K (bb 3)) (cU 6) (fI (gP (iC (spT K sX) [] E0 (bt (iC (spT K uI) [] E0 (bt (bb 0) (bt (bb 1) (bt (bb 6) cm)))) (bt (bb 1) (bt (bb 2) cm)))) (cU 7)) (jL (fZ K "list" ky (bb 5) (bt (nX (bt (bb 6) (bt (iC (spT K tG) [] E0 (bt (bb 0) (bt (bb 1) (bt (bb 4) (bt (bb 7) cm))))) cm))) cm)))),fun i => ?_,?_⟩
  · exact pV (X := (aK P w K mg base cK "lies" (ag bq) f (k + 8)).cx i) (nZ rfl) rfl (pB (X := (aK P w K mg base cK "lies" (ag bq) f (k + 8)).cx i) (pv (X := (aK P w K mg base cK "lies" (ag bq) f (k + 8)).cx i) (x := "orders") 3)) (iS (X := (aK P w K mg base cK "lies" (ag bq) f (k + 8)).cx i) (i := 6) ny.nd rfl (Or.inl rfl))
      (il (pU (X := (aK P w K mg base cK "lies" (ag bq) f (k + 8)).cx i) (i := 7) ny.nd rfl (Or.inl rfl) (nQ (X := (aK P w K mg base cK "lies" (ag bq) f (k + 8)).cx i) (x := "row_at") sy i.hr rfl (bB (nQ (X := (aK P w K mg base cK "lies" (ag bq) f (k + 8)).cx i) (x := "told_otherwise") vC (i.hr.mono (by omega)) rfl (bB (pv (X := (aK P w K mg base cK "lies" (ag bq) f (k + 8)).cx i) (x := "table") 0) (bB (pv (X := (aK P w K mg base cK "lies" (ag bq) f (k + 8)).cx i) (x := "asker") 1) (bB (pv (X := (aK P w K mg base cK "lies" (ag bq) f (k + 8)).cx i) (x := "order") 6) cB)))) (bB (pv (X := (aK P w K mg base cK "lies" (ag bq) f (k + 8)).cx i) (x := "asker") 1) (bB (pv (X := (aK P w K mg base cK "lies" (ag bq) f (k + 8)).cx i) (x := "way") 2) cB)))))
      (jE (kx (X := (aK P w K mg base cK "lies" (ag bq) f (k + 8)).cx i) (YL (K := K) rfl (jM (X := (aK P w K mg base cK "lies" (ag bq) f (k + 8)).cx i) PySem.F.plainAttrs_list PySem.F.slot_list_append PySem.F.type_list_append mY (pv (X := (aK P w K mg base cK "lies" (ag bq) f (k + 8)).cx i) (x := "told") 5) (bB (xD (bB (pv (X := (aK P w K mg base cK "lies" (ag bq) f (k + 8)).cx i) (x := "order") 6) (bB (nQ (X := (aK P w K mg base cK "lies" (ag bq) f (k + 8)).cx i) (x := "word_for") vW (i.hr.mono (by omega)) rfl (bB (pv (X := (aK P w K mg base cK "lies" (ag bq) f (k + 8)).cx i) (x := "table") 0) (bB (pv (X := (aK P w K mg base cK "lies" (ag bq) f (k + 8)).cx i) (x := "asker") 1) (bB (pv (X := (aK P w K mg base cK "lies" (ag bq) f (k + 8)).cx i) (x := "first") 4) (bB (pv (X := (aK P w K mg base cK "lies" (ag bq) f (k + 8)).cx i) (x := "new") 7) cB))))) cB))) cB))))))
  intro D o6 o7 B H v0 v4 l b ps sm J4 YM eps td nb bl uN fin
  have big : 1000 < sizeLine := by decide
  have lvl := ku c.length c4 c.length (Nat.le_refl _)
  have oI := yp c.length c4
  obtain ⟨o1,iN⟩ : ∃ o1,os[a.toNat]? = some o1 := ⟨_,List.getElem?_eq_getElem (by omega)⟩
  have uK := List.mem_of_getElem? iN
  have og : os.getD a.toNat [] = o1 := by rw [List.getD_eq_getElem?_getD,iN]; rfl
  have fE : aZ os a = some o1 := by
    rw [show a = ((a.toNat : Nat) : Int) by omega]
    exact e9 iN
  have pl : ps.length <= 65 := by rw [<- List.length_map (f := fun p : Addr × List Int => p.2),eps]; exact lvl
  have k1 := Gu (c := c) h5 a
  refine ⟨_,rfl,l,rfl,⟨_,aD.of td.la⟩,?_⟩
  refine wt (K := K) (a := l) (xs := ps.map fun p => V.ref p.1) (fun i ao H' => ∃ o6 o7 zs,ao = [some v0,some (.int a),some (.str "turns"),some (.ref l),some v4,some (.ref b),o6,o7] /\ ai B H' /\ Av B H' l b ps (cZ c os a) zs /\ zs.map (·.2) = ps.take i) ⟨o6,o7,[],rfl,sm,td,rfl⟩ (fun i ao H' _ z => by obtain ⟨_,_,_,_,_,t,_⟩ := z; exact aD.of t.la) ?_ ?_
  · rintro i x ao H' hi ⟨o6,o7,zs,rfl,sm,td,e⟩
    rw [List.getElem?_map] at hi
    obtain ⟨p,hp,rfl⟩ := Option.map_eq_some_iff.mp hi
    have pm := List.mem_of_getElem? hp
    have om : p.2 ∈ b0 c.length c.length := by rw [<- eps]; exact List.mem_map_of_mem pm
    obtain ⟨nd,bQ⟩ := oI p.2 om
    have uM := GD ok (a := a.toNat) nd bQ
    have l2 : (os.set a.toNat p.2).length = os.length := List.length_set
    have J5 : (os.set a.toNat p.2).length <= 5 := by rw [l2]; exact h5
    have k2 := Gu (c := c) J5 a
    have ew : wT (os.set a.toNat p.2) = wT os := by unfold wT; rw [l2]
    have sp := Ej ok h5 a0 a1 p.2
    have zl : zs.length <= 65 := by
      have := congrArg List.length e
      rw [List.length_map,List.length_take] at this
      omega
    dsimp only [cU,List.set,fI,gP]
    refine ⟨v0,rfl,.int a,rfl,.ref p.1,rfl,H',[aX c os,di a,dis p.2],.tp [aM c,kN (os.set a.toNat p.2)],ai.refl _,⟨v0,_,rfl,J4.mono sm,.int a,_,rfl,⟨rfl,rfl⟩,.ref p.1,_,rfl,⟨p.1,_,rfl,aD.of (td.rows p pm),sW p.2⟩,rfl⟩,⟨c,os,a,p.2,a0,a1,uM,rfl,rfl⟩,fun v1 G1 H1 f1 s1 Aq n1 => ?_⟩
    have YN : Hv K H1 (aX c (os.set a.toNat p.2)) v1 := by
      have := Aq.hv (G' := H1) s1.s fun _ _ => rfl
      rwa [GF] at this
    refine ⟨.int a,rfl,.str "turns",rfl,H1,[aX c (os.set a.toNat p.2),di a,ds "turns"],.fz (df (wT os) (cb c (os.set a.toNat p.2) a)),ai.refl _,⟨v1,_,rfl,YN,.int a,_,rfl,⟨rfl,rfl⟩,.str "turns",_,rfl,⟨rfl,rfl⟩,rfl⟩,⟨c,os.set a.toNat p.2,a,uM,a0,by rw [l2]; exact a1,J5,rfl,by rw [ew]⟩,fun v7 G7 H7 f7 s7 YQ n7 => ?_⟩
    have YR : Hv K H7 (df (wT os) (cb c (os.set a.toNat p.2) a)) v7 := YQ.2.mono s7.s
    have Ax : ai H' H7 := s1.h.trans s7.h
    have J6 : ai B H7 := sm.trans Ax
    refine ⟨.ref b,rfl,.inl ⟨rfl,_,aD.of (Ax _ _ td.lb)⟩,.ref p.1,rfl,v0,rfl,.int a,rfl,v4,rfl,v7,rfl,H7,[aX c os,di a,df (wT os) (cb c os a),df (wT os) (cb c (os.set a.toNat p.2) a)],tx (cZ c os a p.2),ai.refl _,⟨v0,_,rfl,J4.mono J6,.int a,_,rfl,⟨rfl,rfl⟩,v4,_,rfl,YM.mono J6,v7,_,rfl,YR,rfl⟩,⟨c,os,a,o1,wT os,cb c os a,cb c (os.set a.toNat p.2) a,ok.c6,ok.jS uK,ok.bQ o1 uK,fE,k1,by rw [<- ew]; exact k2,rfl,?_⟩,fun v8 G8 H8 f8 s8 YS n8 => ⟨by show 2 <= sizeLine; decide,fun q hq => ?_⟩⟩
    · rw [og] at sp
      rw [NU k1 sp]; rfl
    have YT : v8 = .str (cZ c os a p.2) := aO YS.2
    subst YT
    have jz : ai H' H8 := Ax.trans s8.h
    have Ay : ai B H8 := sm.trans jz
    have qn : ∀ y o,H8 y = some o -> y ≠ q := fun y o hy z => by rw [z,hq] at hy; cases hy
    have qb := qn b _ (jz _ _ td.lb)
    have ql := qn l _ (jz _ _ td.la)
    have qp : ∀ y ∈ ps,y.1 ≠ q := fun y hy => qn _ _ (jz _ _ (td.rows y hy))
    have qz : ∀ z ∈ zs,z.1 ≠ q := fun z hz => qn _ _ (jz _ _ (td.tup z hz))
    refine ⟨b,zs.map fun z => V.ref z.1,.ref q,rfl,rfl,by rw [aP qb]; exact jz _ _ td.lb,by rw [List.length_map]; omega,some (.ref p.1),some v7,zs ++ [(q,p)],rfl,?_,⟨?_,fun y hy => ?_,?_,fun z hz => ?_,?_,fun z hz => ?_⟩,?_⟩
    · exact (Ay.upd (Ay.free hq)).upd nb
    · rw [aP bl.symm,aP ql]; exact jz _ _ td.la
    · rw [aP (show y.1 ≠ b from fun z => uN (z ▸ List.mem_map_of_mem (f := (·.1)) hy)),aP (qp y hy)]
      exact jz _ _ (td.rows y hy)
    · rw [ck,List.map_append]; rfl
    · rcases List.mem_append.mp hz with hz | hz
      · rw [aP (td.new z hz).2.1,aP (qz z hz)]
        exact jz _ _ (td.tup z hz)
      · rw [List.mem_singleton.mp hz]
        show upd _ b _ q = _
        rw [aP qb.symm,ck]
    · rw [List.map_append,List.nodup_append]
      refine ⟨td.nd,List.nodup_cons.mpr ⟨(fun z => nomatch z),.nil⟩,fun x hx y hy z => ?_⟩
      obtain ⟨z1,lU,rfl⟩ := List.mem_map.mp hx
      have : y = q := List.mem_singleton.mp hy
      exact qz z1 lU (z.trans this)
    · rcases List.mem_append.mp hz with hz | hz
      · exact td.new z hz
      · rw [List.mem_singleton.mp hz]
        exact ⟨Ay.free hq,fun z => qb z.symm,fun z => by
          obtain ⟨y,hy,ey⟩ := List.mem_map.mp z
          exact qp y hy ey⟩
    · rw [List.map_append,e,dJ hp]; rfl
  · rintro ao H' ⟨o6,o7,zs,rfl,sm,td,e⟩
    rw [List.length_map,List.take_length] at e
    exact fin o6 o7 H' zs sm td e
end
end bw
namespace bw
open PySem L2 dI
section
variable {P : Program} {w : World} {K : PySem.W.Frag} {mg : Str -> Option Value} {base : Heap}
theorem GH {K : PySem.W.Frag} {G H : Hp} {wd : List Int -> Str} : ∀ {zs : List (Addr × Addr × List Int)},(∀ z ∈ zs,H z.1 = some (.tup [.ref z.2.1,.str (wd z.2.2)])) -> (∀ z ∈ zs,H z.2.1 = some (.lst (z.2.2.map V.int))) -> aB K G H (zs.map fun z => .tp [aM z.2.2,tx (wd z.2.2)]) (zs.map fun z => V.ref z.1) (zs.flatMap fun z => [z.1,z.2.1])
  | [],_,_ => ⟨rfl,rfl⟩
  | z :: zs,h1,h2 => ⟨.ref z.1,_,[z.1,z.2.1],_,rfl,rfl,⟨z.1,_,[z.2.1],rfl,h1 z (.head _),⟨.ref z.2.1,_,[z.2.1],[],rfl,rfl,⟨z.2.1,_,[],rfl,h2 z (.head _),qd z.2.2,rfl⟩,.str (wd z.2.2),[],[],[],rfl,rfl,⟨rfl,rfl,rfl⟩,rfl,rfl⟩,rfl⟩,GH (fun y hy => h1 y (.tail _ hy)) fun y hy => h2 y (.tail _ hy)⟩
theorem o9 : ∀ zs : List (Addr × Addr × List Int),(zs.flatMap fun z => [z.1,z.2.1]).Perm (zs.map (·.1) ++ zs.map (·.2.1))
  | [] => .refl _
  | z :: zs => by
    rw [List.flatMap_cons,List.map_cons,List.map_cons]
    show (z.1 :: z.2.1 :: zs.flatMap fun z => [z.1,z.2.1]).Perm (z.1 :: (zs.map (·.1) ++ z.2.1 :: zs.map (·.2.1)))
    refine .cons _ ?_
    exact (List.Perm.cons _ (o9 zs)).trans List.perm_middle.symm
abbrev lr (c : List Int) (os : List (List Int)) (a : Int) (L : List (List Int)) : Tr := .ow (L.map fun o => .tp [aM o,tx (cZ c os a o)])
def yq (dd : List Dv) (t : Tr) : Prop := ∃ (c : List Int) (os : List (List Int)) (a : Int),cV c os /\ c.length <= 4 /\ os.length <= 5 /\ 0 <= a /\ a < os.length /\ dd = [aX c os,di a,ds "turns"] /\ t = lr c os a (b0 c.length c.length)
theorem QE {f f1 f2 f3 f4 f5 : Addr} {fd aW fd2 gj ke Aw : FuncData} {k : Nat} {dv : Value} (F : kU K "lies" "lies" bq dv f fd) (T : Txt mg) (Mf : Kn P w K mg base aq (k + 2) "all_orders" f1 aW ["many"] (spT K HE)) (vH : Kn P w K mg base aq (k + 1) "check_asker" f2 fd2 ["table", "asker"] (spT K zi)) (sy : Kn P w K mg base aq (k + 8) "row_at" f3 gj ["table", "asker", "way"] (spT K sX)) (vC : Kn P w K mg base aq (k + 3) "told_otherwise" f4 ke ["table", "asker", "order"] (spT K uI)) (vW : Kn P w K mg base aq (k + 6) "word_for" f5 Aw ["table", "asker", "first", "new"] (spT K tG)) : aR P w K mg base aq (k + 9) f fd ["table", "asker", "way"] (spT K yq) := by
  refine bG F ny (fun dd t h => by obtain ⟨_,_,_,_,_,_,_,_,rfl,_⟩ := h; rfl) fun dd t h => ?_
  obtain ⟨c,os,a,ok,c4,h5,a0,a1,rfl,rfl⟩ := h
  refine ⟨_,.inl rfl,?_⟩
  have big : 1000 < sizeLine := by decide
  refine ak (aH 3 (Ev.s (aY Mf (by show k + 2 <= k + 8; omega) (ah (Ev.to (t' := ti (c.length : Nat)) (cL T.cC (bO (ae 0 rfl) au rfl (nN c os)) (.inl rfl)) (by rw [List.length_map])) av) ⟨c.length,c4,rfl,rfl⟩)) (fun _ => ny.nd)) ?_
  refine ak (w8 (Ev.s (aY vH (by show k + 1 <= k + 8; omega) (ah (ae 0 rfl) (ah (ae 1 rfl) av)) ⟨c,os,a,a0,a1,rfl,rfl⟩))) ?_
  refine ak (aH 4 (Ev.s (aY sy (Nat.le_refl _) (ah (ae 0 rfl) (ah (ae 1 rfl) (ah (ae 2 rfl) av))) ⟨c,os,a,ok,a0,a1,h5,rfl,rfl⟩)) (fun _ => ny.nd)) ?_
  refine ak (aH 5 (Ev.s (bX av (Nat.zero_le _))) (fun _ => ny.nd)) ?_
  show bI _ [zj 4,zj 5] [some (.fz (aX c os)),some (ti a),some (tx "turns"),some (eu (b0 c.length c.length)),some (.fz (df (wT os) (cb c os a))),some (.ow []),none,none] _
  obtain ⟨τ,p,q⟩ := RP (P := P) (w := w) (base := base) (f := f) sy vC vW ok c4 h5 a0 a1
  refine ⟨fI τ (nW (bb 5)),fun i => il (p i) (jE (pS (pv (X := (aK P w K mg base cK "lies" (ag bq) f (k + 8)).cx i) (x := "told") 5))),fun D σ G0 H0 G H r post => ?_⟩
  obtain ⟨fp,r⟩ := r
  obtain ⟨v0,_,Ar,_,rfl,rfl,⟨Ap,h0⟩,v1,_,YV,_,rfl,rfl,⟨YW,h1⟩,v2,_,YX,_,rfl,rfl,⟨YY,h2⟩,v3,_,f3,_,rfl,rfl,YZ,v4,_,Y0,_,rfl,rfl,⟨Y1,h4⟩,v5,_,f5,_,rfl,rfl,Y2,o6,_,rfl,o7,_,rfl,rfl,rfl⟩ := r.own
  have e0 : Ar = [] := Ap
  have e1 : YV = [] := YW
  have e2 : YX = [] := YY
  have e4 : Y0 = [] := Y1
  subst e0 e1 e2 e4
  have d0 := r.d
  have rg := r.g
  have rn := r.n
  simp only [List.nil_append,List.append_nil] at d0 rg rn
  obtain ⟨B,hB⟩ : ∃ B : Hp,B = fun x => if x ∈ f3 ++ f5 then none else H x := ⟨_,rfl⟩
  have n0 : ∀ x ∈ f3 ++ f5,B x = none := fun x hx => by rw [hB]; exact if_pos hx
  have off : ∀ x o,G x = some o -> x ∉ f3 ++ f5 := fun x o hx hm => by rw [rg x hm] at hx; cases hx
  have sB : ai B H := fun x o hx => by
    rw [hB] at hx
    dsimp only at hx
    split at hx
    · cases hx
    · exact hx
  have GB : ai G B := fun x o hx => by rw [hB]; exact (if_neg (off x o hx)).trans (r.st.s _ _ hx)
  have gB : ai G0 B := r.st.g.trans GB
  have oB : ai H0 B := fun x o hx => by
    rw [hB]
    exact (if_neg (fun hm => by rw [rn x hm] at hx; cases hx)).trans (r.st.h _ _ hx)
  obtain ⟨d1,d2,d3⟩ := List.nodup_append.mp d0
  obtain ⟨l,ps,rfl,rfl,e1,uH⟩ := sM (H0 := B) YZ (fun x hx => n0 x (List.mem_append_left _ hx)) d1
  obtain ⟨b,vs,fq,rfl,hb,eO,rfl⟩ := Y2
  obtain ⟨rfl,rfl⟩ := eO
  rw [aO h1,aO h2]
  have nb : B b = none := n0 b (List.mem_append_right _ (.head _))
  have bl : b ≠ l := fun z => d3 l (.head _) b (.head _) z.symm
  have uN : b ∉ ps.map (·.1) := fun z => d3 b (.tail _ z) b (.head _) rfl
  refine q _ o6 o7 B H v0 v4 l b ps sB (h0.mono GB) (h4.mono GB) e1 ⟨uH.at_,uH.rows,hb,(fun z hz => nomatch hz),.nil,fun z hz => nomatch hz⟩ nb bl uN fun o6 o7 H' zs sm td e3 => ?_
  refine ⟨_,rfl,?_⟩
  have pin : ∀ z ∈ zs,z.2 ∈ ps := fun z hz => by rw [<- e3]; exact List.mem_map_of_mem hz
  have Bn : ∀ x ∈ b :: zs.flatMap (fun z => [z.1,z.2.1]),B x = none := fun x hx => by
    rcases List.mem_cons.mp hx with rfl | hx
    · exact nb
    · obtain ⟨z,hz,hx⟩ := List.mem_flatMap.mp hx
      rcases List.mem_cons.mp hx with rfl | hx
      · exact (td.new z hz).1
      · rw [List.mem_singleton.mp hx]
        exact n0 _ (List.mem_append_left _ (.tail _ (List.mem_map_of_mem (f := (·.1)) (pin z hz))))
  refine post (.ref b) G0 H' (b :: zs.flatMap fun z => [z.1,z.2.1]) ⟨ai.refl _,oB.trans sm,gB.trans sm,fun a h h' => absurd h h'⟩ ?_ ⟨fun x hx => oB.free (Bn x hx),fun x hx => gB.free (Bn x hx),?_⟩
  · have eL : (b0 c.length c.length).map (fun o => Tr.tp [aM o,tx (cZ c os a o)]) = zs.map fun z => Tr.tp [aM z.2.2,tx (cZ c os a z.2.2)] := by
      rw [<- e1,<- e3,List.map_map,List.map_map]; rfl
    show Ow _ _ _ (.ow _) _ _
    rw [eL]
    exact ⟨b,_,_,rfl,td.lb,GH td.tup fun z hz => td.rows z.2 (pin z hz),rfl⟩
  · refine List.nodup_cons.mpr ⟨fun hx => ?_,(o9 zs).nodup_iff.mpr (List.nodup_append.mpr ⟨td.nd,?_,fun x hx y hy e => ?_⟩)⟩
    · obtain ⟨z,hz,hx⟩ := List.mem_flatMap.mp hx
      rcases List.mem_cons.mp hx with hx | hx
      · exact (td.new z hz).2.1 hx.symm
      · have hx := List.mem_singleton.mp hx
        exact uN (hx ▸ List.mem_map_of_mem (f := (·.1)) (pin z hz))
    · have : zs.map (·.2.1) = ps.map (·.1) := by rw [<- e3,List.map_map]; rfl
      rw [this]
      exact (List.nodup_cons.mp d1).2
    · obtain ⟨z,hz,rfl⟩ := List.mem_map.mp hx
      obtain ⟨z',cG,rfl⟩ := List.mem_map.mp hy
      exact (td.new z hz).2.2 (e ▸ List.mem_map_of_mem (f := (·.1)) (pin z' cG))
end
end bw
namespace bw
open PySem L2 dI
section
variable {P : Program} {w : World} {K : PySem.W.Frag} {mg : Str -> Option Value} {base : Heap}
def uT {ι : Type} (F : aU ι) (e : Expr) : TT := fun σ H Q => ∃ τ : TT,(∀ i,PT (F.cx i) e τ) /\ τ σ H Q
theorem yd {ι : Type} {F : aU ι} {e : Expr} (i : ι) : PT (F.cx i) e (uT F e) := fun pins s σ H D I ⟨τ,h,q⟩ => h i pins s σ H D I q
theorem HF {K : PySem.W.Frag} {G H : Hp} {wd : List Int -> Str} : ∀ {L : List (List Int)} {vs : List V} {fq : List Addr},aB K G H (L.map fun o => .tp [aM o,tx (wd o)]) vs fq -> ∃ zs : List (Addr × Addr × List Int),vs = zs.map (fun z => V.ref z.1) /\ fq = zs.flatMap (fun z => [z.1,z.2.1]) /\ zs.map (fun z => z.2.2) = L /\ (∀ z ∈ zs,H z.1 = some (.tup [.ref z.2.1,.str (wd z.2.2)])) /\ ∀ z ∈ zs,H z.2.1 = some (.lst (z.2.2.map V.int))
  | [],_,_,⟨h1,h2⟩ => ⟨[],h1,h2,rfl,(fun z h => nomatch h),fun z h => nomatch h⟩
  | o :: L,_,_,⟨v,r,f1,f2,h1,h2,h3,h4⟩ => by
    obtain ⟨zs,e1,e2,e3,e4,e5⟩ := HF (L := L) h4
    subst h1 h2 e1 e2
    obtain ⟨q,vs,fx,rfl,hq,ol,rfl⟩ := h3
    obtain ⟨va,r1,fa,fa',rfl,rfl,oa,ol⟩ := ol
    obtain ⟨vb,r2,fb,fb',rfl,rfl,ob,ol⟩ := ol
    obtain ⟨rfl,rfl⟩ := ol
    obtain ⟨p,xs,fy,rfl,hp,oi,rfl⟩ := oa
    obtain ⟨rfl,rfl⟩ := xj oi
    have eb : fb = [] := ob.1
    have ev : vb = .str (wd o) := aO ob.2
    subst eb ev
    refine ⟨(q,p,o) :: zs,rfl,rfl,by rw [List.map_cons,e3],fun z hz => ?_,fun z hz => ?_⟩
    · rcases List.mem_cons.mp hz with rfl | hz
      · exact hq
      · exact e4 z hz
    · rcases List.mem_cons.mp hz with rfl | hz
      · exact hp
      · exact e5 z hz
theorem Fl {K : PySem.W.Frag} {G H : Hp} {wd : List Int -> Str} : ∀ {zs : List (Addr × Addr × List Int)},(∀ z ∈ zs,H z.1 = some (.tup [.ref z.2.1,.str (wd z.2.2)])) -> (∀ z ∈ zs,H z.2.1 = some (.lst ((z.2.2 ++ [0]).map V.int))) -> aB K G H (zs.map fun z => .tp [aM (z.2.2 ++ [0]),tx (wd z.2.2)]) (zs.map fun z => V.ref z.1) (zs.flatMap fun z => [z.1,z.2.1])
  | [],_,_ => ⟨rfl,rfl⟩
  | z :: zs,h1,h2 => ⟨.ref z.1,_,[z.1,z.2.1],_,rfl,rfl,⟨z.1,_,[z.2.1],rfl,h1 z (.head _),⟨.ref z.2.1,_,[z.2.1],[],rfl,rfl,⟨z.2.1,_,[],rfl,h2 z (.head _),qd (z.2.2 ++ [0]),rfl⟩,.str (wd z.2.2),[],[],[],rfl,rfl,⟨rfl,rfl,rfl⟩,rfl,rfl⟩,rfl⟩,Fl (fun y hy => h1 y (.tail _ hy)) fun y hy => h2 y (.tail _ hy)⟩
theorem NV {ι : Type} {F : aU ι} {ρ : En} {st : Stmt} {J7 : Expr} (j jx jy : Nat) {L : List (List Int)} {wd : List Int -> Str} (h : ρ[j]? = some (some (.ow (L.map fun o => .tp [aM o,tx (wd o)])))) (hx : ρ[jx]? = some none) (hy : ρ[jy]? = some none) (Y3 : jx ≠ jy) (J8 : List Int -> En) (hc : ∀ o ∈ L,Et F J7 (J8 o) false)
    (hr : ∀ (o : List Int) (G : Hp) (σ : St) (p : Addr),σ[jx]? = some (some (.ref p)) -> σ[jy]? = some (some (.str (wd o))) -> Hv F.K G (dis o) (.ref p) -> bS F.K G (J8 o) σ) (hz : ∀ o ∈ L,o.length < sizeLine)
    (hps : ∀ i,PS (F.cx i) st (jP (kK F.K (bb j)) (yK F.K 2 (qf (cU jx) (qf (cU jy) yJ))) (fI (tI (uT F J7) pT x3) (jL (fZ F.K "list" ky (bb jx) (bt (tC (.int 0)) cm)))))) :
    Rn F st ρ (.nx (ρ.set j (some (.ow (L.map fun o => .tp [aM (o ++ [0]),tx (wd o)]))))) := by
  refine ⟨_,hps,fun D σ G0 H0 G H r k => ?_⟩
  obtain ⟨fp,r⟩ := r
  have lx : jx < σ.length := by rw [<- r.own.len]; exact (List.getElem?_eq_some_iff.mp hx).1
  have ly : jy < σ.length := by rw [<- r.own.len]; exact (List.getElem?_eq_some_iff.mp hy).1
  have Y4 : j ≠ jx := fun z => by rw [z,hx] at h; cases h
  have Y5 : j ≠ jy := fun z => by rw [z,hy] at h; cases h
  obtain ⟨v,f,s1,o1,nd,sw⟩ := r.Sn h
  obtain ⟨b,vs,fq,rfl,hb,eO,rfl⟩ := o1
  obtain ⟨zs,rfl,rfl,eL,ht,hl⟩ := HF eO
  have n1 := List.nodup_cons.mp nd
  obtain ⟨na,nb,Y6⟩ := List.nodup_append.mp ((o9 zs).nodup_iff.mp n1.2)
  have bz : b ∉ zs.map (·.2.1) := fun z => n1.1 ((o9 zs).mem_iff.mpr (List.mem_append_right _ z))
  have tz : ∀ z ∈ zs,z.1 ∉ zs.map (·.2.1) := fun z hz hm => Y6 z.1 (List.mem_map_of_mem (f := (·.1)) hz) z.1 hm rfl
  have zL : ∀ z ∈ zs,z.2.2 ∈ L := fun z hz => by rw [<- eL]; exact List.mem_map_of_mem (f := fun z : Addr × Addr × List Int => z.2.2) hz
  refine ⟨_,s1,b,rfl,⟨_,aD.of hb⟩,?_⟩
  refine wt (K := F.K) (a := b) (xs := zs.map fun z => V.ref z.1) (fun i ao Hc => (ao.length = σ.length /\ ∀ q,q ≠ jx -> q ≠ jy -> ao[q]? = σ[q]?) /\ Md (zs.map (·.2.1)) H Hc /\ ∀ m z,zs[m]? = some z -> Hc z.2.1 = some (.lst ((if m < i then z.2.2 ++ [0] else z.2.2).map V.int)))
    ⟨⟨rfl,fun _ _ _ => rfl⟩,.refl,fun m z hz => hl z (List.mem_of_getElem? hz)⟩ (fun i ao Hc _ z => aD.of (z.2.1 b _ bz hb)) ?_ ?_
  · rintro i x ao Hc hi ⟨⟨le,hq⟩,md,hj⟩
    rw [List.getElem?_map] at hi
    obtain ⟨z,uO,rfl⟩ := Option.map_eq_some_iff.mp hi
    have zm := List.mem_of_getElem? uO
    have Az := hj i z uO
    rw [if_neg (Nat.lt_irrefl _)] at Az
    refine ⟨z.1,_,rfl,cE.of (md z.1 _ (tz z zm) (ht z zm)),rfl,_,_,rfl,_,_,rfl,rfl,?_⟩
    have gx : ((ao.set jx (some (V.ref z.2.1))).set jy (some (.str (wd z.2.2))))[jx]? = some (some (.ref z.2.1)) := by
      rw [List.getElem?_set_ne Y3.symm,List.getElem?_set_self (by omega)]
    have gy : ((ao.set jx (some (V.ref z.2.1))).set jy (some (.str (wd z.2.2))))[jy]? = some (some (.str (wd z.2.2))) := List.getElem?_set_self (by rw [List.length_set]; omega)
    have keep : ((ao.set jx (some (V.ref z.2.1))).set jy (some (.str (wd z.2.2)))).length = σ.length /\ ∀ q,q ≠ jx -> q ≠ jy -> ((ao.set jx (some (V.ref z.2.1))).set jy (some (.str (wd z.2.2))))[q]? = σ[q]? := ⟨by rw [List.length_set,List.length_set]; exact le,fun q h1 h2 => by rw [List.getElem?_set_ne h2.symm,List.getElem?_set_ne h1.symm]; exact hq q h1 h2⟩
    obtain ⟨τ,Y7,Y8⟩ := hc z.2.2 (zL z zm)
    refine ⟨τ,Y7,Y8 _ Hc Hc _ (ai.refl _) (hr z.2.2 Hc _ z.2.1 gx gy ⟨z.2.1,_,rfl,aD.of Az,sW z.2.2⟩) fun G1 H1 rJ => ja ?_⟩
    have h1 := rJ.h _ _ Az
    refine ⟨_,gx,.inl ⟨rfl,_,aD.of h1⟩,z.2.1,_,_,rfl,rfl,h1,by rw [List.length_map]; exact hz _ (zL z zm),keep,(md.trans (.same rJ.h)).trans (.upd (List.mem_map_of_mem (f := (·.2.1)) zm)),fun m z' cG => ?_⟩
    by_cases e : m = i
    · subst e
      rw [uO] at cG
      cases cG
      rw [ck,if_pos (Nat.lt_succ_self _),List.map_append]; rfl
    · have ne : z'.2.1 ≠ z.2.1 := fun q => by
        have g1 : (zs.map (·.2.1))[m]? = some z'.2.1 := by rw [List.getElem?_map,cG]; rfl
        have g2 : (zs.map (·.2.1))[i]? = some z'.2.1 := by rw [List.getElem?_map,uO,q]; rfl
        obtain ⟨q1,q2⟩ := List.getElem?_eq_some_iff.mp g1
        obtain ⟨q3,q4⟩ := List.getElem?_eq_some_iff.mp g2
        exact e ((List.getElem_inj nb).mp (q2.trans q4.symm))
      rw [aP ne,rJ.h _ _ (hj m z' cG)]
      by_cases lt : m < i
      · rw [if_pos lt,if_pos (by omega)]
      · rw [if_neg lt,if_neg (by omega)]
  · rintro ao Hc ⟨⟨le,hq⟩,md,hj⟩
    rw [List.length_map] at hj
    have all : ∀ z ∈ zs,Hc z.2.1 = some (.lst ((z.2.2 ++ [0]).map V.int)) := fun z hz => by
      obtain ⟨m,hm⟩ := List.getElem?_of_mem hz
      have := hj m z hm
      rw [if_pos (List.getElem?_eq_some_iff.mp hm).1] at this
      exact this
    have Y9 : Md (b :: zs.flatMap fun z => [z.1,z.2.1]) H Hc := md.sub fun x hx => .tail _ ((o9 zs).mem_iff.mpr (List.mem_append_right _ hx))
    have ot : Ow F.K G Hc (.ow (L.map fun o => .tp [aM (o ++ [0]),tx (wd o)])) (.ref b) (b :: zs.flatMap fun z => [z.1,z.2.1]) := by
      rw [<- eL,List.map_map]
      exact ⟨b,_,_,rfl,md b _ bz hb,Fl (fun z hz => md z.1 _ (tz z hz) (ht z hz)) all,rfl⟩
    have Za : ao = (σ.set jx (ao[jx]?.getD none)).set jy (ao[jy]?.getD none) := by
      refine List.ext_getElem? fun q => ?_
      by_cases e1 : q = jy
      · subst e1
        rw [List.getElem?_set_self (by rw [List.length_set]; exact ly),List.getElem?_eq_getElem (by omega)]; rfl
      · rw [List.getElem?_set_ne (fun z => e1 z.symm)]
        by_cases e2 : q = jx
        · subst e2
          rw [List.getElem?_set_self lx,List.getElem?_eq_getElem (by omega)]; rfl
        · rw [List.getElem?_set_ne (fun z => e2 z.symm),hq q e2 e1]
    rw [Za]
    exact k _ G _ (((sw _ _ Y9 ot).oe (by rw [List.getElem?_set_ne Y4]; exact hx)).oe (by rw [List.getElem?_set_ne Y5]; exact hy))
theorem OV {ι : Type} {F : aU ι} {ρ : En} {e : Expr} {es : List Expr} {ts : List Tr} {t : Tr} {pos : Pos} {k : Nat} {f : Addr} {fd : FuncData} {ps : List Str} {R : List Dv -> Tr -> Prop} {x kn : Str} {s : Str} {g : List Value -> List Value -> List Value} {gV : List V -> List V -> List V} (Fn : Kn F.P F.w F.K F.mg F.base aq k x f fd ps (spT F.K R)) (B : pW F.K fd ps [kn] g gV) (lP : ∀ vs : List V,vs.length = ts.length -> gV vs [.str s] = vs ++ [.str s]) (hk : k <= F.room) (ha : fK F (e :: es) ρ ts) (hR : R (cJ ts ++ [ds s]) t) {p' p2 p3 : Pos} {j : Nat} (hg : ∀ i,Gl (F.cx i) x := by intro _; rfl) (dQ : (x == ("__debug__" : Str)) = false := by decide)
    (he : ∀ i,starEach (e :: es) (F.cx i).env = (false,eval e (F.cx i).env) :: starEach es (F.cx i).env := by intro _; rfl) (kT : ∀ i,(backToKw pos (keywordEach [⟨some kn,.Constant (.str s) j p2,p3⟩] (F.cx i).env)).all (·.1.isSome) = true := by intro _; rfl) (qS : ∀ i,(backToKw pos (keywordEach [⟨some kn,.Constant (.str s) j p2,p3⟩] (F.cx i).env)).filterMap (·.1) = [kn] := by intro _; rfl)
    (dD : ∀ i,((backTo pos (starEach (e :: es) (F.cx i).env)).any (·.1) || (backToKw pos (keywordEach [⟨some kn,.Constant (.str s) j p2,p3⟩] (F.cx i).env)).any (·.1.isNone)) = false := by intro _; rfl) : Ev F (.Call (.Name x p') (e :: es) [⟨some kn,.Constant (.str s) j p2,p3⟩] pos) ρ t := by
  obtain ⟨τ,y,z⟩ := ha.use
  refine ⟨Fv (spT F.K R) gV E0 τ (bt (tC (.str s)) cm),fun i => ?_,fun σ G H Q s' rr k => z σ G H _ s' rr fun vs G1 H1 s1 hx => ?_⟩
  · have jn : Kn (F.cx i).prog (F.cx i).w (F.cx i).K (F.cx i).mg (F.cx i).base aq k x f fd ps (spT F.K R) := by
      rw [F.hP i,F.hw i,F.hK i,F.hm i,F.hb i]
      exact Fn
    exact N0 jn.ok ((F.hr i).mono hk) (hg i) jn.zU jn.kp (by rw [F.hK i]; exact B) x9 (y i) (O3 Fm QV) (kT i) (qS i) dQ (he i) (dD i)
  · show spT F.K R (gV vs [.str s]) H1 Q E0
    have h2 : aI F.K G1 [ds s] [.str s] := ⟨_,_,rfl,⟨rfl,rfl⟩,rfl⟩
    have hl : vs.length = ts.length := by
      have e1 : ∀ {dd : List Dv} {vs : List V},aI F.K G1 dd vs -> vs.length = dd.length := by
        intro dd
        induction dd with
        | nil => intro vs h; have h' : vs = [] := h; subst h'; rfl
        | cons d dd ih => intro vs ⟨x,r,h1,h2,h3⟩; subst h1; rw [List.length_cons,List.length_cons,ih h3]
      have e2 : ∀ ts : List Tr,(cJ ts).length = ts.length := by
        intro ts
        induction ts with
        | nil => rfl
        | cons a ts ih => show (er a :: cJ ts).length = _; rw [List.length_cons,List.length_cons,ih]
      rw [e1 hx,e2]
    rw [lP vs hl]
    exact ⟨G1,_,t,s1.s,E7 h2 hx,hR,k.step s1⟩
end
end bw
namespace bw
open PySem L2 dI
section
variable {P : Program} {w : World} {K : PySem.W.Frag} {mg : Str -> Option Value} {base : Heap}
def gK : List Value -> List Value -> List Value := fun us ws => if us.length = 2 /\ ws.length = 1 then us ++ ws else []
def rO : List V -> List V -> List V := fun us ws => if us.length = 2 /\ ws.length = 1 then us ++ ws else []
theorem RQ {vs : List V} {us : List Value} {zs : List V} {ws : List Value} (h1 : Vals vs us) (h2 : Vals zs ws) : Vals (rO vs zs) (gK us ws) := by
  unfold gK rO
  rw [<- h1.length,<- h2.length]
  split
  · exact h1.append h2
  · exact .nil
theorem GI (c : List Int) (os : List (List Int)) (a : Int) (L : List (List Int)) : er (lr c os a L) = jU c os a L := by
  rw [jC]
  refine congrArg Dv.lst (List.map_congr_left fun o _ => ?_)
  show Dv.tup [er _,_] = Dv.tup [_,_]
  rw [dN]; rfl
theorem RR (c : List Int) (os : List (List Int)) (a : Int) (L : List (List Int)) : fA (jU c os a L) = true := xh (fun o => by
  show (fA (dis o) && (true && true)) = true
  rw [sI]; rfl) L
theorem RT (c : List Int) (os : List (List Int)) (a : Int) (L : List (List Int)) : cS (jU c os a L) <= 50 := Nat.le_trans (sJ (n := 2) fun d hd => by
  obtain ⟨o,_,rfl⟩ := List.mem_map.mp hd
  show cS (.lst [dis o,ds (cZ c os a o)]) <= 2
  exact sJ (n := 1) fun d hd => by
    rcases List.mem_cons.mp hd with rfl | hd
    · exact pK o
    · rw [List.mem_singleton.mp hd]; exact Nat.zero_le _) (by decide)
theorem SA (t1 t2 : List Int) : decide (V.str (kc t1 t2) = V.str "no") = false := by
  unfold kc
  split <;> decide +kernel
abbrev Zb : List Str := ["_law_script", "_law_cell", "_law_table_here", "_law_kept", "_law_asker", "_law_due_here", "_law_told", "_law_order_here", "_law_word_here"]
abbrev i5 : Stmt := top 65
theorem iZ : bh Zb ["_law_script"] (ag i5) := ⟨rfl,rfl,rfl,by decide +kernel,rfl,by decide +kernel,by decide +kernel⟩
theorem QF (th : Nat) (ns : List Int) (st most : Int) (h1 : 1 <= most) : ((dw th ns st most).length : Int) <= most := by
  unfold dw jf
  rw [List.length_map,List.length_range]
  have a := Int.emod_nonneg (bH ns (st + (0 + ((0 : Nat) : Int))) / 7) (show most ≠ 0 by omega)
  have b := Int.emod_lt_of_pos (bH ns (st + (0 + ((0 : Nat) : Int))) / 7) (show 0 < most by omega)
  omega
theorem RU {f f1 f2 f3 f4 : Addr} {fd aW fd2 gj ke : FuncData} {k : Nat} (F : bu K "law" "law" i5 f fd) (T : Txt mg) (vE : Kn P w K mg base aq (k + 1) "_law_cell_at" f1 aW ["_law_script", "_law_k"] (spT K yo)) (Mg : Kn P w K mg base aq (k + 2) "_law_table" f2 fd2 ["_law_script", "_law_start", "_law_things", "_law_askers"] (spT K Gy)) (MY : Kn P w K mg base aq (k + 4) "_law_due" f3 gj ["_law_table_here", "_law_asker"] (spT K Iv)) (GJ : Kn P w K mg base aq (k + 9) "lies" f4 ke ["table", "asker", "way"] (spT K yq)) (B1 : pW K ke ["table", "asker", "way"] ["way"] gK rO) : aR P w K mg base aq (k + 10) f fd ["_law_script"] (spT K Ia) := by
  refine bG F.d iZ (fun dd t h => by obtain ⟨_,_,rfl,_⟩ := h; rfl) fun dd t h => ?_
  obtain ⟨ns,g9,rfl,rfl⟩ := h
  refine ⟨_,.inl rfl,?_⟩
  have big : 1000 < sizeLine := by decide
  refine ak (aH 1 (Ev.s (aY vE (by show k + 1 <= k + 9; omega) (ah (ae 0 rfl) (ah au av)) ⟨ns,13,by decide,rfl,rfl⟩)) (fun _ => iZ.nd)) ?_
  generalize bH ns 13 = y
  obtain ⟨th,most,t4,m1,m4,jv,at2⟩ : ∃ (th : Nat) (most : Int),th <= 4 /\ 1 <= most /\ most <= 4 /\ aZ [di 3,di 4] (if decide (y % 8 = 7) = true then 1 else 0) = some (di (th : Int)) /\ aZ [di 4,di 2] (if decide (y % 8 = 7) = true then 1 else 0) = some (di most) := by
    by_cases h : y % 8 = 7
    · exact ⟨4,2,by decide,by decide,by decide,by rw [if_pos (decide_eq_true h)]; rfl,by rw [if_pos (decide_eq_true h)]; rfl⟩
    · exact ⟨3,4,by decide,by decide,by decide,by rw [if_neg (by rw [decide_eq_false h]; exact Bool.false_ne_true)]; rfl,by rw [if_neg (by rw [decide_eq_false h]; exact Bool.false_ne_true)]; rfl⟩
  refine ak (aH 2 (Ev.s (aY Mg (by show k + 2 <= k + 9; omega) (ah (ae 0 rfl) (ah au (ah (cw (xs := [di 3,di 4]) (bX (ah au (ah au av)) (by show 2 <= sizeLine; decide)) (EV T.yj (Hj (eS (ae 1 rfl) au (by decide)) au)) rfl jv) (ah (cw (xs := [di 4,di 2]) (bX (ah au (ah au av)) (by show 2 <= sizeLine; decide)) (EV T.yj (Hj (eS (ae 1 rfl) au (by decide)) au)) rfl at2) av)))) ⟨th,ns,0,most,by omega,by decide,m1,by omega,rfl,rfl⟩)) (fun _ => iZ.nd)) ?_
  have ok : cV (iu th ns 0) (dw th ns 0 most) := RN (by omega) m1 (by omega)
  have c4 : (iu th ns 0).length <= 4 := by rw [vV (by omega)]; exact Nat.le_trans (Em th ns 0) t4
  have o5 : (dw th ns 0 most).length <= 5 := by have := QF th ns 0 most m1; omega
  generalize iu th ns 0 = cs at ok c4
  generalize dw th ns 0 most = os at ok o5
  have o1 := ok.o1
  have jS : (((os.map dis).length : Nat) : Int) = os.length := by rw [List.length_map]
  have Zc : er (.tp [.ow ((cs.map di).map Tr.fz),.ow (os.map aM)]) = aX cs os := by rw [jH]; exact GF cs os
  refine ak (aH 3 (Ev.s (Ev.as (d := aX cs os) (sT (ah (jF T.fP (bO (ae 2 rfl) au rfl (nN cs os)) (.inl rfl)) (ah (kF (own := ["_law_one"]) (fr := []) os dis aM (fun i => lcs ⟨rfl,rfl,by decide +kernel,by decide +kernel,by decide +kernel,by decide +kernel⟩) (cT (bO (ae 2 rfl) au rfl (nM cs os)) rfl) (bJ 0 (fun _ => by show List.Nodup (["_law_one"] : List Str); decide)) (by decide) (by omega) (fun o ho => ⟨_,rfl,by exact Ev.to (jF T.fP (ae 0 rfl) (.inl rfl)) (by rw [jH])⟩) (fun dd => by cases dd <;> rfl)) av)) (by show 2 <= sizeLine; decide)) Zc)) (fun _ => iZ.nd)) ?_
  obtain ⟨a,ea⟩ : ∃ a,a = y / 8 % (os.length : Int) := ⟨_,rfl⟩
  have a0 : 0 <= a := by rw [ea]; exact Int.emod_nonneg _ (by omega)
  have a1 : a < os.length := by rw [ea]; exact Int.emod_lt_of_pos _ (by omega)
  refine ak (aH 4 (cg.to (t' := ti a) (Ev.s (eS (iw (ae 1 rfl) au ⟨by decide,ip (by decide) (by decide)⟩) (cL T.cC (bO (ae 2 rfl) au rfl (nM cs os)) (.inl rfl)) (by rw [jS]; omega))) (by rw [jS,ea])) (fun _ => iZ.nd)) ?_
  refine ak (aH 5 (Ev.s (aY MY (by show k + 4 <= k + 9; omega) (ah (ae 3 rfl) (ah (ae 4 rfl) av)) ⟨cs,os,a,ok,c4,o5,a0,a1,rfl,rfl⟩)) (fun _ => iZ.nd)) ?_
  have lvl := ku cs.length c4 cs.length (Nat.le_refl _)
  have oI := yp cs.length c4
  have ll : ∀ o ∈ b0 cs.length cs.length,o.length < sizeLine := fun o ho => by
    have := Dt (oI o ho).1 (oI o ho).2
    omega
  have rl : yq [aX cs os,di a,ds "turns"] (lr cs os a (b0 cs.length cs.length)) := ⟨cs,os,a,ok,c4,o5,a0,a1,rfl,rfl⟩
  generalize b0 cs.length cs.length = L at lvl ll rl
  refine ak (du (fm.to (q := false) (Et.s (sR (Ev.as (d := .lst []) (p9 (own := ["_law_row"]) (fr := []) L (fun o => .tup [dis o,ds (cZ cs os a o)]) (fun o => decide (V.str (cZ cs os a o) = V.str "no")) (fun o => .fz (.tup [dis o,ds (cZ cs os a o)])) (fun i => lcs ⟨rfl,rfl,by decide +kernel,by decide +kernel,by decide +kernel,by decide +kernel⟩) (cT (ae 5 rfl) rfl) (bJ 0 (fun _ => by show List.Nodup (["_law_row"] : List Str); decide)) (by decide) (by omega) (fun o ho => ⟨_,rfl,by
      have aw : aZ [dis o,ds (cZ cs os a o)] 1 = some (ds (cZ cs os a o)) := rfl
      exact iX (FO (bO (ae 0 rfl) au rfl aw) iV rfl),fun _ => by exact ae 0 rfl⟩) (fun dd => by cases dd <;> rfl)) (by rw [List.filter_eq_nil_iff.mpr fun o _ h => by rw [show cZ cs os a o = kc _ _ from rfl,SA] at h; cases h]; rfl)) (bX av (Nat.zero_le _)) (.inl ⟨_,_,rfl,rfl⟩) (by decide))) rfl) rfl) ?_
  refine ak (aH 6 (Ev.s (aY GJ (Nat.le_refl _) (ah (ae 2 rfl) (ah (ae 4 rfl) (ah iV av))) rl)) (fun _ => iZ.nd)) ?_
  have et : bR (aX cs os) (aX cs os) = true := pq (Py _ _)
  have J9 : cS (aX cs os) <= 50 := Nat.le_trans (Pz _ _) (by decide)
  have Ka : bR (er (lr cs os a L)) (jU cs os a L) = true := by rw [GI]; exact pq (RR ..)
  have Kb : cS (er (lr cs os a L)) <= 50 := by rw [GI]; exact RT ..
  refine ak (du (fm.to (q := false) (Et.pk (Ew.et (kL (pY (gI (pZ T.oP T.fP pF (ae 6 rfl) (by with_unfolding_all rfl)))) fun _ => (kL (sR (ae 6 rfl) (ae 5 rfl) (.inl ⟨_,_,rfl,rfl⟩) Kb) fun _ => (nD (sR (ae 2 rfl) (ae 3 rfl) (.inr ⟨_,_,rfl,rfl⟩) J9)))))) (by
    show (!true || (!bR (er (lr cs os a L)) (jU cs os a L) || !bR (aX cs os) (aX cs os))) = false
    rw [Ka,et]; rfl)) rfl) ?_
  refine ak (NV 6 7 8 (wd := cZ cs os a) rfl rfl rfl (by decide) (fun o => [none,none,none,none,none,none,none,some (.fz (dis o)),some (tx (cZ cs os a o))]) (fun o ho => Et.to (Ew.et (kL (pY (gI (pZ T.oP T.fP pF (ae 7 rfl) (by with_unfolding_all rfl)))) fun _ => (nD (pY (gI (pZ T.oP T.Sq Q4 (ae 8 rfl) (by with_unfolding_all rfl))))))) rfl) (fun o G σ p h7 h8 hv q d hq => ?_) ll (fun i => pV (nZ rfl) rfl (pB (pv 6)) (Fq rfl (sf (iS (i := 7) iZ.nd rfl (by first | exact Or.inl rfl | exact Or.inr rfl)) (sf (iS (i := 8) iZ.nd rfl (by first | exact Or.inl rfl | exact Or.inr rfl)) Ey))) (il (x4 (yd i) rW Ex) (jE (kx (jM PySem.F.plainAttrs_list PySem.F.slot_list_append PySem.F.type_list_append mY (pv 7) (bB sN cB))))))) ?_
  · match q,hq with
    | 7,hq => cases hq; exact ⟨_,h7,hv⟩
    | 8,hq => cases hq; exact ⟨_,h8,⟨rfl,rfl⟩⟩
  exact aN (cf (Ev.s (Ev.to (FG (p := true) (q := true) (Ev.to (FD (OV GJ B1 (fun vs hl => by unfold rO; rw [if_pos ⟨hl,rfl⟩]) (Nat.le_refl _) (ah (ae 2 rfl) (ah (ae 4 rfl) av)) rl) (ae 5 rfl) (.inl ⟨_,_,rfl,rfl⟩) Kb) (show tb (bR (er (lr cs os a L)) (jU cs os a L)) = tb true by rw [Ka])) fun _ => (sS (Ev.to (FD (ae 2 rfl) (ae 3 rfl) (.inr ⟨_,_,rfl,rfl⟩) J9) (show tb (bR (aX cs os) (aX cs os)) = tb true by rw [et])))) rfl)))
end
end bw
namespace bw
open PySem L2
theorem kg {α : Type} {us : List α} (h : us.length = 1) : ∃ a0,us = [a0] := by
  rcases us with _ | ⟨a0,us⟩; · cases h
  rcases us with _ | ⟨b,us⟩
  · exact ⟨a0,rfl⟩
  · simp at h
theorem e7 {α : Type} {us : List α} (h : us.length = 2) : ∃ a0 a1,us = [a0,a1] := by
  rcases us with _ | ⟨a0,us⟩; · cases h
  rcases us with _ | ⟨a1,us⟩; · cases h
  rcases us with _ | ⟨b,us⟩
  · exact ⟨a0,a1,rfl⟩
  · simp at h
theorem rP {α : Type} {us : List α} (h : us.length = 3) : ∃ a0 a1 a2,us = [a0,a1,a2] := by
  rcases us with _ | ⟨a0,us⟩; · cases h
  rcases us with _ | ⟨a1,us⟩; · cases h
  rcases us with _ | ⟨a2,us⟩; · cases h
  rcases us with _ | ⟨b,us⟩
  · exact ⟨a0,a1,a2,rfl⟩
  · simp at h
theorem uP {α : Type} {us : List α} (h : us.length = 4) : ∃ a0 a1 a2 a3,us = [a0,a1,a2,a3] := by
  rcases us with _ | ⟨a0,us⟩; · cases h
  rcases us with _ | ⟨a1,us⟩; · cases h
  rcases us with _ | ⟨a2,us⟩; · cases h
  rcases us with _ | ⟨a3,us⟩; · cases h
  rcases us with _ | ⟨b,us⟩
  · exact ⟨a0,a1,a2,a3,rfl⟩
  · simp at h
theorem all_mk {l : PySem.W.OpenLaw} {w : World} {K : PySem.W.Frag} {h : Heap} {mg : Str -> Option Value} {fa : Addr} (X : K.In h) (G : h.Ns mainGlobals mg) (Zd : mg "law" = some (.ref fa))
    {f1 : Addr} {Ze Zf : Option Addr} {Zg : Array (Option Value)} {Zh Zi Zj Zk Kc Zm : Value}
    {f2 : Addr} {Zn Zo : Option Addr} {zV : Array (Option Value)} {Zq Zr Zt Zu Ke Zv : Value}
    {f3 : Addr} {Zw AA : Option Addr} {Zx : Array (Option Value)} {Zy AB AD AF uQ AG : Value}
    {uR : Addr} {Zz : Value} {ZA : Option Addr} {ZC : Nat} {ZD : Array (Option Value)} {Kf : Tok}
    {f4 : Addr} {ZE ZF : Option Addr} {ZG : Array (Option Value)} {ZH ZI ZJ ZK Kg ZL : Value}
    {f5 : Addr} {ZM ZN : Option Addr} {ZO : Array (Option Value)} {ZP ZQ ZR ZS Kh ZT : Value}
    {f6 : Addr} {ZU ZV : Option Addr} {ZW : Array (Option Value)} {ZX ZY ZZ Z0 Ki Z1 : Value}
    {f7 : Addr} {Z2 Z3 : Option Addr} {Z4 : Array (Option Value)} {Z5 Z6 Z7 Z8 uJ Z9 : Value}
    {f8 : Addr} {od8 an8 : Option Addr} {sl8 : Array (Option Value)} {oc8 kV8 dc8 pm8 Kj ct8 : Value}
    {f9 : Addr} {od9 an9 : Option Addr} {sl9 : Array (Option Value)} {oc9 kV9 dc9 pm9 Kk ct9 : Value}
    {AH : Addr} {Tj Tn : Option Addr} {To : Array (Option Value)} {Tp Tq Ts Tt Iw Tu : Value}
    {AI : Addr} {Tv Tw : Option Addr} {Tx : Array (Option Value)} {Tz TB TC TF Iy TH : Value}
    {AJ : Addr} {TJ TK : Option Addr} {TL : Array (Option Value)} {TN TQ TR TU Iz TV : Value}
    {AK : Addr} {TX TY : Option Addr} {TZ : Array (Option Value)} {T1 T2 T3 T4 IA T5 : Value}
    {AO : Addr} {T6 T7 : Option Addr} {T8 : Array (Option Value)} {T9 Ua Ub Uc IB Ud : Value}
    {AQ : Addr} {Ue Ug : Option Addr} {Uh : Array (Option Value)} {Ui Uj Uk Ul IC Um : Value}
    {AR : Addr} {Uo Up : Option Addr} {Uq : Array (Option Value)} {Ur Us Ut Uu IE Uv : Value}
    {AU : Addr} {Uw Ux : Option Addr} {Uy : Array (Option Value)} {Uz UA UB UC IG UD : Value}
    {AV : Addr} {UE UG : Option Addr} {UH : Array (Option Value)} {UI UJ UK UL IH UM : Value}
    {AW : Addr} {UN UO : Option Addr} {UP : Array (Option Value)} {UQ UR UT UU II UW : Value}
    {AX : Addr} {UX UY : Option Addr} {UZ : Array (Option Value)} {U0 U1 U2 U3 IJ U4 : Value}
    {AY : Addr} {U5 U6 : Option Addr} {U7 : Array (Option Value)} {U8 U9 Va Vb IK Vc : Value}
    {AZ : Addr} {Vd Ve : Option Addr} {Vf : Array (Option Value)} {Vg Vh Vi Vj IL Vk : Value}
    {A0 : Addr} {Vl Vm : Option Addr} {Vn : Array (Option Value)} {Vo Vp Vq Vr IM Vs : Value}
    {A3 : Addr} {Vt Vu : Option Addr} {Vv : Array (Option Value)} {Vw Vx Vy Vz IP VA : Value}
    {A4 : Addr} {VB tR : Option Addr} {VC : Array (Option Value)} {VD tS tT tU qK tV : Value}
    {qL : Addr} {VE : Value} {VF : Option Addr} {VG : Nat} {VH : Array (Option Value)} {IQ : Tok}
    {A5 : Addr} {VI VJ : Option Addr} {VL : Array (Option Value)} {VM VN VO VP IT VQ : Value}
    {A6 : Addr} {VR VS : Option Addr} {VU : Array (Option Value)} {VV VW VX VY IU VZ : Value}
    {A7 : Addr} {V0 V1 : Option Addr} {V2 : Array (Option Value)} {V3 V4 V5 V6 IV V7 : Value}
    {A8 : Addr} {V8 V9 : Option Addr} {Wa : Array (Option Value)} {Wb Wc Wd We IW Wf : Value}
    {A9 : Addr} {Wg Wh : Option Addr} {Wi : Array (Option Value)} {Wj Wk Wl Wm IX Wn : Value}
    {Ba : Addr} {Wo Wq : Option Addr} {Wr : Array (Option Value)} {Ws Wt Wu Wv IY Ww : Value}
    {Bb : Addr} {Wx Wy : Option Addr} {Wz : Array (Option Value)} {WB WC WD WG IZ WH : Value}
    {Bc : Addr} {WK WL : Option Addr} {WM : Array (Option Value)} {WN WO WQ WR I0 WT : Value}
    {Bd : Addr} {WU WV : Option Addr} {WW : Array (Option Value)} {WX WY WZ W0 Ja W2 : Value}
    {Be : Addr} {W3 W4 : Option Addr} {W5 : Array (Option Value)} {W6 W7 W8 W9 Jb Xa : Value}
    {Bf : Addr} {Xb Jc : Option Addr} {Xc : Array (Option Value)} {Xd Jd Je Jf zk Jg : Value}
    {gt1 : Tok} {gt2 : Tok} {gt3 : Tok} {gt4 : Tok}
    (a1 : PySem.W.nsIn K mainGlobals "is_whole" = some (some (.ref f1)))
    (l1 : K.lookup f1 = some ⟨Zh,Ze,.func (PySem.W.fnOf "is_whole" "is_whole" (aV mS) (aQ mS) (ag mS) .none Zi Zj Zk Zf Kc Zm),Zg⟩)
    (c1 : PySem.W.codeIn K Kc "is_whole" = true)
    (k1 : PySem.W.keepIn K (.ref f1) = true)
    (a2 : PySem.W.nsIn K mainGlobals "common_part" = some (some (.ref f2)))
    (l2 : K.lookup f2 = some ⟨Zq,Zn,.func (PySem.W.fnOf "common_part" "common_part" (aV mv) (aQ mv) (ag mv) .none Zr Zt Zu Zo Ke Zv),zV⟩)
    (c2 : PySem.W.codeIn K Ke "common_part" = true)
    (k2 : PySem.W.keepIn K (.ref f2) = true)
    (a3 : PySem.W.nsIn K mainGlobals "fraction" = some (some (.ref f3)))
    (l3 : K.lookup f3 = some ⟨Zy,Zw,.func (PySem.W.fnOf "fraction" "fraction" (aV gk) (aQ gk) (ag gk) (.ref uR) AB AD AF AA uQ AG),Zx⟩)
    (d3 : K.lookup uR = some ⟨Zz,ZA,.seq #[.int 1 Kf] ZC,ZD⟩)
    (c3 : PySem.W.codeIn K uQ "fraction" = true)
    (k3 : PySem.W.keepIn K (.ref f3) = true)
    (a4 : PySem.W.nsIn K mainGlobals "plus" = some (some (.ref f4)))
    (l4 : K.lookup f4 = some ⟨ZH,ZE,.func (PySem.W.fnOf "plus" "plus" (aV nK) (aQ nK) (ag nK) .none ZI ZJ ZK ZF Kg ZL),ZG⟩)
    (c4 : PySem.W.codeIn K Kg "plus" = true)
    (k4 : PySem.W.keepIn K (.ref f4) = true)
    (a5 : PySem.W.nsIn K mainGlobals "under" = some (some (.ref f5)))
    (l5 : K.lookup f5 = some ⟨ZP,ZM,.func (PySem.W.fnOf "under" "under" (aV nu) (aQ nu) (ag nu) .none ZQ ZR ZS ZN Kh ZT),ZO⟩)
    (c5 : PySem.W.codeIn K Kh "under" = true)
    (k5 : PySem.W.keepIn K (.ref f5) = true)
    (a6 : PySem.W.nsIn K mainGlobals "sum_of" = some (some (.ref f6)))
    (l6 : K.lookup f6 = some ⟨ZX,ZU,.func (PySem.W.fnOf "sum_of" "sum_of" (aV nh) (aQ nh) (ag nh) .none ZY ZZ Z0 ZV Ki Z1),ZW⟩)
    (c6 : PySem.W.codeIn K Ki "sum_of" = true)
    (k6 : PySem.W.keepIn K (.ref f6) = true)
    (a7 : PySem.W.nsIn K mainGlobals "check_orders" = some (some (.ref f7)))
    (l7 : K.lookup f7 = some ⟨Z5,Z2,.func (PySem.W.fnOf "check_orders" "check_orders" (aV mn) (aQ mn) (ag mn) .none Z6 Z7 Z8 Z3 uJ Z9),Z4⟩)
    (c7 : PySem.W.codeIn K uJ "check_orders" = true)
    (k7 : PySem.W.keepIn K (.ref f7) = true)
    (a8 : PySem.W.nsIn K mainGlobals "table_of" = some (some (.ref f8)))
    (l8 : K.lookup f8 = some ⟨oc8,od8,.func (PySem.W.fnOf "table_of" "table_of" (aV mU) (aQ mU) (ag mU) .none kV8 dc8 pm8 an8 Kj ct8),sl8⟩)
    (c8 : PySem.W.codeIn K Kj "table_of" = true)
    (k8 : PySem.W.keepIn K (.ref f8) = true)
    (a9 : PySem.W.nsIn K mainGlobals "full_order" = some (some (.ref f9)))
    (l9 : K.lookup f9 = some ⟨oc9,od9,.func (PySem.W.fnOf "full_order" "full_order" (aV mC) (aQ mC) (ag mC) .none kV9 dc9 pm9 an9 Kk ct9),sl9⟩)
    (c9 : PySem.W.codeIn K Kk "full_order" = true)
    (k9 : PySem.W.keepIn K (.ref f9) = true)
    (lN : PySem.W.nsIn K mainGlobals "first_left" = some (some (.ref AH)))
    (l10 : K.lookup AH = some ⟨Tp,Tj,.func (PySem.W.fnOf "first_left" "first_left" (aV mE) (aQ mE) (ag mE) .none Tq Ts Tt Tn Iw Tu),To⟩)
    (Bg : PySem.W.codeIn K Iw "first_left" = true)
    (uU : PySem.W.keepIn K (.ref AH) = true)
    (Bh : PySem.W.nsIn K mainGlobals "sums" = some (some (.ref AI)))
    (Bi : K.lookup AI = some ⟨Tz,Tv,.func (PySem.W.fnOf "sums" "sums" (aV nL) (aQ nL) (ag nL) .none TB TC TF Tw Iy TH),Tx⟩)
    (Bj : PySem.W.codeIn K Iy "sums" = true)
    (uV : PySem.W.keepIn K (.ref AI) = true)
    (Bk : PySem.W.nsIn K mainGlobals "as_good" = some (some (.ref AJ)))
    (Bl : K.lookup AJ = some ⟨TN,TJ,.func (PySem.W.fnOf "as_good" "as_good" (aV m5) (aQ m5) (ag m5) .none TQ TR TU TK Iz TV),TL⟩)
    (Bm : PySem.W.codeIn K Iz "as_good" = true)
    (uW : PySem.W.keepIn K (.ref AJ) = true)
    (Bo : PySem.W.nsIn K mainGlobals "weight_of" = some (some (.ref AK)))
    (Bp : K.lookup AK = some ⟨T1,TX,.func (PySem.W.fnOf "weight_of" "weight_of" (aV mK) (aQ mK) (ag mK) .none T2 T3 T4 TY IA T5),TZ⟩)
    (Bq : PySem.W.codeIn K IA "weight_of" = true)
    (uX : PySem.W.keepIn K (.ref AK) = true)
    (Br : PySem.W.nsIn K mainGlobals "shares_of" = some (some (.ref AO)))
    (Bs : K.lookup AO = some ⟨T9,T6,.func (PySem.W.fnOf "shares_of" "shares_of" (aV mL) (aQ mL) (ag mL) .none Ua Ub Uc T7 IB Ud),T8⟩)
    (Bt : PySem.W.codeIn K IB "shares_of" = true)
    (uY : PySem.W.keepIn K (.ref AO) = true)
    (Bu : PySem.W.nsIn K mainGlobals "deal_by" = some (some (.ref AQ)))
    (Bv : K.lookup AQ = some ⟨Ui,Ue,.func (PySem.W.fnOf "deal_by" "deal_by" (aV m3) (aQ m3) (ag m3) .none Uj Uk Ul Ug IC Um),Uh⟩)
    (Bw : PySem.W.codeIn K IC "deal_by" = true)
    (uZ : PySem.W.keepIn K (.ref AQ) = true)
    (Bx : PySem.W.nsIn K mainGlobals "longer" = some (some (.ref AR)))
    (By : K.lookup AR = some ⟨Ur,Uo,.func (PySem.W.fnOf "longer" "longer" (aV nc) (aQ nc) (ag nc) .none Us Ut Uu Up IE Uv),Uq⟩)
    (c16 : PySem.W.codeIn K IE "longer" = true)
    (u3 : PySem.W.keepIn K (.ref AR) = true)
    (Bz : PySem.W.nsIn K mainGlobals "all_turns" = some (some (.ref AU)))
    (BA : K.lookup AU = some ⟨Uz,Uw,.func (PySem.W.fnOf "all_turns" "all_turns" (aV mJ) (aQ mJ) (ag mJ) .none UA UB UC Ux IG UD),Uy⟩)
    (BC : PySem.W.codeIn K IG "all_turns" = true)
    (u5 : PySem.W.keepIn K (.ref AU) = true)
    (BD : PySem.W.nsIn K mainGlobals "turn_mix" = some (some (.ref AV)))
    (BE : K.lookup AV = some ⟨UI,UE,.func (PySem.W.fnOf "turn_mix" "turn_mix" (aV cj) (aQ cj) (ag cj) .none UJ UK UL UG IH UM),UH⟩)
    (BF : PySem.W.codeIn K IH "turn_mix" = true)
    (u9 : PySem.W.keepIn K (.ref AV) = true)
    (BG : PySem.W.nsIn K mainGlobals "turn_shares" = some (some (.ref AW)))
    (BH : K.lookup AW = some ⟨UQ,UN,.func (PySem.W.fnOf "turn_shares" "turn_shares" (aV mw) (aQ mw) (ag mw) .none UR UT UU UO II UW),UP⟩)
    (BI : PySem.W.codeIn K II "turn_shares" = true)
    (vd : PySem.W.keepIn K (.ref AW) = true)
    (BJ : PySem.W.nsIn K mainGlobals "check_asker" = some (some (.ref AX)))
    (BK : K.lookup AX = some ⟨U0,UX,.func (PySem.W.fnOf "check_asker" "check_asker" (aV mz) (aQ mz) (ag mz) .none U1 U2 U3 UY IJ U4),UZ⟩)
    (BL : PySem.W.codeIn K IJ "check_asker" = true)
    (ve : PySem.W.keepIn K (.ref AX) = true)
    (BM : PySem.W.nsIn K mainGlobals "told_otherwise" = some (some (.ref AY)))
    (BO : K.lookup AY = some ⟨U8,U5,.func (PySem.W.fnOf "told_otherwise" "told_otherwise" (aV mh) (aQ mh) (ag mh) .none U9 Va Vb U6 IK Vc),U7⟩)
    (BP : PySem.W.codeIn K IK "told_otherwise" = true)
    (vf : PySem.W.keepIn K (.ref AY) = true)
    (BQ : PySem.W.nsIn K mainGlobals "all_orders" = some (some (.ref AZ)))
    (BR : K.lookup AZ = some ⟨Vg,Vd,.func (PySem.W.fnOf "all_orders" "all_orders" (aV dc) (aQ dc) (ag dc) .none Vh Vi Vj Ve IL Vk),Vf⟩)
    (BU : PySem.W.codeIn K IL "all_orders" = true)
    (vg : PySem.W.keepIn K (.ref AZ) = true)
    (BV : PySem.W.nsIn K mainGlobals "row_at" = some (some (.ref A0)))
    (BW : K.lookup A0 = some ⟨Vo,Vl,.func (PySem.W.fnOf "row_at" "row_at" (aV ni) (aQ ni) (ag ni) .none Vp Vq Vr Vm IM Vs),Vn⟩)
    (BX : PySem.W.codeIn K IM "row_at" = true)
    (vh : PySem.W.keepIn K (.ref A0) = true)
    (BZ : PySem.W.nsIn K mainGlobals "word_for" = some (some (.ref A3)))
    (B3 : K.lookup A3 = some ⟨Vw,Vt,.func (PySem.W.fnOf "word_for" "word_for" (aV mV) (aQ mV) (ag mV) .none Vx Vy Vz Vu IP VA),Vv⟩)
    (B4 : PySem.W.codeIn K IP "word_for" = true)
    (vi : PySem.W.keepIn K (.ref A3) = true)
    (B5 : PySem.W.nsIn K mainGlobals "lies" = some (some (.ref A4)))
    (B6 : K.lookup A4 = some ⟨VD,VB,.func (PySem.W.fnOf "lies" "lies" (aV bq) (aQ bq) (ag bq) (.ref qL) tS tT tU tR qK tV),VC⟩)
    (rQ : K.lookup qL = some ⟨VE,VF,.seq #[.str "meal" IQ] VG,VH⟩)
    (B7 : PySem.W.codeIn K qK "lies" = true)
    (vj : PySem.W.keepIn K (.ref A4) = true)
    (B8 : PySem.W.nsIn K mainGlobals "_law_cell_at" = some (some (.ref A5)))
    (B9 : K.lookup A5 = some ⟨VM,VI,.func (PySem.W.fnOf "_law_cell_at" "_law_cell_at" (aV mq) (aQ mq) (ag mq) .none VN VO VP VJ IT VQ),VL⟩)
    (Ca : PySem.W.codeIn K IT "_law_cell_at" = true)
    (vk : PySem.W.keepIn K (.ref A5) = true)
    (Cb : PySem.W.nsIn K mainGlobals "_law_order" = some (some (.ref A6)))
    (Cd : K.lookup A6 = some ⟨VV,VR,.func (PySem.W.fnOf "_law_order" "_law_order" (aV mF) (aQ mF) (ag mF) .none VW VX VY VS IU VZ),VU⟩)
    (Ce : PySem.W.codeIn K IU "_law_order" = true)
    (vm : PySem.W.keepIn K (.ref A6) = true)
    (Cg : PySem.W.nsIn K mainGlobals "_law_table" = some (some (.ref A7)))
    (Ci : K.lookup A7 = some ⟨V3,V0,.func (PySem.W.fnOf "_law_table" "_law_table" (aV mG) (aQ mG) (ag mG) .none V4 V5 V6 V1 IV V7),V2⟩)
    (Cj : PySem.W.codeIn K IV "_law_table" = true)
    (vo : PySem.W.keepIn K (.ref A7) = true)
    (Ck : PySem.W.nsIn K mainGlobals "_law_full" = some (some (.ref A8)))
    (Cm : K.lookup A8 = some ⟨Wb,V8,.func (PySem.W.fnOf "_law_full" "_law_full" (aV mM) (aQ mM) (ag mM) .none Wc Wd We V9 IW Wf),Wa⟩)
    (Cp : PySem.W.codeIn K IW "_law_full" = true)
    (vp : PySem.W.keepIn K (.ref A8) = true)
    (Cq : PySem.W.nsIn K mainGlobals "_law_deal" = some (some (.ref A9)))
    (Cr : K.lookup A9 = some ⟨Wj,Wg,.func (PySem.W.fnOf "_law_deal" "_law_deal" (aV mN) (aQ mN) (ag mN) .none Wk Wl Wm Wh IX Wn),Wi⟩)
    (Ct : PySem.W.codeIn K IX "_law_deal" = true)
    (vq : PySem.W.keepIn K (.ref A9) = true)
    (Cu : PySem.W.nsIn K mainGlobals "_law_all" = some (some (.ref Ba)))
    (Cv : K.lookup Ba = some ⟨Ws,Wo,.func (PySem.W.fnOf "_law_all" "_law_all" (aV mW) (aQ mW) (ag mW) .none Wt Wu Wv Wq IY Ww),Wr⟩)
    (Cw : PySem.W.codeIn K IY "_law_all" = true)
    (vt : PySem.W.keepIn K (.ref Ba) = true)
    (Cy : PySem.W.nsIn K mainGlobals "_law_lists" = some (some (.ref Bb)))
    (Cz : K.lookup Bb = some ⟨WB,Wx,.func (PySem.W.fnOf "_law_lists" "_law_lists" (aV mH) (aQ mH) (ag mH) .none WC WD WG Wy IZ WH),Wz⟩)
    (CA : PySem.W.codeIn K IZ "_law_lists" = true)
    (vv : PySem.W.keepIn K (.ref Bb) = true)
    (CB : PySem.W.nsIn K mainGlobals "_law_totals" = some (some (.ref Bc)))
    (CC : K.lookup Bc = some ⟨WN,WK,.func (PySem.W.fnOf "_law_totals" "_law_totals" (aV mB) (aQ mB) (ag mB) .none WO WQ WR WL I0 WT),WM⟩)
    (CD : PySem.W.codeIn K I0 "_law_totals" = true)
    (vw : PySem.W.keepIn K (.ref Bc) = true)
    (CF : PySem.W.nsIn K mainGlobals "_law_word" = some (some (.ref Bd)))
    (CG : K.lookup Bd = some ⟨WX,WU,.func (PySem.W.fnOf "_law_word" "_law_word" (aV mP) (aQ mP) (ag mP) .none WY WZ W0 WV Ja W2),WW⟩)
    (CH : PySem.W.codeIn K Ja "_law_word" = true)
    (vz : PySem.W.keepIn K (.ref Bd) = true)
    (CI : PySem.W.nsIn K mainGlobals "_law_due" = some (some (.ref Be)))
    (CJ : K.lookup Be = some ⟨W6,W3,.func (PySem.W.fnOf "_law_due" "_law_due" (aV mX) (aQ mX) (ag mX) .none W7 W8 W9 W4 Jb Xa),W5⟩)
    (CK : PySem.W.codeIn K Jb "_law_due" = true)
    (vA : PySem.W.keepIn K (.ref Be) = true)
    (CL : PySem.W.nsIn K mainGlobals "law" = some (some (.ref Bf)))
    (CM : K.lookup Bf = some ⟨Xd,Xb,.func (PySem.W.fnOf "law" "law" (aV i5) (aQ i5) (ag i5) .none Jd Je Jf Jc zk Jg),Xc⟩)
    (CN : PySem.W.codeIn K zk "law" = true)
    (CO : PySem.W.keepIn K (.ref Bf) = true)
    (vK : PySem.W.nsIn K mainGlobals "isinstance" = some none)
    (yr : PySem.W.nsIn K mainGlobals "int" = some none)
    (xX : PySem.W.nsIn K mainGlobals "bool" = some none)
    (xY : PySem.W.nsIn K mainGlobals "list" = some none)
    (xB : PySem.W.nsIn K mainGlobals "tuple" = some none)
    (yt : PySem.W.nsIn K mainGlobals "str" = some none)
    (yu : PySem.W.nsIn K mainGlobals "len" = some none)
    (xC : PySem.W.nsIn K mainGlobals "range" = some none)
    (yv : PySem.W.nsIn K mainGlobals "zip" = some none)
    (vP : PySem.W.nsIn K mainGlobals "enumerate" = some none)
    (wU : PySem.W.nsIn K mainGlobals "sorted" = some none)
    (yw : PySem.W.nsIn K mainGlobals "abs" = some none)
    (yx : PySem.W.nsIn K mainGlobals "sum" = some none)
    (yy : PySem.W.nsIn K mainGlobals "max" = some none)
    (yz : PySem.W.nsIn K mainGlobals "min" = some none)
    (yA : PySem.W.nsIn K mainGlobals "all" = some none)
    (yB : PySem.W.nsIn K mainGlobals "any" = some none)
    (yC : PySem.W.nsIn K mainGlobals "set" = some none)
    (oQ : PySem.W.nsIn K mainGlobals "MOST_TURNS" = some (some (.int 5 gt1)))
    (qc : PySem.W.nsIn K mainGlobals "MOST" = some (some (.int 6 gt2)))
    (oR : PySem.W.nsIn K mainGlobals "MOST_COUNT" = some (some (.int 9 gt3)))
    (oK : PySem.W.nsIn K mainGlobals "MOST_THINGS" = some (some (.int 4 gt4)))
    : ∃ fd : FuncData,(∀ (s : Shared) (v : Value),BindsTo s fd ⟨[v],[]⟩ [("_law_script",v)]) /\ ∀ base : Heap,K.In base -> base.Ns mainGlobals mg -> aR l.prog w K mg base aq 10 fa fd ["_law_script"] (tm K) := by
  have e := Zd.symm.trans (PySem.W.mg_of X G CL)
  cases e
  have T : Txt mg := ⟨PySem.W.mg_none_of X G vK,PySem.W.mg_none_of X G yr,PySem.W.mg_none_of X G xX,PySem.W.mg_none_of X G xY,PySem.W.mg_none_of X G xB,PySem.W.mg_none_of X G yt,PySem.W.mg_none_of X G yu,PySem.W.mg_none_of X G xC,PySem.W.mg_none_of X G yv,PySem.W.mg_none_of X G vP,PySem.W.mg_none_of X G wU,PySem.W.mg_none_of X G yw,PySem.W.mg_none_of X G yx,PySem.W.mg_none_of X G yy,PySem.W.mg_none_of X G yz,PySem.W.mg_none_of X G yA,PySem.W.mg_none_of X G yB,PySem.W.mg_none_of X G yC,⟨_,PySem.W.mg_of X G oQ⟩,⟨_,PySem.W.mg_of X G qc⟩,⟨_,PySem.W.mg_of X G oR⟩,⟨_,PySem.W.mg_of X G oK⟩⟩
  have F1 := bM (st := mS) l1 c1 k1
  have b1 := F1.binds (ps := ["number"]) fun _ _ _ _ _ _ us hl => by
    obtain ⟨_,rfl⟩ := kg hl
    rfl
  have F2 := bM (st := mv) l2 c2 k2
  have b2 := F2.binds (ps := ["one", "other"]) fun _ _ _ _ _ _ us hl => by
    obtain ⟨_,_,rfl⟩ := e7 hl
    rfl
  have F3 := EG (st := gk) l3 c3 k3
  have b3 : Binds K _ ["top", "bottom"] [] := fun s us hK hl => match us,hl with | [u,v],_ => PySem.W.binds_K (fd := PySem.W.fnOf "fraction" "fraction" (aV gk) (aQ gk) (ag gk) (.ref uR) AB AD AF AA uQ AG) hK rfl d3 rfl rfl rfl
  have Kl : Binds K _ ["top", "bottom"] [.int 1 Kf] := fun s us hK hl => by
    cases us with
    | nil => exact absurd hl (by simp)
    | cons u0 r0 =>
      cases r0 with
      | nil => exact PySem.W.binds_K (fd := PySem.W.fnOf "fraction" "fraction" (aV gk) (aQ gk) (ag gk) (.ref uR) AB AD AF AA uQ AG) hK rfl d3 rfl rfl rfl
      | cons _ _ => exact absurd hl (by simp only [List.length_append,List.length_cons,List.length_nil]; omega)
  have F4 := bM (st := nK) l4 c4 k4
  have b4 := F4.binds (ps := ["one", "other"]) fun _ _ _ _ _ _ us hl => by
    obtain ⟨_,_,rfl⟩ := e7 hl
    rfl
  have F5 := bM (st := nu) l5 c5 k5
  have b5 := F5.binds (ps := ["one", "other"]) fun _ _ _ _ _ _ us hl => by
    obtain ⟨_,_,rfl⟩ := e7 hl
    rfl
  have F6 := bM (st := nh) l6 c6 k6
  have b6 := F6.binds (ps := ["some"]) fun _ _ _ _ _ _ us hl => by
    obtain ⟨_,rfl⟩ := kg hl
    rfl
  have F7 := bM (st := mn) l7 c7 k7
  have b7 := F7.binds (ps := ["orders", "many"]) fun _ _ _ _ _ _ us hl => by
    obtain ⟨_,_,rfl⟩ := e7 hl
    rfl
  have F8 := bM (st := mU) l8 c8 k8
  have b8 := F8.binds (ps := ["counts", "orders"]) fun _ _ _ _ _ _ us hl => by
    obtain ⟨_,_,rfl⟩ := e7 hl
    rfl
  have F9 := bM (st := mC) l9 c9 k9
  have b9 := F9.binds (ps := ["table", "asker"]) fun _ _ _ _ _ _ us hl => by
    obtain ⟨_,_,rfl⟩ := e7 hl
    rfl
  have Km := bM (st := mE) l10 Bg uU
  have b10 := Km.binds (ps := ["order", "gone"]) fun _ _ _ _ _ _ us hl => by
    obtain ⟨_,_,rfl⟩ := e7 hl
    rfl
  have Ko := bM (st := nL) Bi Bj uV
  have b11 := Ko.binds (ps := ["table", "asker", "row"]) fun _ _ _ _ _ _ us hl => by
    obtain ⟨_,_,_,rfl⟩ := rP hl
    rfl
  have Kp := bM (st := m5) Bl Bm uW
  have b12 := Kp.binds (ps := ["table", "asker", "one", "other"]) fun _ _ _ _ _ _ us hl => by
    obtain ⟨_,_,_,_,rfl⟩ := uP hl
    rfl
  have Kq := bM (st := mK) Bp Bq uX
  have b13 := Kq.binds (ps := ["mix", "asker", "one"]) fun _ _ _ _ _ _ us hl => by
    obtain ⟨_,_,_,rfl⟩ := rP hl
    rfl
  have Kr := bM (st := mL) Bs Bt uY
  have b14 := Kr.binds (ps := ["counts", "mix"]) fun _ _ _ _ _ _ us hl => by
    obtain ⟨_,_,rfl⟩ := e7 hl
    rfl
  have Ks := bM (st := m3) Bv Bw uZ
  have b15 := Ks.binds (ps := ["table", "turns"]) fun _ _ _ _ _ _ us hl => by
    obtain ⟨_,_,rfl⟩ := e7 hl
    rfl
  have Kt := bM (st := nc) By c16 u3
  have b16 := Kt.binds (ps := ["lists", "many"]) fun _ _ _ _ _ _ us hl => by
    obtain ⟨_,_,rfl⟩ := e7 hl
    rfl
  have Ku := bM (st := mJ) BA BC u5
  have b17 := Ku.binds (ps := ["many"]) fun _ _ _ _ _ _ us hl => by
    obtain ⟨_,rfl⟩ := kg hl
    rfl
  have Kw := bM (st := cj) BE BF u9
  have b18 := Kw.binds (ps := ["table"]) fun _ _ _ _ _ _ us hl => by
    obtain ⟨_,rfl⟩ := kg hl
    rfl
  have Kx := bM (st := mw) BH BI vd
  have b19 := Kx.binds (ps := ["table"]) fun _ _ _ _ _ _ us hl => by
    obtain ⟨_,rfl⟩ := kg hl
    rfl
  have Ky := bM (st := mz) BK BL ve
  have b20 := Ky.binds (ps := ["table", "asker"]) fun _ _ _ _ _ _ us hl => by
    obtain ⟨_,_,rfl⟩ := e7 hl
    rfl
  have Kz := bM (st := mh) BO BP vf
  have b21 := Kz.binds (ps := ["table", "asker", "order"]) fun _ _ _ _ _ _ us hl => by
    obtain ⟨_,_,_,rfl⟩ := rP hl
    rfl
  have KA := bM (st := dc) BR BU vg
  have b22 := KA.binds (ps := ["many"]) fun _ _ _ _ _ _ us hl => by
    obtain ⟨_,rfl⟩ := kg hl
    rfl
  have KC := bM (st := ni) BW BX vh
  have b23 := KC.binds (ps := ["table", "asker", "way"]) fun _ _ _ _ _ _ us hl => by
    obtain ⟨_,_,_,rfl⟩ := rP hl
    rfl
  have KD := bM (st := mV) B3 B4 vi
  have b24 := KD.binds (ps := ["table", "asker", "first", "new"]) fun _ _ _ _ _ _ us hl => by
    obtain ⟨_,_,_,_,rfl⟩ := uP hl
    rfl
  have F25 := EG (st := bq) B6 B7 vj
  have b25 : Binds K _ ["table", "asker", "way"] [] := fun s us hK hl => match us,hl with | [u,v,x],_ => PySem.W.binds_K (fd := PySem.W.fnOf "lies" "lies" (aV bq) (aQ bq) (ag bq) (.ref qL) tS tT tU tR qK tV) hK rfl rQ rfl rfl rfl
  have aal : Binds K _ ["table", "asker", "way"] [.str "meal" IQ] := fun s us hK hl => by
    cases us with
    | nil => exact absurd hl (by simp)
    | cons u0 r0 =>
      cases r0 with
      | nil => exact absurd hl (by simp)
      | cons u1 r1 =>
        cases r1 with
        | nil => exact PySem.W.binds_K (fd := PySem.W.fnOf "lies" "lies" (aV bq) (aQ bq) (ag bq) (.ref qL) tS tT tU tR qK tV) hK rfl rQ rfl rfl rfl
        | cons _ _ => exact absurd hl (by simp only [List.length_append,List.length_cons,List.length_nil]; omega)
  have Xe : pW K _ ["table", "asker", "way"] ["way"] gK rO := ⟨fun s us ws hK hl => by
    unfold gK at hl ⊢
    split at hl
    · rename_i hq
      rw [if_pos hq]
      match us,ws,hq with
      | [u,v],[x],_ => exact PySem.W.binds_K (fd := PySem.W.fnOf "lies" "lies" (aV bq) (aQ bq) (ag bq) (.ref qL) tS tT tU tR qK tV) hK rfl rQ rfl rfl rfl
    · exact absurd hl (by simp),RQ⟩
  have KG := bM (st := mq) B9 Ca vk
  have b26 := KG.binds (ps := ["_law_script", "_law_k"]) fun _ _ _ _ _ _ us hl => by
    obtain ⟨_,_,rfl⟩ := e7 hl
    rfl
  have KH := bM (st := mF) Cd Ce vm
  have b27 := KH.binds (ps := ["_law_cell", "_law_many"]) fun _ _ _ _ _ _ us hl => by
    obtain ⟨_,_,rfl⟩ := e7 hl
    rfl
  have KI := bM (st := mG) Ci Cj vo
  have b28 := KI.binds (ps := ["_law_script", "_law_start", "_law_things", "_law_askers"]) fun _ _ _ _ _ _ us hl => by
    obtain ⟨_,_,_,_,rfl⟩ := uP hl
    rfl
  have KJ := bM (st := mM) Cm Cp vp
  have b29 := KJ.binds (ps := ["_law_table_here", "_law_asker"]) fun _ _ _ _ _ _ us hl => by
    obtain ⟨_,_,rfl⟩ := e7 hl
    rfl
  have KL := bM (st := mN) Cr Ct vq
  have b30 := KL.binds (ps := ["_law_table_here", "_law_turns"]) fun _ _ _ _ _ _ us hl => by
    obtain ⟨_,_,rfl⟩ := e7 hl
    rfl
  have KN := bM (st := mW) Cv Cw vt
  have b31 := KN.binds (ps := ["_law_many"]) fun _ _ _ _ _ _ us hl => by
    obtain ⟨_,rfl⟩ := kg hl
    rfl
  have KO := bM (st := mH) Cz CA vv
  have b32 := KO.binds (ps := ["_law_many"]) fun _ _ _ _ _ _ us hl => by
    obtain ⟨_,rfl⟩ := kg hl
    rfl
  have KP := bM (st := mB) CC CD vw
  have b33 := KP.binds (ps := ["_law_table_here", "_law_asker", "_law_rows"]) fun _ _ _ _ _ _ us hl => by
    obtain ⟨_,_,_,rfl⟩ := rP hl
    rfl
  have KQ := bM (st := mP) CG CH vz
  have b34 := KQ.binds (ps := ["_law_table_here", "_law_asker", "_law_first", "_law_other"]) fun _ _ _ _ _ _ us hl => by
    obtain ⟨_,_,_,_,rfl⟩ := uP hl
    rfl
  have KR := bM (st := mX) CJ CK vA
  have b35 := KR.binds (ps := ["_law_table_here", "_law_asker"]) fun _ _ _ _ _ _ us hl => by
    obtain ⟨_,_,rfl⟩ := e7 hl
    rfl
  have F36 := bM (st := i5) CM CN CO
  refine ⟨PySem.W.fnOf "law" "law" (aV i5) (aQ i5) (ag i5) .none Jd Je Jf Jc zk Jg,fun s v => .of_eq rfl,fun base _ _ => ?_⟩
  have K1 := Kn.mk (base := base) (P := l.prog) (w := w) (Mq (k := 0) F1 T ) (PySem.W.mg_of X G a1) k1 b1
  have K2 := Kn.mk (base := base) (P := l.prog) (w := w) (Le (k := 0) F2 T ) (PySem.W.mg_of X G a2) k2 b2
  have K3 := Kn.mk (base := base) (P := l.prog) (w := w) (Mr (k := 0) F3 T K1 K2) (PySem.W.mg_of X G a3) k3 b3
  have K4 := Kn.mk (base := base) (P := l.prog) (w := w) (Qu (k := 0) F4 T K3) (PySem.W.mg_of X G a4) k4 b4
  have K5 := Kn.mk (base := base) (P := l.prog) (w := w) (OM (k := 0) F5 T ) (PySem.W.mg_of X G a5) k5 b5
  have K6 := Kn.mk (base := base) (P := l.prog) (w := w) (NK (k := 0) F6 T K3 Kl K4) (PySem.W.mg_of X G a6) k6 b6
  have K7 := Kn.mk (base := base) (P := l.prog) (w := w) (La (k := 0) F7 T ) (PySem.W.mg_of X G a7) k7 b7
  have K8 := Kn.mk (base := base) (P := l.prog) (w := w) (Mt (k := 0) F8 T K7) (PySem.W.mg_of X G a8) k8 b8
  have K9 := Kn.mk (base := base) (P := l.prog) (w := w) (Lz (k := 0) F9 T ) (PySem.W.mg_of X G a9) k9 b9
  have K10 := Kn.mk (base := base) (P := l.prog) (w := w) (LC (k := 0) Km T ) (PySem.W.mg_of X G lN) uU b10
  have K11 := Kn.mk (base := base) (P := l.prog) (w := w) (Qy (k := 0) Ko T K3 Kl K9 K4) (PySem.W.mg_of X G Bh) uV b11
  have K12 := Kn.mk (base := base) (P := l.prog) (w := w) (MT (k := 0) Kp T K11 K5) (PySem.W.mg_of X G Bk) uW b12
  have K13 := Kn.mk (base := base) (P := l.prog) (w := w) (L6 (k := 0) Kq T K6) (PySem.W.mg_of X G Bo) uX b13
  have K14 := Kn.mk (base := base) (P := l.prog) (w := w) (L7 (k := 0) Kr T K13) (PySem.W.mg_of X G Br) uY b14
  have K15 := Kn.mk (base := base) (P := l.prog) (w := w) (MQ (k := 0) Ks T K9 K10) (PySem.W.mg_of X G Bu) uZ b15
  have KS := Kn.mk (base := base) (P := l.prog) (w := w) (NA (k := 0) Kt T ) (PySem.W.mg_of X G Bx) u3 b16
  have K17 := Kn.mk (base := base) (P := l.prog) (w := w) (L3 (k := 0) Ku T KS) (PySem.W.mg_of X G Bz) u5 b17
  have K18 := Kn.mk (base := base) (P := l.prog) (w := w) (Mv (k := 0) Kw T K17 K15 K3) (PySem.W.mg_of X G BD) u9 b18
  have K19 := Kn.mk (base := base) (P := l.prog) (w := w) (Lh (k := 0) Kx T K14 K18) (PySem.W.mg_of X G BG) vd b19
  have KU := Kn.mk (base := base) (P := l.prog) (w := w) (Lj (k := 0) Ky T ) (PySem.W.mg_of X G BJ) ve b20
  have K21 := Kn.mk (base := base) (P := l.prog) (w := w) (KZ (k := 0) Kz T KU K8) (PySem.W.mg_of X G BM) vf b21
  have K22 := Kn.mk (base := base) (P := l.prog) (w := w) (LI (k := 0) KA T KS) (PySem.W.mg_of X G BQ) vg b22
  have K23 := Kn.mk (base := base) (P := l.prog) (w := w) (NP (k := 0) KC T K19) (PySem.W.mg_of X G BV) vh b23
  have K24 := Kn.mk (base := base) (P := l.prog) (w := w) (MA (k := 0) KD T K12) (PySem.W.mg_of X G BZ) vi b24
  have K25 := Kn.mk (base := base) (P := l.prog) (w := w) (QE (k := 0) F25 T K22 KU K23 K21 K24) (PySem.W.mg_of X G B5) vj b25
  have KW := Kn.mk (base := base) (P := l.prog) (w := w) (Lc (k := 0) KG T ) (PySem.W.mg_of X G B8) vk b26
  have K27 := Kn.mk (base := base) (P := l.prog) (w := w) (LK (k := 0) KH T ) (PySem.W.mg_of X G Cb) vm b27
  have K28 := Kn.mk (base := base) (P := l.prog) (w := w) (LL (k := 0) KI T KW K27) (PySem.W.mg_of X G Cg) vo b28
  have KY := Kn.mk (base := base) (P := l.prog) (w := w) (L8 (k := 0) KJ T ) (PySem.W.mg_of X G Ck) vp b29
  have K30 := Kn.mk (base := base) (P := l.prog) (w := w) (L9 (k := 0) KL T KY) (PySem.W.mg_of X G Cq) vq b30
  have K31 := Kn.mk (base := base) (P := l.prog) (w := w) (MC (k := 0) KN T ) (PySem.W.mg_of X G Cu) vt b31
  have K32 := Kn.mk (base := base) (P := l.prog) (w := w) (LN (k := 0) KO T ) (PySem.W.mg_of X G Cy) vv b32
  have K33 := Kn.mk (base := base) (P := l.prog) (w := w) (Lk (k := 0) KP T K30) (PySem.W.mg_of X G CB) vw b33
  have K34 := Kn.mk (base := base) (P := l.prog) (w := w) (Ma (k := 0) KQ T KY) (PySem.W.mg_of X G CF) vz b34
  have K35 := Kn.mk (base := base) (P := l.prog) (w := w) (ME (k := 0) KR T K31 K33 K32 K34) (PySem.W.mg_of X G CI) vA b35
  exact Rf (RU (k := 0) F36 T KW K28 K35 K25 Xe)
theorem walk {l : PySem.W.OpenLaw} {q : Program} {loose : List Str} {XP : (Str -> Option Value) -> Heap -> Prop} {YP : World -> Heap -> Prop} {d : DefRec} {K : Params -> PySem.W.Frag} (hn : l.most = some 63) (qV : d.params.defaults = [])
    (hY : ∀ (w : World) (h : Heap),YP w h -> (K w.params).In h)
    (F : ∀ (w : World) (mg : Str -> Option Value) (fa : Addr) (h : Heap),(K w.params).In h -> h.Ns mainGlobals mg -> mg d.name = some (.ref fa) ->
      ∃ fd : FuncData,(∀ (s : Shared) (u : Value),BindsTo s fd ⟨[u],[]⟩ [("_law_script",u)]) /\ ∀ base : Heap,(K w.params).In base -> base.Ns mainGlobals mg -> aR l.prog w (K w.params) mg base aq 10 fa fd ["_law_script"] (tm (K w.params))) :
    PySem.W.WalkO q loose XP YP l.row.toRowW d [] (fun f vs => PySem.call f vs) :=
  L2.O9 (n := 63) (k := 10) (x := "_law_script") (CX := fun _ => aq) (sp := fun w => tm (K w.params)) hn (by decide) qV ⟨rfl,by decide,by decide⟩ hY F (fun _ _ a ns hl _ hS => ⟨a,ns,rfl,hS,hl,fun _ => rfl⟩) fun _ _ _ _ _ z => z
end bw
open PySem PySem.W PyProof.Rows
set_option maxRecDepth 100000 in
set_option maxHeartbeats 0 in
theorem PySem.Challenge.cw_lotmeal_k49_lies_by_turns_holds : PySem.Challenge.rw_lotmeal_k49_lies_by_turns.Holds := by
  w_on; o_law
  refine holds_open (q := fJ.hV) (loose := ["fraction", "lies"]) (Xt := fJ.hX) (XP := XL fJ.hV []) (Yf := (kHook fJ.hK fJ.hA fJ.sZ).obs) (Ya := (kHook fJ.hK fJ.hA fJ.sZ).val) (YP := (kHook fJ.hK fJ.hA fJ.sZ).says) fJ.hL (Hook.of _) (Hook.keeps _) (fun s e => xl_of s (Bool.and_eq_true_iff.mp e).1) XL.keeps (by rfl) (by rfl) (by rfl) (fun s e => recFacts_of (Bool.and_eq_true_iff.mp e).2) (by rfl) (by first | assumption | decide +kernel) (by decide +kernel) ⟨rfl,rfl,rfl,rfl,rfl,by decide +kernel⟩ ?hw ?hc
  case hw => w_witness2
  k_fill
  refine bw.walk (l := PySem.Challenge.rw_lotmeal_k49_lies_by_turns) rfl rfl (fun w h Y => PySem.W.kIn_of Y) ?F
  case F =>
    intro w mg fa h KX G qW
    refine' bw.all_mk KX G qW ?a1 ?l1 ?c1 ?k1 ?a2 ?l2 ?c2 ?k2 ?a3 ?l3 ?d3 ?c3 ?k3 ?a4 ?l4 ?c4 ?k4 ?a5 ?l5 ?c5 ?k5 ?a6 ?l6 ?c6 ?k6 ?a7 ?l7 ?c7 ?k7 ?a8 ?l8 ?c8 ?k8 ?a9 ?l9 ?c9 ?k9 ?lN ?l10 ?Bg ?uU ?Bh ?Bi ?Bj ?uV ?Bk ?Bl ?Bm ?uW ?Bo ?Bp ?Bq ?uX ?Br ?Bs ?Bt ?uY ?Bu ?Bv ?Bw ?uZ ?Bx ?By ?c16 ?u3 ?Bz ?BA ?BC ?u5 ?BD ?BE ?BF ?u9 ?BG ?BH ?BI ?vd ?BJ ?BK ?BL ?ve ?BM ?BO ?BP ?vf ?BQ ?BR ?BU ?vg ?BV ?BW ?BX ?vh ?BZ ?B3 ?B4 ?vi ?B5 ?B6 ?rQ ?B7 ?vj ?B8 ?B9 ?Ca ?vk ?Cb ?Cd ?Ce ?vm ?Cg ?Ci ?Cj ?vo ?Ck ?Cm ?Cp ?vp ?Cq ?Cr ?Ct ?vq ?Cu ?Cv ?Cw ?vt ?Cy ?Cz ?CA ?vv ?CB ?CC ?CD ?vw ?CF ?CG ?CH ?vz ?CI ?CJ ?CK ?vA ?CL ?CM ?CN ?CO ?vK ?yr ?xX ?xY ?xB ?yt ?yu ?xC ?yv ?vP ?wU ?yw ?yx ?yy ?yz ?yA ?yB ?yC ?oQ ?qc ?oR ?oK
    (case a1 => k_is)
    (case l1 => k_is)
    (case c1 => k_is)
    (case k1 => k_is)
    (case a2 => k_is)
    (case l2 => k_is)
    (case c2 => k_is)
    (case k2 => k_is)
    (case a3 => k_is)
    (case l3 => k_is)
    (case d3 => k_is)
    (case c3 => k_is)
    (case k3 => k_is)
    (case a4 => k_is)
    (case l4 => k_is)
    (case c4 => k_is)
    (case k4 => k_is)
    (case a5 => k_is)
    (case l5 => k_is)
    (case c5 => k_is)
    (case k5 => k_is)
    (case a6 => k_is)
    (case l6 => k_is)
    (case c6 => k_is)
    (case k6 => k_is)
    (case a7 => k_is)
    (case l7 => k_is)
    (case c7 => k_is)
    (case k7 => k_is)
    (case a8 => k_is)
    (case l8 => k_is)
    (case c8 => k_is)
    (case k8 => k_is)
    (case a9 => k_is)
    (case l9 => k_is)
    (case c9 => k_is)
    (case k9 => k_is)
    (case lN => k_is)
    (case l10 => k_is)
    (case Bg => k_is)
    (case uU => k_is)
    (case Bh => k_is)
    (case Bi => k_is)
    (case Bj => k_is)
    (case uV => k_is)
    (case Bk => k_is)
    (case Bl => k_is)
    (case Bm => k_is)
    (case uW => k_is)
    (case Bo => k_is)
    (case Bp => k_is)
    (case Bq => k_is)
    (case uX => k_is)
    (case Br => k_is)
    (case Bs => k_is)
    (case Bt => k_is)
    (case uY => k_is)
    (case Bu => k_is)
    (case Bv => k_is)
    (case Bw => k_is)
    (case uZ => k_is)
    (case Bx => k_is)
    (case By => k_is)
    (case c16 => k_is)
    (case u3 => k_is)
    (case Bz => k_is)
    (case BA => k_is)
    (case BC => k_is)
    (case u5 => k_is)
    (case BD => k_is)
    (case BE => k_is)
    (case BF => k_is)
    (case u9 => k_is)
    (case BG => k_is)
    (case BH => k_is)
    (case BI => k_is)
    (case vd => k_is)
    (case BJ => k_is)
    (case BK => k_is)
    (case BL => k_is)
    (case ve => k_is)
    (case BM => k_is)
    (case BO => k_is)
    (case BP => k_is)
    (case vf => k_is)
    (case BQ => k_is)
    (case BR => k_is)
    (case BU => k_is)
    (case vg => k_is)
    (case BV => k_is)
    (case BW => k_is)
    (case BX => k_is)
    (case vh => k_is)
    (case BZ => k_is)
    (case B3 => k_is)
    (case B4 => k_is)
    (case vi => k_is)
    (case B5 => k_is)
    (case B6 => k_is)
    (case rQ => k_is)
    (case B7 => k_is)
    (case vj => k_is)
    (case B8 => k_is)
    (case B9 => k_is)
    (case Ca => k_is)
    (case vk => k_is)
    (case Cb => k_is)
    (case Cd => k_is)
    (case Ce => k_is)
    (case vm => k_is)
    (case Cg => k_is)
    (case Ci => k_is)
    (case Cj => k_is)
    (case vo => k_is)
    (case Ck => k_is)
    (case Cm => k_is)
    (case Cp => k_is)
    (case vp => k_is)
    (case Cq => k_is)
    (case Cr => k_is)
    (case Ct => k_is)
    (case vq => k_is)
    (case Cu => k_is)
    (case Cv => k_is)
    (case Cw => k_is)
    (case vt => k_is)
    (case Cy => k_is)
    (case Cz => k_is)
    (case CA => k_is)
    (case vv => k_is)
    (case CB => k_is)
    (case CC => k_is)
    (case CD => k_is)
    (case vw => k_is)
    (case CF => k_is)
    (case CG => k_is)
    (case CH => k_is)
    (case vz => k_is)
    (case CI => k_is)
    (case CJ => k_is)
    (case CK => k_is)
    (case vA => k_is)
    (case CL => k_is)
    (case CM => k_is)
    (case CN => k_is)
    (case CO => k_is)
    (case vK => k_is)
    (case yr => k_is)
    (case xX => k_is)
    (case xY => k_is)
    (case xB => k_is)
    (case yt => k_is)
    (case yu => k_is)
    (case xC => k_is)
    (case yv => k_is)
    (case vP => k_is)
    (case wU => k_is)
    (case yw => k_is)
    (case yx => k_is)
    (case yy => k_is)
    (case yz => k_is)
    (case yA => k_is)
    (case yB => k_is)
    (case yC => k_is)
    (case oQ => k_is)
    (case qc => k_is)
    (case oR => k_is)
    (case oK => k_is)
#print axioms PySem.Challenge.cw_lotmeal_k49_lies_by_turns_holds
