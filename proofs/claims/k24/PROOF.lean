import PyProof.Rows.All
import Lean
import PyProof.EqAt
import PyProof.EqKinds
import PyProof.TupleCall
import PyProof.NeKinds
import PyProof.ZipIter
import PyProof.WalksEnum
import PyProof.CompUse
import PyProof.ListRange
import PyProof.Rows.SetFrom
import PyProof.Rows.SortWalk
import PyProof.Rows.SeqMore2
import PyProof.SetRoads
import KE.KRevIter
import PyProof.WalksMore
import PyProof.AutoRange
import PyProof.ListNew
import PyProof.Wp
import PyProof.Logic
import PyProof.StationsW
import PyProof.ExcClass2
import OpenK.KGet
import PyProof.Rows.SortRunsK
import PyProof.Rows.SortShellK
import KE.KDictSum
import PyProof.DictTruth
import PyProof.RangeIter
import PyProof.RaisesMany
import PyProof.AutoListH
import PySem.Challenge.RW_lotmeal_k24_meals_are_good
import KE.KIsAll
import KE.KTurns
import KE.KItem
import KE.LcSums
import KE.IntBitsLaws
set_option Elab.async false
set_option linter.all false
set_option maxRecDepth 100000
set_option maxHeartbeats 4000000
namespace L2
open PySem PySem.W
section
variable {tb:String->Option Builtin} {p:Program} {w:World} {n₀:Nat} {ann:Option Value}
def qo (tb:String->Option Builtin) (p:Program) (w:World) (n₀:Nat) (ann:Option Value):Nat->SharedT->Thread->Option SharedT
  | 0,_,_=>none
  | n+1,s,t=>match through t with
    | true=>some s
    | false=>match stepOk n₀ ann t with
      | false=>none
      | true=>match stepT (denote tb) p w s t with
        | some (s',t')=>qo tb p w n₀ ann n s' t'
        | none=>none
theorem Eg:∀ {n:Nat} {s s':SharedT} {t:Thread},qo tb p w n₀ ann n s t=some s'->topRun tb p w n₀ ann n s.abs t=some s'.abs
  | 0,_,_,_,h=>by cases h
  | n+1,s,s',t,h=>by
    unfold qo at h
    unfold topRun
    cases ht:through t with
    | true=>rw [ht] at h;cases h;rfl
    | false =>
      rw [ht] at h
      cases hk:stepOk n₀ ann t with
      | false=>rw [hk] at h;cases h
      | true =>
        rw [hk] at h
        cases hs:stepT (denote tb) p w s t with
        | none=>rw [hs] at h;cases h
        | some r=>obtain ⟨kX,aam⟩:=r;rw [hs] at h;rw [stepT_spec hs];exact Eg h
end
def treeOf (l:List Obj):Nat->Nat->Nat->BT
  | 0,_,_=>.nil
  | f+1,a,b=>match l[b]? with
    | some o=>.node o (treeOf l f (2*a) (a+b)) (treeOf l f (2*a) (2*a+b))
    | none=>.nil
theorem Oo {p q:Program} {loose:List Str} {Xt:Shared->Bool} {α:Type} {Yf:Shared -> α} {Ya:World -> α} {N:Nat} {g0:Bool} {T₀:Params->BT} {n₀:Nat} {life:Life} {tf:Array GenState} {yr:Drawn} {yt:Nat} {ann:Option Value} {M:Nat}
    (Ti:∀ w:World,(fencedOpening treeTable p w N).map (fun s=>(s.heap,s.gens,s.drawn,s.toks))=some (absHeap (T₀ w.params) n₀ life,tf,yr,yt))
    (size:∀ w:World,((absHeap (T₀ w.params) n₀ life).isNs mainGlobals&&tf.size==0,(absHeap (T₀ w.params) n₀ life).nsMap mainGlobals "__annotations__")=(true,ann))
    (run:∀ (w:World),(fun os=>(qo treeTable p w n₀ ann M ⟨T₀ w.params,n₀,life,tf,yr,yt,os⟩ (topStub p)).map fun st=>((staticsOk (importedModules p.main.body) (absHeap (T₀ w.params) n₀ life) st.abs.heap&&namesBound p st.abs.heap&&gensDone st.abs&&laidKept (absHeap (T₀ w.params) n₀ life) st.abs.heap),openSeen q loose (importedModules p.main.body) Xt g0 st.abs,Yf st.abs))=fun _=>some (true,openGood q loose,Ya w)) (le:Nat.ble M N=true):LeftO p q loose Xt Yf Ya N g0:=fun w=>by
  obtain ⟨⟨h,gs,d,k,os⟩,e,e'⟩:=Option.map_eq_some_iff.mp (Ti w)
  obtain ⟨rfl,rfl,rfl,rfl⟩:h=absHeap (T₀ w.params) n₀ life/\gs=tf/\d=yr/\k=yt:=by simpa using e'
  obtain ⟨z1,z3⟩:=Prod.mk.inj (size w)
  obtain ⟨st,hr,hl⟩:=Option.map_eq_some_iff.mp (congrFun (run w) os)
  obtain ⟨l1,hl⟩:=Prod.mk.inj hl
  obtain ⟨l2,l3⟩:=Prod.mk.inj hl
  have r:=topRun_mono (N-M) _ _ _ _ (Eg hr)
  rw [show M+(N-M)=N by have:=Nat.le_of_ble_eq_true le;omega] at r
  have t:topFrom treeTable p w N ⟨absHeap (T₀ w.params) n₀ life,gs,d,k,os⟩=some st.abs:=by
    unfold topFrom
    dsimp only
    rw [z1,absHeap_size,z3]
    have r':topRun treeTable p w n₀ ann N ⟨absHeap (T₀ w.params) n₀ life,gs,d,k,os⟩ (topStub p)=some st.abs:=r
    rw [r']
    show (match staticsOk (importedModules p.main.body) (absHeap (T₀ w.params) n₀ life) st.abs.heap&&namesBound p st.abs.heap&&gensDone st.abs&&laidKept (absHeap (T₀ w.params) n₀ life) st.abs.heap with | true=>_ | false=>_)=_
    rw [l1]
  unfold openEnds
  rw [e]
  show (topFrom treeTable p w N _).map _=_
  rw [t]
  exact congrArg some (Prod.ext l2 l3)
noncomputable def kT (P:Params):BT:=treeOf (boot_heap P).objs.toList 12 1 0
theorem boot_abs (P:Params):absHeap (kT P) 11 {}=boot_heap P:=by kernel_rfl
theorem Oq (w:World):((absHeap (kT w.params) 11 {}).isNs mainGlobals&&(Array.mk []:Array GenState).size==0,(absHeap (kT w.params) 11 {}).nsMap mainGlobals "__annotations__")=(true,some (.ref 6)):=by kernel_rfl
noncomputable def jO (p:Program) (w:World) (N:Nat) (os:OsState):Option SharedT:=qo treeTable p w 11 (some (.ref 6)) N ⟨kT w.params,11,{},Array.mk [],boot_drawn,boot_toks,os⟩ (topStub p)
noncomputable def pU (p:Program) (w:World) (st:SharedT):Bool:=staticsOk (importedModules p.main.body) (absHeap (kT w.params) 11 {}) st.abs.heap&&namesBound p st.abs.heap&&gensDone st.abs&&laidKept (absHeap (kT w.params) 11 {}) st.abs.heap
theorem Ot {p q:Program} {loose:List Str} {Xt:Shared->Bool} {α:Type} {Yf:Shared -> α} {Ya:World -> α} {N:Nat} {g0:Bool} (e:opening p=plainProg p.main.scope.names) (hN:Nat.ble 600 N=true) (f:∀ s,fenceModules? p s=some s)
    (r1:∀ w:World,(fun os=>(jO p w N os).map fun st=>pU p w st)=fun _=>some true) (r2:∀ w:World,(fun os=>(jO p w N os).map fun st=>openSeen q loose (importedModules p.main.body) Xt g0 st.abs)=fun _=>some (openGood q loose)) (r3:∀ w:World,(fun os=>(jO p w N os).map fun st=>Yf st.abs)=fun _=>some (Ya w)):LeftO p q loose Xt Yf Ya N g0 :=
  Oo (T₀:=kT) (n₀:=11) (life:={}) (ann:=some (.ref 6)) (fun w=>(boot_open e hN f w).trans (by rw [boot_abs])) Oq (fun w=>funext fun os=>by
    have a:=congrFun (r1 w) os
    have b:=congrFun (r2 w) os
    have c:=congrFun (r3 w) os
    show (jO p w N os).map (fun st=>(pU p w st,openSeen q loose (importedModules p.main.body) Xt g0 st.abs,Yf st.abs))=_
    cases h:jO p w N os with
    | none=>rw [h] at a;cases a
    | some st =>
      rw [h] at a b c
      show some (pU p w st,openSeen q loose (importedModules p.main.body) Xt g0 st.abs,Yf st.abs)=_
      have a':pU p w st=true:=Option.some.inj a
      have b':openSeen q loose (importedModules p.main.body) Xt g0 st.abs=openGood q loose:=Option.some.inj b
      have c':Yf st.abs=Ya w:=Option.some.inj c
      rw [a',b',c']) (by rw [Nat.ble_eq];exact Nat.le_refl _)
def dA (s:Stmt):Arguments:=match s with
  | .FunctionDef _ a _ _ _ _ _ _ _ _=>a
  | _=>{ posonlyargs:=[],args:=[],vararg:=none,kwonlyargs:=[],kw_defaults:=[],kwarg:=none,defaults:=[] }
def dB (s:Stmt):List Stmt:=match s with
  | .FunctionDef _ _ b _ _ _ _ _ _ _=>b
  | _=>[]
def dS (s:Stmt):Scope:=match s with
  | .FunctionDef _ _ _ _ _ _ sc _ _ _=>sc
  | _=>{ kind:=.function,names:=[],isGenerator:=false,isCoroutine:=false }
def dM (s:Stmt) (j:Nat):Stmt:=match s with
  | .ClassDef _ _ _ b _ _ _ _ _ _ _=>b.getD j (.Pass ⟨0,0,0,0⟩)
  | _=>.Pass ⟨0,0,0,0⟩
def dE (P:Params) (x:Str) (n:Nat) (v:Value):DictEntry:=.mk (PyData.keyHash P x) (.str x n) v
def o0:Obj:=Obj.mk (.type "tuple") none (.seq #[] 0) #[]
def oT (x:Array Value):Obj:=Obj.mk (.type "tuple") none (.seq x 0) #[]
def oC (x:Array Value):Obj:=Obj.mk (.type "code") none (.fields x) #[]
def oD (n:Str) (a l k r x:Nat) (y z:Value) (v u:Nat):Obj:=oC #[.str n a,.str n (a+1),.str "/claim/cut.py" (a+2),.int l 0,.int k 0,.int 0 0,.int 0 0,.int 3 0,.ref r,.bool true,.int 181 0,.ref x,.none,y,z,.ref v,.int u 0,.int l 0,.str "/claim/cut.py" (u+1)]
def oF (n:Str) (s:Stmt) (d m c:Value):Obj:=Obj.mk (.type "function") none (.func (FuncData.mk n n (dA s) (.stmts (dB s)) (dS s) 3 [] d .none .none m none c .none 0)) #[]
end L2
namespace fG
open PySem PySem.W
abbrev pr:Program:=PySem.Challenge.rw_lotmeal_k24_meals_are_good.row.prog
def tp (i:Nat):Stmt:=pr.main.body.getD i (.Pass ⟨0,0,0,0⟩)
noncomputable def hK:Params->Frag:=fun P =>
 (nat_lit 2,boot_o_2 P) ::
 (nat_lit 3,(Obj.mk (.type "dict") none (.dict #[(L2.dE P "__name__" 165 (.str "law_lotmeal_k24_meals_are_good" 632)),(L2.dE P "__doc__" 166 .none),(L2.dE P "__package__" 167 .none),(L2.dE P "__loader__" 168 (.builtin "__main__.__loader__#opaque")),(L2.dE P "__spec__" 169 .none),(L2.dE P "__annotations__" 170 (.ref 6)),(L2.dE P "__builtins__" 171 (.ref 4)),(L2.dE P "__file__" 173 (.str "/claim/cut.py" 172)),(L2.dE P "__cached__" 174 .none),(L2.dE P "LotError" 206 (.ref 24)),(L2.dE P "NoNumber" 222 (.ref 37)),(L2.dE P "TooGreat" 238 (.ref 49)),(L2.dE P "NoAsker" 254 (.ref 61)),(L2.dE P "NoThing" 279 (.ref 80)),(L2.dE P "Twice" 304 (.ref 99)),(L2.dE P "is_whole" 313 (.ref 108)),(L2.dE P "common_part" 322 (.ref 115)),(L2.dE P "fraction" 332 (.ref 123)),(L2.dE P "plus" 340 (.ref 130)),(L2.dE P "minus" 348 (.ref 137)),(L2.dE P "times" 356 (.ref 144)),(L2.dE P "over" 364 (.ref 151)),(L2.dE P "under" 372 (.ref 158)),(L2.dE P "sum_of" 381 (.ref 165)),(L2.dE P "common_bottom" 390 (.ref 172)),(L2.dE P "least_of" 399 (.ref 179)),(L2.dE P "bottom_of_all" 405 (.ref 184)),(L2.dE P "parts_of" 413 (.ref 191)),(L2.dE P "MOST" 417 (.int 6 416)),(L2.dE P "MOST_COUNT" 419 (.int 9 418)),(L2.dE P "check_orders" 425 (.ref 196)),(L2.dE P "table_of" 431 (.ref 201)),(L2.dE P "full_order" 437 (.ref 206)),(L2.dE P "first_left" 443 (.ref 211)),(L2.dE P "dealt_of" 449 (.ref 216)),(L2.dE P "wishes" 457 (.ref 221)),(L2.dE P "over_pairs" 463 (.ref 226)),(L2.dE P "full_things" 469 (.ref 231)),(L2.dE P "lined_up" 475 (.ref 236)),(L2.dE P "ring_among" 481 (.ref 241)),(L2.dE P "judged" 487 (.ref 246)),(L2.dE P "Market" 579 (.ref 307)),(L2.dE P "bettered" 585 (.ref 316)),(L2.dE P "next_length" 593 (.ref 321)),(L2.dE P "left_behind" 599 (.ref 326)),(L2.dE P "ended_things" 605 (.ref 331)),(L2.dE P "meal_steps" 611 (.ref 336)),(L2.dE P "eaten_by" 617 (.ref 341)),(L2.dE P "meal" 623 (.ref 346)),(L2.dE P "ends" 631 (.ref 351)),(L2.dE P "_law_cell_at" 641 (.ref 358)),(L2.dE P "_law_stream" 652 (.ref 365)),(L2.dE P "_law_order" 664 (.ref 372)),(L2.dE P "_law_orders" 674 (.ref 379)),(L2.dE P "_law_counts" 684 (.ref 386)),(L2.dE P "_law_divisor" 692 (.ref 393)),(L2.dE P "_law_lowest" 701 (.ref 400)),(L2.dE P "_law_full" 707 (.ref 405)),(L2.dE P "_law_plus" 715 (.ref 412)),(L2.dE P "_law_under" 723 (.ref 419)),(L2.dE P "_law_sums" 735 (.ref 426)),(L2.dE P "_law_no_less" 745 (.ref 433)),(L2.dE P "_law_column" 755 (.ref 440)),(L2.dE P "_law_wishes" 761 (.ref 445)),(L2.dE P "_law_left" 774 (.ref 452)),(L2.dE P "_law_ahead" 784 (.ref 459)),(L2.dE P "law" 790 (.ref 464))] 67) #[])) ::
 (nat_lit 15,(L2.oT #[(.type "ValueError")])) ::
 (nat_lit 22,L2.o0) ::
 (nat_lit 23,(Obj.mk (.type "dict") none (.dict #[(L2.dE P "__module__" 196 (.str "lotmeal.errors" 187)),(L2.dE P "__firstlineno__" 200 (.int 2 199)),(L2.dE P "__static_attributes__" 201 (.ref 22)),(L2.dE P "__weakref__" 203 (.ref 25)),(L2.dE P "__doc__" 204 .none)] 3) #[])) ::
 (nat_lit 24,(Obj.mk (.type "type") none (.cls (ClassData.mk "LotError" [(.type "ValueError")] [(.ref 24),(.type "ValueError"),(.type "Exception"),(.type "BaseException"),(.type "object")] 23 "LotError" true [] [(.ref 37),(.ref 49),(.ref 61),(.ref 80),(.ref 99)] false none false)) #[(some (.ref 15)),none,(some (.str "LotError" 189)),(some (.str "LotError" 197)),(some (.builtin "ValueError.__new__")),(some (.bool true))])) ::
 (nat_lit 25,(Obj.mk (.type "getset_descriptor") none (.fields #[(.str "__weakref__" 202),(.ref 24),(.builtin "ExceptionGroup.__weakref__"),.none]) #[])) ::
 (nat_lit 28,(L2.oT #[(.ref 24)])) ::
 (nat_lit 35,L2.o0) ::
 (nat_lit 36,(Obj.mk (.type "dict") none (.dict #[(L2.dE P "__module__" 214 (.str "lotmeal.errors" 187)),(L2.dE P "__firstlineno__" 218 (.int 4 217)),(L2.dE P "__static_attributes__" 219 (.ref 35)),(L2.dE P "__doc__" 220 .none)] 2) #[])) ::
 (nat_lit 37,(Obj.mk (.type "type") none (.cls (ClassData.mk "NoNumber" [(.ref 24)] [(.ref 37),(.ref 24),(.type "ValueError"),(.type "Exception"),(.type "BaseException"),(.type "object")] 36 "NoNumber" true [] [] false none false)) #[(some (.ref 28)),none,(some (.str "NoNumber" 207)),(some (.str "NoNumber" 215)),(some (.builtin "ValueError.__new__")),(some (.bool true))])) ::
 (nat_lit 40,(L2.oT #[(.ref 24)])) ::
 (nat_lit 47,L2.o0) ::
 (nat_lit 48,(Obj.mk (.type "dict") none (.dict #[(L2.dE P "__module__" 230 (.str "lotmeal.errors" 187)),(L2.dE P "__firstlineno__" 234 (.int 6 233)),(L2.dE P "__static_attributes__" 235 (.ref 47)),(L2.dE P "__doc__" 236 .none)] 2) #[])) ::
 (nat_lit 49,(Obj.mk (.type "type") none (.cls (ClassData.mk "TooGreat" [(.ref 24)] [(.ref 49),(.ref 24),(.type "ValueError"),(.type "Exception"),(.type "BaseException"),(.type "object")] 48 "TooGreat" true [] [] false none false)) #[(some (.ref 40)),none,(some (.str "TooGreat" 223)),(some (.str "TooGreat" 231)),(some (.builtin "ValueError.__new__")),(some (.bool true))])) ::
 (nat_lit 52,(L2.oT #[(.ref 24)])) ::
 (nat_lit 59,L2.o0) ::
 (nat_lit 60,(Obj.mk (.type "dict") none (.dict #[(L2.dE P "__module__" 246 (.str "lotmeal.errors" 187)),(L2.dE P "__firstlineno__" 250 (.int 8 249)),(L2.dE P "__static_attributes__" 251 (.ref 59)),(L2.dE P "__doc__" 252 .none)] 2) #[])) ::
 (nat_lit 61,(Obj.mk (.type "type") none (.cls (ClassData.mk "NoAsker" [(.ref 24)] [(.ref 61),(.ref 24),(.type "ValueError"),(.type "Exception"),(.type "BaseException"),(.type "object")] 60 "NoAsker" true [] [] false none false)) #[(some (.ref 52)),none,(some (.str "NoAsker" 239)),(some (.str "NoAsker" 247)),(some (.builtin "ValueError.__new__")),(some (.bool true))])) ::
 (nat_lit 64,(L2.oT #[(.ref 24)])) ::
 (nat_lit 71,L2.o0) ::
 (nat_lit 73,(L2.oT #[(.str "self" 270),(.str "asker" 271)])) ::
 (nat_lit 74,L2.o0) ::
 (nat_lit 76,(L2.oC #[(.str "__init__" 267),(.str "NoThing.__init__" 268),(.str "/claim/cut.py" 269),(.int 12 0),(.int 2 0),(.int 0 0),(.int 0 0),(.int 3 0),(.ref 71),(.bool true),(.int 181 0),(.ref 72),.none,(.ref 73),(.ref 74),(.ref 75),(.int 272 0),(.int 12 0),(.str "/claim/cut.py" 273)])) ::
 (nat_lit 77,(Obj.mk (.type "function") none (.func (FuncData.mk "__init__" "NoThing.__init__" (L2.dA (L2.dM (tp 5) 0)) (.stmts (L2.dB (L2.dM (tp 5) 0))) (L2.dS (L2.dM (tp 5) 0)) 3 [] .none .none .none (.str "lotmeal.errors" 187) none (.ref 76) .none 0)) #[])) ::
 (nat_lit 78,(L2.oT #[(.str "asker" 275)])) ::
 (nat_lit 79,(Obj.mk (.type "dict") none (.dict #[(L2.dE P "__module__" 262 (.str "lotmeal.errors" 187)),(L2.dE P "__firstlineno__" 266 (.int 10 265)),(L2.dE P "__init__" 274 (.ref 77)),(L2.dE P "__static_attributes__" 276 (.ref 78)),(L2.dE P "__doc__" 277 .none)] 2) #[])) ::
 (nat_lit 80,(Obj.mk (.type "type") none (.cls (ClassData.mk "NoThing" [(.ref 24)] [(.ref 80),(.ref 24),(.type "ValueError"),(.type "Exception"),(.type "BaseException"),(.type "object")] 79 "NoThing" true [] [] false none false)) #[(some (.ref 64)),none,(some (.str "NoThing" 255)),(some (.str "NoThing" 263)),(some (.builtin "ValueError.__new__")),(some (.bool true))])) ::
 (nat_lit 83,(L2.oT #[(.ref 24)])) ::
 (nat_lit 90,L2.o0) ::
 (nat_lit 92,(L2.oT #[(.str "self" 295),(.str "asker" 296)])) ::
 (nat_lit 93,L2.o0) ::
 (nat_lit 95,(L2.oC #[(.str "__init__" 292),(.str "Twice.__init__" 293),(.str "/claim/cut.py" 294),(.int 17 0),(.int 2 0),(.int 0 0),(.int 0 0),(.int 3 0),(.ref 90),(.bool true),(.int 181 0),(.ref 91),.none,(.ref 92),(.ref 93),(.ref 94),(.int 297 0),(.int 17 0),(.str "/claim/cut.py" 298)])) ::
 (nat_lit 96,(Obj.mk (.type "function") none (.func (FuncData.mk "__init__" "Twice.__init__" (L2.dA (L2.dM (tp 6) 0)) (.stmts (L2.dB (L2.dM (tp 6) 0))) (L2.dS (L2.dM (tp 6) 0)) 3 [] .none .none .none (.str "lotmeal.errors" 187) none (.ref 95) .none 0)) #[])) ::
 (nat_lit 97,(L2.oT #[(.str "asker" 300)])) ::
 (nat_lit 98,(Obj.mk (.type "dict") none (.dict #[(L2.dE P "__module__" 287 (.str "lotmeal.errors" 187)),(L2.dE P "__firstlineno__" 291 (.int 15 290)),(L2.dE P "__init__" 299 (.ref 96)),(L2.dE P "__static_attributes__" 301 (.ref 97)),(L2.dE P "__doc__" 302 .none)] 2) #[])) ::
 (nat_lit 99,(Obj.mk (.type "type") none (.cls (ClassData.mk "Twice" [(.ref 24)] [(.ref 99),(.ref 24),(.type "ValueError"),(.type "Exception"),(.type "BaseException"),(.type "object")] 98 "Twice" true [] [] false none false)) #[(some (.ref 83)),none,(some (.str "Twice" 280)),(some (.str "Twice" 288)),(some (.builtin "ValueError.__new__")),(some (.bool true))])) ::
 (nat_lit 102,L2.o0) ::
 (nat_lit 104,(L2.oT #[(.str "number" 310)])) ::
 (nat_lit 105,L2.o0) ::
 (nat_lit 107,(L2.oD "is_whole" 307 21 1 102 103 (.ref 104) (.ref 105) 106 311)) ::
 (nat_lit 108,(L2.oF "is_whole" (tp 8) .none (.str "lotmeal.fractions" 305) (.ref 107))) ::
 (nat_lit 109,L2.o0) ::
 (nat_lit 111,(L2.oT #[(.str "one" 317),(.str "other" 318),(.str "rest" 319)])) ::
 (nat_lit 112,L2.o0) ::
 (nat_lit 114,(L2.oD "common_part" 314 23 2 109 110 (.ref 111) (.ref 112) 113 320)) ::
 (nat_lit 115,(L2.oF "common_part" (tp 9) .none (.str "lotmeal.fractions" 305) (.ref 114))) ::
 (nat_lit 116,(L2.oT #[(.int 1 323)])) ::
 (nat_lit 117,L2.o0) ::
 (nat_lit 119,(L2.oT #[(.str "top" 327),(.str "bottom" 328),(.str "part" 329)])) ::
 (nat_lit 120,L2.o0) ::
 (nat_lit 122,(L2.oD "fraction" 324 29 2 117 118 (.ref 119) (.ref 120) 121 330)) ::
 (nat_lit 123,(L2.oF "fraction" (tp 10) (.ref 116) (.str "lotmeal.fractions" 305) (.ref 122))) ::
 (nat_lit 124,L2.o0) ::
 (nat_lit 126,(L2.oT #[(.str "one" 336),(.str "other" 337)])) ::
 (nat_lit 127,L2.o0) ::
 (nat_lit 129,(L2.oD "plus" 333 38 2 124 125 (.ref 126) (.ref 127) 128 338)) ::
 (nat_lit 130,(L2.oF "plus" (tp 11) .none (.str "lotmeal.fractions" 305) (.ref 129))) ::
 (nat_lit 131,L2.o0) ::
 (nat_lit 133,(L2.oT #[(.str "one" 344),(.str "other" 345)])) ::
 (nat_lit 134,L2.o0) ::
 (nat_lit 136,(L2.oD "minus" 341 40 2 131 132 (.ref 133) (.ref 134) 135 346)) ::
 (nat_lit 137,(L2.oF "minus" (tp 12) .none (.str "lotmeal.fractions" 305) (.ref 136))) ::
 (nat_lit 138,L2.o0) ::
 (nat_lit 140,(L2.oT #[(.str "one" 352),(.str "other" 353)])) ::
 (nat_lit 141,L2.o0) ::
 (nat_lit 143,(L2.oD "times" 349 42 2 138 139 (.ref 140) (.ref 141) 142 354)) ::
 (nat_lit 144,(L2.oF "times" (tp 13) .none (.str "lotmeal.fractions" 305) (.ref 143))) ::
 (nat_lit 145,L2.o0) ::
 (nat_lit 147,(L2.oT #[(.str "one" 360),(.str "other" 361)])) ::
 (nat_lit 148,L2.o0) ::
 (nat_lit 150,(L2.oD "over" 357 44 2 145 146 (.ref 147) (.ref 148) 149 362)) ::
 (nat_lit 151,(L2.oF "over" (tp 14) .none (.str "lotmeal.fractions" 305) (.ref 150))) ::
 (nat_lit 152,L2.o0) ::
 (nat_lit 154,(L2.oT #[(.str "one" 368),(.str "other" 369)])) ::
 (nat_lit 155,L2.o0) ::
 (nat_lit 157,(L2.oD "under" 365 48 2 152 153 (.ref 154) (.ref 155) 156 370)) ::
 (nat_lit 158,(L2.oF "under" (tp 15) .none (.str "lotmeal.fractions" 305) (.ref 157))) ::
 (nat_lit 159,L2.o0) ::
 (nat_lit 161,(L2.oT #[(.str "some" 376),(.str "total" 377),(.str "one" 378)])) ::
 (nat_lit 162,L2.o0) ::
 (nat_lit 164,(L2.oD "sum_of" 373 50 1 159 160 (.ref 161) (.ref 162) 163 379)) ::
 (nat_lit 165,(L2.oF "sum_of" (tp 16) .none (.str "lotmeal.fractions" 305) (.ref 164))) ::
 (nat_lit 166,L2.o0) ::
 (nat_lit 168,(L2.oT #[(.str "some" 385),(.str "least" 386),(.str "one" 387)])) ::
 (nat_lit 169,L2.o0) ::
 (nat_lit 171,(L2.oD "common_bottom" 382 55 1 166 167 (.ref 168) (.ref 169) 170 388)) ::
 (nat_lit 172,(L2.oF "common_bottom" (tp 17) .none (.str "lotmeal.fractions" 305) (.ref 171))) ::
 (nat_lit 173,L2.o0) ::
 (nat_lit 175,(L2.oT #[(.str "some" 394),(.str "least" 395),(.str "one" 396)])) ::
 (nat_lit 176,L2.o0) ::
 (nat_lit 178,(L2.oD "least_of" 391 60 1 173 174 (.ref 175) (.ref 176) 177 397)) ::
 (nat_lit 179,(L2.oF "least_of" (tp 18) .none (.str "lotmeal.fractions" 305) (.ref 178))) ::
 (nat_lit 180,L2.o0) ::
 (nat_lit 183,(L2.oD "bottom_of_all" 400 66 1 180 181 .none .none 182 403)) ::
 (nat_lit 184,(L2.oF "bottom_of_all" (tp 19) .none (.str "lotmeal.fractions" 305) (.ref 183))) ::
 (nat_lit 185,L2.o0) ::
 (nat_lit 187,(L2.oT #[(.str "one" 409),(.str "bottom" 410)])) ::
 (nat_lit 188,L2.o0) ::
 (nat_lit 190,(L2.oD "parts_of" 406 68 2 185 186 (.ref 187) (.ref 188) 189 411)) ::
 (nat_lit 191,(L2.oF "parts_of" (tp 20) .none (.str "lotmeal.fractions" 305) (.ref 190))) ::
 (nat_lit 192,L2.o0) ::
 (nat_lit 195,(L2.oD "check_orders" 420 73 2 192 193 .none .none 194 423)) ::
 (nat_lit 196,(L2.oF "check_orders" (tp 24) .none (.str "lotmeal.tables" 414) (.ref 195))) ::
 (nat_lit 197,L2.o0) ::
 (nat_lit 200,(L2.oD "table_of" 426 80 2 197 198 .none .none 199 429)) ::
 (nat_lit 201,(L2.oF "table_of" (tp 25) .none (.str "lotmeal.tables" 414) (.ref 200))) ::
 (nat_lit 202,L2.o0) ::
 (nat_lit 205,(L2.oD "full_order" 432 89 2 202 203 .none .none 204 435)) ::
 (nat_lit 206,(L2.oF "full_order" (tp 26) .none (.str "lotmeal.tables" 414) (.ref 205))) ::
 (nat_lit 207,L2.o0) ::
 (nat_lit 210,(L2.oD "first_left" 438 93 2 207 208 .none .none 209 441)) ::
 (nat_lit 211,(L2.oF "first_left" (tp 27) .none (.str "lotmeal.tables" 414) (.ref 210))) ::
 (nat_lit 212,L2.o0) ::
 (nat_lit 215,(L2.oD "dealt_of" 444 95 2 212 213 .none .none 214 447)) ::
 (nat_lit 216,(L2.oF "dealt_of" (tp 28) .none (.str "lotmeal.tables" 414) (.ref 215))) ::
 (nat_lit 217,L2.o0) ::
 (nat_lit 220,(L2.oD "wishes" 452 98 2 217 218 .none .none 219 455)) ::
 (nat_lit 221,(L2.oF "wishes" (tp 30) .none (.str "lotmeal.judged" 450) (.ref 220))) ::
 (nat_lit 222,L2.o0) ::
 (nat_lit 225,(L2.oD "over_pairs" 458 106 2 222 223 .none .none 224 461)) ::
 (nat_lit 226,(L2.oF "over_pairs" (tp 31) .none (.str "lotmeal.judged" 450) (.ref 225))) ::
 (nat_lit 227,L2.o0) ::
 (nat_lit 230,(L2.oD "full_things" 464 108 2 227 228 .none .none 229 467)) ::
 (nat_lit 231,(L2.oF "full_things" (tp 32) .none (.str "lotmeal.judged" 450) (.ref 230))) ::
 (nat_lit 232,L2.o0) ::
 (nat_lit 235,(L2.oD "lined_up" 470 110 2 232 233 .none .none 234 473)) ::
 (nat_lit 236,(L2.oF "lined_up" (tp 33) .none (.str "lotmeal.judged" 450) (.ref 235))) ::
 (nat_lit 237,L2.o0) ::
 (nat_lit 240,(L2.oD "ring_among" 476 120 2 237 238 .none .none 239 479)) ::
 (nat_lit 241,(L2.oF "ring_among" (tp 34) .none (.str "lotmeal.judged" 450) (.ref 240))) ::
 (nat_lit 242,L2.o0) ::
 (nat_lit 245,(L2.oD "judged" 482 129 2 242 243 .none .none 244 485)) ::
 (nat_lit 246,(L2.oF "judged" (tp 35) .none (.str "lotmeal.judged" 450) (.ref 245))) ::
 (nat_lit 254,L2.o0) ::
 (nat_lit 257,(L2.oC #[(.str "__init__" 502),(.str "Market.__init__" 503),(.str "/claim/cut.py" 504),(.int 144 0),(.int 4 0),(.int 0 0),(.int 0 0),(.int 3 0),(.ref 254),(.bool true),(.int 181 0),(.ref 255),.none,.none,.none,(.ref 256),(.int 505 0),(.int 144 0),(.str "/claim/cut.py" 506)])) ::
 (nat_lit 258,(Obj.mk (.type "function") none (.func (FuncData.mk "__init__" "Market.__init__" (L2.dA (L2.dM (tp 37) 0)) (.stmts (L2.dB (L2.dM (tp 37) 0))) (L2.dS (L2.dM (tp 37) 0)) 3 [] .none .none .none (.str "lotmeal.better" 488) none (.ref 257) .none 0)) #[])) ::
 (nat_lit 259,L2.o0) ::
 (nat_lit 262,(L2.oC #[(.str "wanting" 508),(.str "Market.wanting" 509),(.str "/claim/cut.py" 510),(.int 152 0),(.int 1 0),(.int 0 0),(.int 0 0),(.int 3 0),(.ref 259),(.bool true),(.int 181 0),(.ref 260),.none,.none,.none,(.ref 261),(.int 511 0),(.int 152 0),(.str "/claim/cut.py" 512)])) ::
 (nat_lit 263,(Obj.mk (.type "function") none (.func (FuncData.mk "wanting" "Market.wanting" (L2.dA (L2.dM (tp 37) 1)) (.stmts (L2.dB (L2.dM (tp 37) 1))) (L2.dS (L2.dM (tp 37) 1)) 3 [] .none .none .none (.str "lotmeal.better" 488) none (.ref 262) .none 0)) #[])) ::
 (nat_lit 264,L2.o0) ::
 (nat_lit 267,(L2.oC #[(.str "owners" 514),(.str "Market.owners" 515),(.str "/claim/cut.py" 516),(.int 155 0),(.int 2 0),(.int 0 0),(.int 0 0),(.int 3 0),(.ref 264),(.bool true),(.int 181 0),(.ref 265),.none,.none,.none,(.ref 266),(.int 517 0),(.int 155 0),(.str "/claim/cut.py" 518)])) ::
 (nat_lit 268,(Obj.mk (.type "function") none (.func (FuncData.mk "owners" "Market.owners" (L2.dA (L2.dM (tp 37) 2)) (.stmts (L2.dB (L2.dM (tp 37) 2))) (L2.dS (L2.dM (tp 37) 2)) 3 [] .none .none .none (.str "lotmeal.better" 488) none (.ref 267) .none 0)) #[])) ::
 (nat_lit 269,L2.o0) ::
 (nat_lit 272,(L2.oC #[(.str "gone" 520),(.str "Market.gone" 521),(.str "/claim/cut.py" 522),(.int 158 0),(.int 1 0),(.int 0 0),(.int 0 0),(.int 3 0),(.ref 269),(.bool true),(.int 181 0),(.ref 270),.none,.none,.none,(.ref 271),(.int 523 0),(.int 158 0),(.str "/claim/cut.py" 524)])) ::
 (nat_lit 273,(Obj.mk (.type "function") none (.func (FuncData.mk "gone" "Market.gone" (L2.dA (L2.dM (tp 37) 3)) (.stmts (L2.dB (L2.dM (tp 37) 3))) (L2.dS (L2.dM (tp 37) 3)) 3 [] .none .none .none (.str "lotmeal.better" 488) none (.ref 272) .none 0)) #[])) ::
 (nat_lit 274,L2.o0) ::
 (nat_lit 276,(L2.oT #[(.str "self" 529),(.str "one" 530)])) ::
 (nat_lit 277,L2.o0) ::
 (nat_lit 279,(L2.oC #[(.str "giver" 526),(.str "Market.giver" 527),(.str "/claim/cut.py" 528),(.int 161 0),(.int 2 0),(.int 0 0),(.int 0 0),(.int 3 0),(.ref 274),(.bool true),(.int 181 0),(.ref 275),.none,(.ref 276),(.ref 277),(.ref 278),(.int 531 0),(.int 161 0),(.str "/claim/cut.py" 532)])) ::
 (nat_lit 280,(Obj.mk (.type "function") none (.func (FuncData.mk "giver" "Market.giver" (L2.dA (L2.dM (tp 37) 4)) (.stmts (L2.dB (L2.dM (tp 37) 4))) (L2.dS (L2.dM (tp 37) 4)) 3 [] .none .none .none (.str "lotmeal.better" 488) none (.ref 279) .none 0)) #[])) ::
 (nat_lit 281,L2.o0) ::
 (nat_lit 283,(L2.oT #[(.str "self" 537),(.str "gone" 538),(.str "rows" 539),(.str "passed" 540),(.str "asker" 541),(.str "one" 542)])) ::
 (nat_lit 284,L2.o0) ::
 (nat_lit 286,(L2.oC #[(.str "ring" 534),(.str "Market.ring" 535),(.str "/claim/cut.py" 536),(.int 164 0),(.int 1 0),(.int 0 0),(.int 0 0),(.int 3 0),(.ref 281),(.bool true),(.int 181 0),(.ref 282),.none,(.ref 283),(.ref 284),(.ref 285),(.int 543 0),(.int 164 0),(.str "/claim/cut.py" 544)])) ::
 (nat_lit 287,(Obj.mk (.type "function") none (.func (FuncData.mk "ring" "Market.ring" (L2.dA (L2.dM (tp 37) 5)) (.stmts (L2.dB (L2.dM (tp 37) 5))) (L2.dS (L2.dM (tp 37) 5)) 3 [] .none .none .none (.str "lotmeal.better" 488) none (.ref 286) .none 0)) #[])) ::
 (nat_lit 288,L2.o0) ::
 (nat_lit 290,(L2.oT #[(.str "self" 549),(.str "one" 550),(.str "giver" 551)])) ::
 (nat_lit 291,L2.o0) ::
 (nat_lit 293,(L2.oC #[(.str "source" 546),(.str "Market.source" 547),(.str "/claim/cut.py" 548),(.int 176 0),(.int 3 0),(.int 0 0),(.int 0 0),(.int 3 0),(.ref 288),(.bool true),(.int 181 0),(.ref 289),.none,(.ref 290),(.ref 291),(.ref 292),(.int 552 0),(.int 176 0),(.str "/claim/cut.py" 553)])) ::
 (nat_lit 294,(Obj.mk (.type "function") none (.func (FuncData.mk "source" "Market.source" (L2.dA (L2.dM (tp 37) 6)) (.stmts (L2.dB (L2.dM (tp 37) 6))) (L2.dS (L2.dM (tp 37) 6)) 3 [] .none .none .none (.str "lotmeal.better" 488) none (.ref 293) .none 0)) #[])) ::
 (nat_lit 295,L2.o0) ::
 (nat_lit 298,(L2.oC #[(.str "leave" 555),(.str "Market.leave" 556),(.str "/claim/cut.py" 557),(.int 179 0),(.int 2 0),(.int 0 0),(.int 0 0),(.int 3 0),(.ref 295),(.bool true),(.int 181 0),(.ref 296),.none,.none,.none,(.ref 297),(.int 558 0),(.int 179 0),(.str "/claim/cut.py" 559)])) ::
 (nat_lit 299,(Obj.mk (.type "function") none (.func (FuncData.mk "leave" "Market.leave" (L2.dA (L2.dM (tp 37) 7)) (.stmts (L2.dB (L2.dM (tp 37) 7))) (L2.dS (L2.dM (tp 37) 7)) 3 [] .none .none .none (.str "lotmeal.better" 488) none (.ref 298) .none 0)) #[])) ::
 (nat_lit 300,L2.o0) ::
 (nat_lit 303,(L2.oC #[(.str "trade" 561),(.str "Market.trade" 562),(.str "/claim/cut.py" 563),(.int 183 0),(.int 1 0),(.int 0 0),(.int 0 0),(.int 3 0),(.ref 300),(.bool true),(.int 181 0),(.ref 301),.none,.none,.none,(.ref 302),(.int 564 0),(.int 183 0),(.str "/claim/cut.py" 565)])) ::
 (nat_lit 304,(Obj.mk (.type "function") none (.func (FuncData.mk "trade" "Market.trade" (L2.dA (L2.dM (tp 37) 8)) (.stmts (L2.dB (L2.dM (tp 37) 8))) (L2.dS (L2.dM (tp 37) 8)) 3 [] .none .none .none (.str "lotmeal.better" 488) none (.ref 303) .none 0)) #[])) ::
 (nat_lit 305,(L2.oT #[(.str "got" 567),(.str "orders" 568),(.str "owned" 569),(.str "spare" 570),(.str "wanted" 571)])) ::
 (nat_lit 306,(Obj.mk (.type "dict") none (.dict #[(L2.dE P "__module__" 497 (.str "lotmeal.better" 488)),(L2.dE P "__firstlineno__" 501 (.int 142 500)),(L2.dE P "__init__" 507 (.ref 258)),(L2.dE P "wanting" 513 (.ref 263)),(L2.dE P "owners" 519 (.ref 268)),(L2.dE P "gone" 525 (.ref 273)),(L2.dE P "giver" 533 (.ref 280)),(L2.dE P "ring" 545 (.ref 287)),(L2.dE P "source" 554 (.ref 294)),(L2.dE P "leave" 560 (.ref 299)),(L2.dE P "trade" 566 (.ref 304)),(L2.dE P "__static_attributes__" 572 (.ref 305)),(L2.dE P "__dict__" 574 (.ref 308)),(L2.dE P "__weakref__" 576 (.ref 309)),(L2.dE P "__doc__" 577 .none)] 4) #[])) ::
 (nat_lit 307,(Obj.mk (.type "type") none (.cls (ClassData.mk "Market" [(.type "object")] [(.ref 307),(.type "object")] 306 "Market" true [] [] false none false)) #[none,none,(some (.str "Market" 490)),(some (.str "Market" 498)),(some (.builtin "object.__new__")),(some (.bool true))])) ::
 (nat_lit 308,(Obj.mk (.type "getset_descriptor") none (.fields #[(.str "__dict__" 573),(.ref 307),(.builtin "function.__dict__"),(.builtin "function.__dict__#set")]) #[])) ::
 (nat_lit 309,(Obj.mk (.type "getset_descriptor") none (.fields #[(.str "__weakref__" 575),(.ref 307),(.builtin "ExceptionGroup.__weakref__"),.none]) #[])) ::
 (nat_lit 312,L2.o0) ::
 (nat_lit 315,(L2.oD "bettered" 580 195 2 312 313 .none .none 314 583)) ::
 (nat_lit 316,(L2.oF "bettered" (tp 38) .none (.str "lotmeal.better" 488) (.ref 315))) ::
 (nat_lit 317,L2.o0) ::
 (nat_lit 320,(L2.oD "next_length" 588 204 3 317 318 .none .none 319 591)) ::
 (nat_lit 321,(L2.oF "next_length" (tp 40) .none (.str "lotmeal.meal" 586) (.ref 320))) ::
 (nat_lit 322,L2.o0) ::
 (nat_lit 325,(L2.oD "left_behind" 594 207 3 322 323 .none .none 324 597)) ::
 (nat_lit 326,(L2.oF "left_behind" (tp 41) .none (.str "lotmeal.meal" 586) (.ref 325))) ::
 (nat_lit 327,L2.o0) ::
 (nat_lit 330,(L2.oD "ended_things" 600 209 1 327 328 .none .none 329 603)) ::
 (nat_lit 331,(L2.oF "ended_things" (tp 42) .none (.str "lotmeal.meal" 586) (.ref 330))) ::
 (nat_lit 332,L2.o0) ::
 (nat_lit 335,(L2.oD "meal_steps" 606 211 1 332 333 .none .none 334 609)) ::
 (nat_lit 336,(L2.oF "meal_steps" (tp 43) .none (.str "lotmeal.meal" 586) (.ref 335))) ::
 (nat_lit 337,L2.o0) ::
 (nat_lit 340,(L2.oD "eaten_by" 612 224 3 337 338 .none .none 339 615)) ::
 (nat_lit 341,(L2.oF "eaten_by" (tp 44) .none (.str "lotmeal.meal" 586) (.ref 340))) ::
 (nat_lit 342,L2.o0) ::
 (nat_lit 345,(L2.oD "meal" 618 226 1 342 343 .none .none 344 621)) ::
 (nat_lit 346,(L2.oF "meal" (tp 45) .none (.str "lotmeal.meal" 586) (.ref 345))) ::
 (nat_lit 347,L2.o0) ::
 (nat_lit 350,(L2.oD "ends" 626 232 1 347 348 .none .none 349 629)) ::
 (nat_lit 351,(L2.oF "ends" (tp 47) .none (.str "lotmeal.walked" 624) (.ref 350))) ::
 (nat_lit 352,L2.o0) ::
 (nat_lit 354,(L2.oT #[(.str "_law_script" 637),(.str "_law_k" 638)])) ::
 (nat_lit 355,L2.o0) ::
 (nat_lit 357,(L2.oD "_law_cell_at" 634 241 2 352 353 (.ref 354) (.ref 355) 356 639)) ::
 (nat_lit 358,(L2.oF "_law_cell_at" (tp 49) .none (.str "law_lotmeal_k24_meals_are_good" 632) (.ref 357))) ::
 (nat_lit 359,L2.o0) ::
 (nat_lit 361,(L2.oT #[(.str "_law_cell" 645),(.str "_law_many" 646),(.str "_law_drawn" 647),(.str "_law_found" 648),(.str "_law_k" 649)])) ::
 (nat_lit 362,L2.o0) ::
 (nat_lit 364,(L2.oD "_law_stream" 642 245 2 359 360 (.ref 361) (.ref 362) 363 650)) ::
 (nat_lit 365,(L2.oF "_law_stream" (tp 50) .none (.str "law_lotmeal_k24_meals_are_good" 632) (.ref 364))) ::
 (nat_lit 366,L2.o0) ::
 (nat_lit 368,(L2.oT #[(.str "_law_cell" 656),(.str "_law_many" 657),(.str "_law_some" 658),(.str "_law_left_here" 659),(.str "_law_order_here" 660),(.str "_law_k" 661)])) ::
 (nat_lit 369,L2.o0) ::
 (nat_lit 371,(L2.oD "_law_order" 653 252 2 366 367 (.ref 368) (.ref 369) 370 662)) ::
 (nat_lit 372,(L2.oF "_law_order" (tp 51) .none (.str "law_lotmeal_k24_meals_are_good" 632) (.ref 371))) ::
 (nat_lit 373,L2.o0) ::
 (nat_lit 375,(L2.oT #[(.str "_law_cells" 668),(.str "_law_many" 669),(.str "_law_orders_here" 670),(.str "_law_cell" 671)])) ::
 (nat_lit 376,L2.o0) ::
 (nat_lit 378,(L2.oD "_law_orders" 665 261 2 373 374 (.ref 375) (.ref 376) 377 672)) ::
 (nat_lit 379,(L2.oF "_law_orders" (tp 52) .none (.str "law_lotmeal_k24_meals_are_good" 632) (.ref 378))) ::
 (nat_lit 380,L2.o0) ::
 (nat_lit 382,(L2.oT #[(.str "_law_cell" 678),(.str "_law_many" 679),(.str "_law_found" 680),(.str "_law_one" 681)])) ::
 (nat_lit 383,L2.o0) ::
 (nat_lit 385,(L2.oD "_law_counts" 675 269 2 380 381 (.ref 382) (.ref 383) 384 682)) ::
 (nat_lit 386,(L2.oF "_law_counts" (tp 53) .none (.str "law_lotmeal_k24_meals_are_good" 632) (.ref 385))) ::
 (nat_lit 387,L2.o0) ::
 (nat_lit 389,(L2.oT #[(.str "_law_one" 688),(.str "_law_other" 689)])) ::
 (nat_lit 390,L2.o0) ::
 (nat_lit 392,(L2.oD "_law_divisor" 685 274 2 387 388 (.ref 389) (.ref 390) 391 690)) ::
 (nat_lit 393,(L2.oF "_law_divisor" (tp 54) .none (.str "law_lotmeal_k24_meals_are_good" 632) (.ref 392))) ::
 (nat_lit 394,L2.o0) ::
 (nat_lit 396,(L2.oT #[(.str "_law_top" 696),(.str "_law_bottom" 697),(.str "_law_by" 698)])) ::
 (nat_lit 397,L2.o0) ::
 (nat_lit 399,(L2.oD "_law_lowest" 693 278 2 394 395 (.ref 396) (.ref 397) 398 699)) ::
 (nat_lit 400,(L2.oF "_law_lowest" (tp 55) .none (.str "law_lotmeal_k24_meals_are_good" 632) (.ref 399))) ::
 (nat_lit 401,L2.o0) ::
 (nat_lit 404,(L2.oD "_law_full" 702 281 2 401 402 .none .none 403 705)) ::
 (nat_lit 405,(L2.oF "_law_full" (tp 56) .none (.str "law_lotmeal_k24_meals_are_good" 632) (.ref 404))) ::
 (nat_lit 406,L2.o0) ::
 (nat_lit 408,(L2.oT #[(.str "_law_one" 711),(.str "_law_other" 712)])) ::
 (nat_lit 409,L2.o0) ::
 (nat_lit 411,(L2.oD "_law_plus" 708 283 2 406 407 (.ref 408) (.ref 409) 410 713)) ::
 (nat_lit 412,(L2.oF "_law_plus" (tp 57) .none (.str "law_lotmeal_k24_meals_are_good" 632) (.ref 411))) ::
 (nat_lit 413,L2.o0) ::
 (nat_lit 415,(L2.oT #[(.str "_law_one" 719),(.str "_law_other" 720)])) ::
 (nat_lit 416,L2.o0) ::
 (nat_lit 418,(L2.oD "_law_under" 716 285 2 413 414 (.ref 415) (.ref 416) 417 721)) ::
 (nat_lit 419,(L2.oF "_law_under" (tp 58) .none (.str "law_lotmeal_k24_meals_are_good" 632) (.ref 418))) ::
 (nat_lit 434,L2.o0) ::
 (nat_lit 436,(L2.oT #[(.str "_law_shares" 749),(.str "_law_one" 750),(.str "_law_total" 751),(.str "_law_row" 752)])) ::
 (nat_lit 437,L2.o0) ::
 (nat_lit 439,(L2.oD "_law_column" 746 299 2 434 435 (.ref 436) (.ref 437) 438 753)) ::
 (nat_lit 440,(L2.oF "_law_column" (tp 61) .none (.str "law_lotmeal_k24_meals_are_good" 632) (.ref 439))) ::
 (nat_lit 441,L2.o0) ::
 (nat_lit 444,(L2.oD "_law_wishes" 756 304 3 441 442 .none .none 443 759)) ::
 (nat_lit 445,(L2.oF "_law_wishes" (tp 62) .none (.str "law_lotmeal_k24_meals_are_good" 632) (.ref 444))) ::
 (nat_lit 446,L2.o0) ::
 (nat_lit 448,(L2.oT #[(.str "_law_counts_here" 765),(.str "_law_shares" 766),(.str "_law_wishes_here" 767),(.str "_law_found" 768),(.str "_law_asker" 769),(.str "_law_better" 770),(.str "_law_one" 771)])) ::
 (nat_lit 449,L2.o0) ::
 (nat_lit 451,(L2.oD "_law_left" 762 312 3 446 447 (.ref 448) (.ref 449) 450 772)) ::
 (nat_lit 452,(L2.oF "_law_left" (tp 63) .none (.str "law_lotmeal_k24_meals_are_good" 632) (.ref 451))) ::
 (nat_lit 453,L2.o0) ::
 (nat_lit 455,(L2.oT #[(.str "_law_counts_here" 778),(.str "_law_stops" 779),(.str "_law_better" 780),(.str "_law_one" 781)])) ::
 (nat_lit 456,L2.o0) ::
 (nat_lit 458,(L2.oD "_law_ahead" 775 318 4 453 454 (.ref 455) (.ref 456) 457 782)) ::
 (nat_lit 459,(L2.oF "_law_ahead" (tp 64) .none (.str "law_lotmeal_k24_meals_are_good" 632) (.ref 458))) ::
 (nat_lit 460,L2.o0) ::
 (nat_lit 463,(L2.oD "law" 785 322 1 460 461 .none .none 462 788)) ::
 (nat_lit 464,(L2.oF "law" (tp 65) .none (.str "law_lotmeal_k24_meals_are_good" 632) (.ref 463)))::[]
def hA:List Addr:=[2,3,15,22,23,24,25,28,35,36,37,40,47,48,49,52,59,60,61,64,71,73,74,76,77,78,79,80,83,90,92,93,95,96,97,98,99,102,104,105,107,108,109,111,112,114,115,116,117,119,120,122,123,124,126,127,129,130,131,133,134,136,137,138,140,141,143,144,145,147,148,150,151,152,154,155,157,158,159,161,162,164,165,166,168,169,171,172,173,175,176,178,179,180,183,184,185,187,188,190,191,192,195,196,197,200,201,202,205,206,207,210,211,212,215,216,217,220,221,222,225,226,227,230,231,232,235,236,237,240,241,242,245,246,254,257,258,259,262,263,264,267,268,269,272,273,274,276,277,279,280,281,283,284,286,287,288,290,291,293,294,295,298,299,300,303,304,305,306,307,308,309,312,315,316,317,320,321,322,325,326,327,330,331,332,335,336,337,340,341,342,345,346,347,350,351,352,354,355,357,358,359,361,362,364,365,366,368,369,371,372,373,375,376,378,379,380,382,383,385,386,387,389,390,392,393,394,396,397,399,400,401,404,405,406,408,409,411,412,413,415,416,418,419,434,436,437,439,440,441,444,445,446,448,449,451,452,453,455,456,458,459,460,463,464]
theorem tj (P:Params):hA=(hK P).map (·.1):=by kernel_rfl
def hV:Program:={ pr with main:={ pr.main with body:=[1,2,3,4,5,6,8,9,11,12,13,14,15,16,17,18,19,20,22,23,24,25,26,27,28,30,31,32,33,34,35,37,38,40,41,42,43,44,45,47,49,50,51,52,53,54,55,56,57,58,59,60,61,62,63,64,65].map tp } }
def hX (s:Shared):Bool:=xlAt hV [] s&&recOk (RowW.records PySem.Challenge.rw_lotmeal_k24_meals_are_good.row.toRowW) s
noncomputable abbrev hH:Hook:=kHook hK hA tj
theorem h1:opening pr=plainProg pr.main.scope.names:=by kernel_rfl
theorem h2 (s:Shared):fenceModules? pr s=some s:=by kernel_rfl
theorem h3 (w:World):(fun os=>(L2.jO pr w 6684 os).map fun st=>L2.pU pr w st)=fun _=>some true:=by kernel_rfl
theorem h4 (w:World):(fun os=>(L2.jO pr w 6684 os).map fun st=>openSeen hV ["fraction"] (importedModules pr.main.body) hX true st.abs)=fun _=>some (openGood hV ["fraction"]):=by kernel_rfl
theorem h5 (w:World):(fun os=>(L2.jO pr w 6684 os).map fun st=>hH.obs st.abs)=fun _=>some (hH.val w):=by kernel_rfl
theorem hL:LeftO pr hV ["fraction"] hX hH.obs hH.val 6684:=L2.Ot h1 (by decide) h2 h3 h4 h5
end fG
namespace L2
open PySem PySem.Spec PyProof.Rows
abbrev Key:=Sum Int Str
def tq:Key->Value->Bool
  | .inl k,v=>Value.isInt k v
  | .inr x,v=>Value.isStrOf x v
def Ub (w:World):Key->Int
  | .inl k=>hashInt k
  | .inr x=>hashStr w x
theorem i6:∀ {k:Key} {v:Value},tq k v=true->(∃ i t,k=Sum.inl i/\v=Value.int i t)\/(∃ x t,k=Sum.inr x/\v=Value.str x t)
  | .inl i,v,h=>by
    obtain ⟨t,e⟩:=Value.isInt_shape (k:=i) (v:=v) h
    exact .inl ⟨i,t,rfl,e⟩
  | .inr x,v,h=>by
    obtain ⟨t,e⟩:=Value.isStrOf_shape (x:=x) (v:=v) h
    exact .inr ⟨x,t,rfl,e⟩
theorem Ou (i:Int) (t:Tok):tq (.inl i) (.int i t)=true:=by simp [tq,Value.isInt]
theorem RU (a b:Int):decide ((Sum.inl a:Key)=Sum.inl b)=(a==b):=by
  by_cases e:a=b
  · subst e;simp
  · have h:¬ (Sum.inl a:Key)=Sum.inl b:=fun q=>e (Sum.inl.inj q)
    rw [decide_eq_false h]
    exact (beq_eq_false_iff_ne.mpr e).symm
theorem RV (a b:Str):decide ((Sum.inr a:Key)=Sum.inr b)=decide (a=b):=by
  by_cases e:a=b
  · subst e;simp
  · have h:¬ (Sum.inr a:Key)=Sum.inr b:=fun q=>e (Sum.inr.inj q)
    rw [decide_eq_false h,decide_eq_false e]
theorem RW (a:Int) (b:Str):decide ((Sum.inl a:Key)=Sum.inr b)=false:=decide_eq_false (fun q=>nomatch q)
theorem RX (a:Str) (b:Int):decide ((Sum.inr a:Key)=Sum.inl b)=false:=decide_eq_false (fun q=>nomatch q)
def jP (prog:Program) (w:World):PySem.KeyKind prog w Key where
  is:=tq
  hash:=Ub w
  inj:=fun v a b ha hb=>by
    rcases i6 ha with ⟨i,t,rfl,rfl⟩ | ⟨x,t,rfl,rfl⟩
    · rcases i6 hb with ⟨j,u,rfl,e⟩ | ⟨y,u,rfl,e⟩
      · injection e with e1 _;rw [e1]
      · exact nomatch e
    · rcases i6 hb with ⟨j,u,rfl,e⟩ | ⟨y,u,rfl,e⟩
      · exact nomatch e
      · injection e with e1 _;rw [e1]
  byValue:=fun k v h=>by
    rcases i6 h with ⟨i,t,rfl,rfl⟩ | ⟨x,t,rfl,rfl⟩<;>rfl
  pyHash:=fun hv h=>by
    rcases i6 hv with ⟨i,t,rfl,rfl⟩ | ⟨x,t,rfl,rfl⟩
    · exact wpAny_pyHash_int h
    · exact wpAny_pyHash_str h
  eqBool:=fun hu hv h=>by
    rcases i6 hu with ⟨i,t,rfl,rfl⟩ | ⟨x,t,rfl,rfl⟩
    · rcases i6 hv with ⟨j,u,rfl,rfl⟩ | ⟨y,u,rfl,rfl⟩
      · rw [RU] at h;exact wpAny_eqBool_int h
      · rw [RW] at h;exact SeqAt.EqAt.int_str i t y u _ _ _ _ h
    · rcases i6 hv with ⟨j,u,rfl,rfl⟩ | ⟨y,u,rfl,rfl⟩
      · rw [RX] at h;exact SeqAt.EqAt.str_int x t j u _ _ _ _ h
      · rw [RV] at h;exact wpAny_eqBool_str h
  «strs»:=fun k x t v h=>by
    rcases i6 h with ⟨i,u,rfl,e⟩ | ⟨y,u,rfl,e⟩
    · exact nomatch e
    · injection e with e1 _
      subst e1
      cases v<;>rfl
theorem C1 (prog:Program) (w:World) (i:Int) (t:Tok):(jP prog w).is (.inl i) (.int i t)=true:=Ou i t
end L2
namespace L2
open PySem PySem.Spec PyProof.Rows
inductive V where
  | aN | bl (b:Bool) | int (i:Int) | str (x:Str) | gN (b:Array UInt8) | lu (b:UInt64) | ref (a:Addr) | ty (n:String)
  deriving DecidableEq
def RelV:V->Value->Prop
  | .aN,u=>u=Value.none
  | .bl b,u=>u=Value.bool b
  | .int i,u=>∃ t,u=Value.int i t
  | .str x,u=>∃ t,u=Value.str x t
  | .gN b,u=>∃ t,u=Value.bytes b t
  | .lu b,u=>∃ t,u=Value.float b t
  | .ref a,u=>u=Value.ref a
  | .ty n,u=>u=Value.type n
abbrev Vals:List V->List Value->Prop:=Paired RelV
theorem Vals.length {xs:List V} {us:List Value} (r:Vals xs us):xs.length=us.length:=Paired.length r
theorem Vals.get:∀ {xs:List V} {us:List Value} {i:Nat} {x:V},Vals xs us->xs[i]?=some x->∃ u,us[i]?=some u/\RelV x u
  | _,_,_,_,.nil,e=>by simp at e
  | _,_,0,_,.cons r _,e=>by simp at e;subst e;exact ⟨_,rfl,r⟩
  | _,_,i+1,x,.cons _ t,e=>by
    obtain ⟨u,h1,h2⟩:=Vals.get (i:=i) (x:=x) t (by simpa using e)
    exact ⟨u,by simpa using h1,h2⟩
theorem Vals.set {x:V} {u:Value} (r:RelV x u):∀ {xs:List V} {us:List Value} (i:Nat),Vals xs us->Vals (xs.set i x) (us.set i u)
  | _,_,_,.nil=>.nil
  | _,_,0,.cons _ t=>.cons r t
  | _,_,i+1,.cons q t=>.cons q (Vals.set r i t)
theorem Vals.append:∀ {xs ys:List V} {us ws:List Value},Vals xs us->Vals ys ws->Vals (xs++ys) (us++ws)
  | _,_,_,_,.nil,s=>s
  | _,_,_,_,.cons r t,s=>.cons r (Vals.append t s)
theorem Vals.take:∀ {xs:List V} {us:List Value} (n:Nat),Vals xs us->Vals (xs.take n) (us.take n)
  | _,_,0,_=>.nil
  | _,_,_+1,.nil=>.nil
  | _,_,n+1,.cons r t=>.cons r (Vals.take n t)
theorem Vals.drop:∀ {xs:List V} {us:List Value} (n:Nat),Vals xs us->Vals (xs.drop n) (us.drop n)
  | _,_,0,r=>r
  | _,_,_+1,.nil=>.nil
  | _,_,n+1,.cons _ t=>Vals.drop n t
def yu:Option V->Option Value->Prop
  | some v,some u=>RelV v u
  | none,none=>True
  | _,_=>False
def KV {κ:Type}:List (κ×V)->List (κ×Value)->Prop:=Paired fun (p : κ×V) (q : κ×Value)=>p.1=q.1/\RelV p.2 q.2
def kV:Key->V
  | .inl i=>.int i
  | .inr x=>.str x
inductive HO where
  | lst (xs:List V)
  | tup (xs:List V)
  | dK (cJ:List (Key×V)) | dT (cJ:List (List Key×V))
  | set (S:Int->Bool) (n:Nat)
  | ins (C dx:Addr) (fs:List (Str×V))
  | own (x:Addr)
  | xd (fs:List (Str×V))
  | met (f x:Addr)
  | bR (lo hi:Int)
  | d8 (o:Obj) (u:HO)
  | lx (ps:Array Value)
  | ext (φ:Heap->Prop)
abbrev Hp:=Addr->Option HO
def upd (H:Hp) (a:Addr) (o:HO):Hp:=fun b=>if b=a then some o else H b
theorem fA {H:Hp} {a:Addr} {o:HO}:upd H a o a=some o:=by unfold upd;rw [if_pos rfl]
theorem bO {H:Hp} {a b:Addr} {o:HO} (h:b ≠ a):upd H a o b=H b:=by unfold upd;rw [if_neg h]
theorem gR {H:Hp} {a b:Addr} {o:HO} (h:H a=some o) (h':H b=none):a ≠ b:=by
  intro e;subst e;rw [h] at h';cases h'
section
variable (P:Program) (w:World)
def cP (H:Hp) (h:Heap) (a:Addr):HO->Prop
  | .lst xs=>xs.length<=sizeLine/\∃ (af:List Value) (n:Nat),Vals xs af/\h.get? a=some { cls:=.type "list",data:=.seq af.toArray n }
  | .tup xs=>xs.length<=sizeLine/\∃ af:List Value,Vals xs af/\IsTup h a af.toArray
  | .dK cJ=>cJ.length<=sizeLine/\(a==sysModules)=false/\∃ vs,KV cJ vs/\h.DictOf (jP P w) a vs
  | .dT cJ=>cJ.length<=sizeLine/\(a==sysModules)=false/\∃ xs:List (List Key×Addr×Value),
      Paired (fun (p:List Key×V) (q:List Key×Addr×Value)=>p.1=q.1/\H q.2.1=some (.tup (p.1.map kV))/\RelV p.2 q.2.2) cJ xs /\
      ∃ o es ep,h.get? a=some o/\o.ExactDict/\o.data=.dict es ep/\es.toList=xs.map (entryOfKey (tupleKind (jP P w)))/\(xs.map (·.1)).Nodup
  | .set S n=>h.SetOf (intKind P w) a S n
  | .ins C dx fs=>H dx=some (.own a)/\fs.length<=1000/\dx ≠ a/\h.get? a=some (PySem.W.instObj C dx) /\
      ∃ mA,h.Ns1 dx mA/\(∀ f,yu (fs.lookup f) (mA f))/\PySem.Within mA (fs.map (·.1))
  | .own _=>∃ o,h.get? a=some o
  | .xd fs=>∃ mA,h.Ns1 a mA/\∀ f,yu (fs.lookup f) (mA f)
  | .bR lo hi=>∃ t u v,h.get? a=some { cls:=.type "range",data:=.fields #[.int lo t,.int hi u,.int 1 v] }
  | .d8 o u=>h.get? a=some o/\cP H h a u
  | .lx ps=>h.get? a=some { cls:=.none,data:=.fields ps }
  | .met f x=>h.get? a=some (PySem.W.methodObj (.ref f) (.ref x))
  | .ext φ => φ h/\(∃ o,h.get? a=some o)/\∀ h1 h2:Heap,φ h1->(∀ o,h1.get? a=some o->h2.get? a=some o) -> φ h2
def cA (H:Hp) (h:Heap):Prop:=∀ a o,H a=some o->cP P w H h a o
end
section
variable {P:Program} {w:World} {H H':Hp} {h h':Heap} {a:Addr} {o:HO}
theorem cP.lt (x:cP P w H h a o):a<h.objs.size:=by
  cases o with
  | lst xs=>obtain ⟨_,_,_,_,e⟩:=x;exact Heap.lt_size e
  | tup xs=>obtain ⟨_,_,_,p⟩:=x;exact p.lt
  | dK cJ=>obtain ⟨_,_,_,_,o,_,_,e,_⟩:=x;exact Heap.lt_size e
  | dT cJ=>obtain ⟨_,_,_,_,o,_,_,e,_⟩:=x;exact Heap.lt_size e
  | set S n=>obtain ⟨o,_,_,_,e,_⟩:=x;exact Heap.lt_size e
  | ins C dx fs=>obtain ⟨_,_,_,e,_⟩:=x;exact Heap.lt_size e
  | own y=>obtain ⟨_,e⟩:=x;exact Heap.lt_size e
  | xd fs=>obtain ⟨_,⟨_,_,_,e,_⟩,_⟩:=x;exact Heap.lt_size e
  | bR lo hi=>obtain ⟨_,_,_,e⟩:=x;exact Heap.lt_size e
  | d8 ob u=>obtain ⟨e,_⟩:=x;exact Heap.lt_size e
  | lx ps=>exact Heap.lt_size (show h.get? a=some _ from x)
  | met f y=>exact Heap.lt_size (show h.get? a=some _ from x)
  | ext φ => obtain ⟨_,⟨_,e⟩,_⟩:=x;exact Heap.lt_size e
theorem Paired.HL {α β:Type} {F G : α -> β->Prop}:∀ {HM:List α} {l₂:List β},Paired F HM l₂->(∀ a b,F a b->G a b)->Paired G HM l₂
  | _,_,.nil,_=>.nil
  | _,_,.cons r t,f=>.cons (f _ _ r) (Paired.HL t f)
theorem cP.jm (x:cP P w H h a o) (k:∀ b u,(b=a\/H b=some (.own a))->h.get? b=some u->h'.get? b=some u)
    (ho:∀ b,H b=some (.own a)->H' b=some (.own a)) (ht:∀ b xs,H b=some (.tup xs)->H' b=some (.tup xs)):cP P w H' h' a o:=by
  induction o with
  | lst xs=>obtain ⟨z,af,n,r,e⟩:=x;exact ⟨z,af,n,r,k _ _ (.inl rfl) e⟩
  | tup xs=>obtain ⟨z,af,r,ob,e,c⟩:=x;exact ⟨z,af,r,ob,k _ _ (.inl rfl) e,c⟩
  | dK cJ=>obtain ⟨z,y,vs,r,ob,es,ep,e,c⟩:=x;exact ⟨z,y,vs,r,ob,es,ep,k _ _ (.inl rfl) e,c⟩
  | dT cJ =>
    obtain ⟨z,y,xs,r,ob,es,ep,e,c⟩:=x
    exact ⟨z,y,xs,Paired.HL r fun p q z=>⟨z.1,ht _ _ z.2.1,z.2.2⟩,ob,es,ep,k _ _ (.inl rfl) e,c⟩
  | set S n=>obtain ⟨ob,es,ep,t,e,c⟩:=x;exact ⟨ob,es,ep,t,k _ _ (.inl rfl) e,c⟩
  | ins C dx fs =>
    obtain ⟨d,z,ne,e,mA,⟨od,es,ep,e2,c⟩,r⟩:=x
    exact ⟨ho _ d,z,ne,k _ _ (.inl rfl) e,mA,⟨od,es,ep,k _ _ (.inr d) e2,c⟩,r⟩
  | own y=>obtain ⟨ob,e⟩:=x;exact ⟨ob,k _ _ (.inl rfl) e⟩
  | xd fs=>obtain ⟨mA,⟨od,es,ep,e,c⟩,r⟩:=x;exact ⟨mA,⟨od,es,ep,k _ _ (.inl rfl) e,c⟩,r⟩
  | bR lo hi=>obtain ⟨t,u,v,e⟩:=x;exact ⟨t,u,v,k _ _ (.inl rfl) e⟩
  | d8 ob u ih=>obtain ⟨e,q⟩:=x;exact ⟨k _ _ (.inl rfl) e,ih q⟩
  | lx ps =>
    have e:h.get? a=some { cls:=.none,data:=.fields ps }:=x
    show h'.get? a=some { cls:=.none,data:=.fields ps }
    exact k a _ (.inl rfl) e
  | met f y =>
    have e:h.get? a=some (PySem.W.methodObj (.ref f) (.ref y)):=x
    show h'.get? a=some (PySem.W.methodObj (.ref f) (.ref y))
    exact k a _ (.inl rfl) e
  | ext φ => obtain ⟨p,⟨o,e⟩,st⟩:=x;exact ⟨st _ _ p fun o q=>k _ _ (.inl rfl) q,⟨o,k _ _ (.inl rfl) e⟩,st⟩
theorem cA.lt (x:cA P w H h) (e:H a=some o):a<h.objs.size:=(x a o e).lt
theorem cA.fresh (x:cA P w H h) (e:h.objs.size<=a):H a=none:=by
  cases q:H a with
  | none=>rfl
  | some u=>exact absurd (Nat.lt_of_lt_of_le (x.lt q) e) (Nat.lt_irrefl _)
theorem cA.kept (x:cA P w H h) (k:∀ b u,h.get? b=some u->h'.get? b=some u):cA P w H h':=fun a o e =>
  (x a o e).jm (fun b u _ q=>k b u q) (fun _ q=>q) fun _ _ q=>q
theorem cA.laid (x:cA P w H h) (k:∀ b u,h.get? b=some u->h'.get? b=some u) (hp:h.objs.size<=a) (new:cP P w (upd H a o) h' a o):cA P w (upd H a o) h':=fun b u e=>by
  have hn:=x.fresh hp
  by_cases hb:b=a
  · subst hb;rw [fA] at e;cases e;exact new
  · rw [bO hb] at e
    exact (x b u e).jm (fun c v _ q=>k c v q) (fun c q=>by rw [bO (gR q hn)];exact q) fun c xs q=>by rw [bO (gR q hn)];exact q
end
def Rd (H:Hp) (a:Addr) (u:HO):Prop:=H a=some u\/∃ o,H a=some (.d8 o u)
theorem Rd.ok {P:Program} {w:World} {H:Hp} {h:Heap} {a:Addr} {u:HO} (r:Rd H a u) (x:cA P w H h):cP P w H h a u:=by
  rcases r with r | ⟨o,r⟩
  · exact x a u r
  · obtain ⟨_,q⟩:=x a _ r
    exact q
def tZ:Option HO->Prop
  | some (.lst _)=>True
  | some (.dK _)=>True
  | some (.dT _)=>True
  | some (.set _ _)=>True
  | some (.ins _ _ _)=>True
  | some (.ext _)=>True
  | _=>False
section
variable {P:Program} {w:World} {H:Hp} {h h':Heap} {x e:Addr} {o':HO}
theorem cA.write (ok:cA P w H h) (mu:tZ (H x)) (he:e=x\/H e=some (.own x)) (k:∀ b u,b ≠ e->h.get? b=some u->h'.get? b=some u) (oA:∃ u,h'.get? e=some u)
    (new:cP P w (upd H x o') h' x o'):cA P w (upd H x o') h':=fun b u q=>by
  have HN:∀ c y,H c=some (.own y)->c ≠ x:=fun c y r z=>by subst z;rw [r] at mu;exact mu
  have Uc:∀ c xs,H c=some (.tup xs)->c ≠ x:=fun c xs r z=>by subst z;rw [r] at mu;exact mu
  by_cases hb:b=x
  · subst hb;rw [fA] at q;cases q;exact new
  · rw [bO hb] at q
    by_cases ly:b=e
    · have q':H b=some (.own x):=by
        rcases he with z | z
        · exact absurd (ly.trans z) hb
        · rw [ly];exact z
      rw [q] at q';cases q'
      obtain ⟨v,hv⟩:=oA
      exact ⟨v,by rw [ly];exact hv⟩
    · refine (ok b u q).jm (fun c v hc r=>k c v ?_ r) (fun c r=>by rw [bO (HN c b r)];exact r) fun c xs r=>by rw [bO (Uc c xs r)];exact r
      rcases hc with rfl | hc
      · exact ly
      · rintro rfl
        rcases he with z | z
        · exact HN c b hc z
        · rw [hc] at z;cases z;exact hb rfl
end
structure Un (fs ex:List Addr) (H H':Hp) (h h':Heap):Prop where
  keep:∀ b o,h.get? b=some o->H b=none->b ∉ fs->b ∉ ex->h'.get? b=some o
  slot:∀ b o,h.get? b=some o->H b=none->b ∈ fs->b ∉ ex->∃ sl,h'.get? b=some { o with slots:=sl }
  free:∀ b o,h.get? b=some o->H b=none->b ∉ ex->H' b=none
  there:∀ b o,h.get? b=some o->b ∉ ex->∃ o',h'.get? b=some o'
  iO:∀ b xs,H b=some (.tup xs)->H' b=some (.tup xs)
  hG:∀ b o u,H b=some (.d8 o u)->H' b=some (.d8 o u)
  iP:∀ b ps,H b=some (.lx ps)->∃ more,H' b=some (.lx (ps++more))
section
variable {fs ZK ex ex':List Addr} {H H1 H2:Hp} {h h1 h2 h':Heap} {a x e:Addr} {o:HO}
theorem Un.any (u:Un fs ex H H1 h h1) {b:Addr} {ob:Obj} (q:h.get? b=some ob) (n:H b=none) (hx:b ∉ ex):∃ sl,h1.get? b=some { ob with slots:=sl }:=by
  by_cases hb:b ∈ fs
  · exact u.slot b ob q n hb hx
  · exact ⟨ob.slots,u.keep b ob q n hb hx⟩
theorem Un.kept (k:∀ b u,h.get? b=some u->h'.get? b=some u):Un fs ex H H h h' :=
  ⟨fun b ob q _ _ _=>k b ob q,fun b ob q _ _ _=>⟨ob.slots,k b ob q⟩,fun _ _ _ n _=>n,fun b ob q _=>⟨ob,k b ob q⟩,fun _ _ q=>q,fun _ _ _ q=>q,fun _ ps q=>⟨#[],by rw [q];simp⟩⟩
theorem Un.refl:Un fs ex H H h h:=Un.kept fun _ _ q=>q
theorem Un.laid (k:∀ b u,h.get? b=some u->h'.get? b=some u) (hp:h.objs.size<=a) (hn:H a=none):Un fs ex H (upd H a o) h h' where
  keep:=fun b u q _ _ _=>k b u q
  slot:=fun b u q _ _ _=>⟨u.slots,k b u q⟩
  free:=fun b u q n _=>by rw [bO (Nat.ne_of_lt (Nat.lt_of_lt_of_le (Heap.lt_size q) hp))];exact n
  there:=fun b u q _=>⟨u,k b u q⟩
  iO:=fun b xs q=>by rw [bO (gR q hn)];exact q
  hG:=fun b u xs q=>by rw [bO (gR q hn)];exact q
  iP:=fun b ps q=>⟨#[],by rw [bO (gR q hn),q];simp⟩
theorem Un.write (mu:tZ (H x)) (he:e=x\/H e=some (.own x)) (k:∀ b u,b ≠ e->h.get? b=some u->h'.get? b=some u) (oA:∃ u,h'.get? e=some u):Un fs ex H (upd H x o) h h':=by
  have hx:∀ b,H b=none->b ≠ x:=fun b n z=>by subst z;rw [n] at mu;exact mu
  have hb:∀ b,H b=none->b ≠ e:=fun b n z=>by
    subst z
    rcases he with r | r
    · exact hx b n r
    · rw [n] at r;cases r
  have hm:∀ b u,H b=some u->¬ tZ (some u)->b ≠ x:=fun b u q nm z=>by subst z;rw [q] at mu;exact nm mu
  refine ⟨fun b u q n _ _=>k b u (hb b n) q,fun b u q n _ _=>⟨u.slots,k b u (hb b n) q⟩,fun b u q n _=>by rw [bO (hx b n)];exact n,fun b u q _=>?_,
    fun b xs q=>by rw [bO (hm b _ q fun z=>z)];exact q,fun b u xs q=>by rw [bO (hm b _ q fun z=>z)];exact q,fun b ps q=>⟨#[],by rw [bO (hm b _ q fun z=>z),q];simp⟩⟩
  by_cases ly:b=e
  · subst ly;exact oA
  · exact ⟨u,k b u ly q⟩
end
def t4 (h:Heap) (H:Hp):List Addr:=(List.range h.objs.size).filter fun a=>(H a).isSome
def jn (h:Heap) (H:Hp):Heap:=PySem.W.hideAll h (t4 h H)
theorem Ov (h:Heap) (H:Hp):(jn h H).objs.size=h.objs.size:=PySem.W.hideAll_size _ _
theorem O8 {h:Heap} {H:Hp} {b:Addr} {o:Obj} (e:h.get? b=some o) (n:H b=none):(jn h H).get? b=some o :=
  PySem.W.hideAll_get _ e fun hm=>by
    have q:(H b).isSome=true:=(List.mem_filter.mp hm).2
    rw [n] at q;simp at q
theorem Qe {h:Heap} {H:Hp} {b:Addr} {o:Obj} (e:(jn h H).get? b=some o):h.get? b=some o/\H b=none:=by
  have e':h.get? b=some o:=PySem.W.of_hideAll (t4 h H) e
  refine ⟨e',?_⟩
  cases q:H b with
  | none=>rfl
  | some x =>
    have hm:b ∈ t4 h H:=List.mem_filter.mpr ⟨List.mem_range.mpr (Heap.lt_size e'),by simp [q]⟩
    have z:(jn h H).get? b=none:=PySem.W.hideAll_none (t4 h H) hm
    rw [z] at e;cases e
end L2
namespace L2
open PySem PySem.Spec PyProof.Rows
structure Mod (K:PySem.W.Frag) (mg:Str->Option Value) (base:Heap):Prop where
  yZ:K.In base
  glob:base.Ns mainGlobals mg
  blt:∃ mb,base.Ns builtinsNs mb/\∀ x:Str,x ≠ "__name__" -> mb x=bootBuiltins x
  nolimit:base.NoLimit
structure Cx where
  prog:Program
  w:World
  K:PySem.W.Frag
  mg:Str->Option Value
  base:Heap
  A:Around
  N:List Str
  cQ:Shared
  qq:Hp
  env:Env
  outer:List Env
  stack:List Env
  ex:List Addr
  fn:Str->Bool
  calm:Bool
  pn:List (Addr×Obj)
  xe:Value->Shared->Prop
def cU (l:List Env):List Addr:=l.filterMap (·.frame)
abbrev Cx.fs (X:Cx):List Addr:=cU X.outer
def ig (sc:Scope) (x:Str):Prop:=sc.names.lookup x=some .local\/sc.names.lookup x=some .cell\/sc.names.lookup x=some .free
def Loc (sc:Scope) (x:Str):Prop:=sc.names.lookup x=some .local\/sc.names.lookup x=some .cell
def Look (env:Env) (h:Heap) (m:Str->Option Value) (x:Str) (u:Value):Prop :=
  (env.kindOf x=some .local/\m x=some u)\/((env.kindOf x=some .cell\/env.kindOf x=some .free)/\∃ c,env.cells.lookup x=some c/\h.IsCell c (some u))
structure Cx.Ok (X:Cx):Prop where
  mod:Mod X.K X.mg X.base
  kind:X.env.scope.kind=.function
  glob:X.env.globals=mainGlobals
  blt:X.env.builtins=builtinsNs
  above:X.cQ.heap.objs.size<=X.env.locals
  inj:∀ x y c,X.env.cells.lookup x=some c->X.env.cells.lookup y=some c->x=y
  has:∀ x,(X.env.kindOf x=some .cell\/X.env.kindOf x=some .free)->∃ c,X.env.cells.lookup x=some c
  qE:∀ x c,X.fn x=true->X.env.cells.lookup x=some c->X.cQ.heap.objs.size<=c
  hd:X.calm=true->X.A.handled=none
  frames:X.A.frames=some X.stack
  lz:X.stack=X.outer\/(X.stack=X.env::X.outer/\X.env.frame=some X.env.locals)
  Jy:∀ b ∈ X.ex,b ≠ X.env.locals/\∀ x c,X.env.cells.lookup x=some c->c ≠ b
  bs:∀ b o,X.base.get? b=some o->X.cQ.heap.get? b=some o/\X.qq b=none
  lA:X.base.objs.size<=X.cQ.heap.objs.size
  qu:∀ b o,X.base.get? b=some o->b ∉ X.ex
  tK:∀ b ∈ X.ex,b ∉ X.fs
  hJ:X.cQ.heap.FunFrames X.base X.outer
  oB:∀ b ∈ X.fs,X.qq b=none
structure Inv (X:Cx) (pins:List (Addr×Obj)) (σ:List (Option V)) (H:Hp) (s:Shared):Prop where
  ok:X.Ok
  os:s.os=X.cQ.os
  bare:AllBare s.gens
  base:Un X.fs X.ex X.qq H X.cQ.heap s.heap
  loc:∃ m,s.heap.Ns X.env.locals m/\∀ (i:Nat) (x:Str) (v:V),X.N[i]?=some x -> σ[i]?=some (some v)->ig X.env.scope x->∃ u,RelV v u/\Look X.env s.heap m x u
  cell:∀ x c,X.env.cells.lookup x=some c->∃ v,s.heap.IsCell c v
  free:H X.env.locals=none
  iL:∀ x c,X.env.cells.lookup x=some c->H c=none
  pin:∀ p ∈ X.pn++pins,s.heap.get? p.1=some p.2/\H p.1=none/\p.1 ≠ X.env.locals/\p.1 ∉ X.fs/\∀ v,p.2.data ≠ .cell v
  aF:cA X.prog X.w H s.heap
  len : σ.length=X.N.length
section
variable {X:Cx} {pins:List (Addr×Obj)} {σ:List (Option V)} {H H':Hp} {s:Shared} {h':Heap}
theorem Cx.Ok.Ud (ok:X.Ok) {b:Addr} {o:Obj} (e:X.base.get? b=some o):b ∉ X.fs:=fun hb=>by
  have:=(ok.hJ.mem hb).1
  rw [e] at this;cases this
theorem Inv.bs (I:Inv X pins σ H s):∀ b o,X.base.get? b=some o->s.heap.get? b=some o/\H b=none:=fun b o e =>
  ⟨I.base.keep b o (I.ok.bs b o e).1 (I.ok.bs b o e).2 (I.ok.Ud e) (I.ok.qu b o e),I.base.free b o (I.ok.bs b o e).1 (I.ok.bs b o e).2 (I.ok.qu b o e)⟩
theorem Inv.bk (I:Inv X pins σ H s):∀ b o,X.base.get? b=some o->s.heap.get? b=some o:=fun b o e=>(I.bs b o e).1
theorem Inv.mod (I:Inv X pins σ H s):Mod X.K X.mg X.base:=I.ok.mod
theorem Inv.dH (I:Inv X pins σ H s):X.K.In s.heap:=I.ok.mod.yZ.keeps I.bk
theorem Inv.lt (I:Inv X pins σ H s):X.env.locals<s.heap.objs.size:=let ⟨_,hn,_⟩:=I.loc;hn.lt
theorem Inv.sz (I:Inv X pins σ H s):X.cQ.heap.objs.size<=s.heap.objs.size:=Nat.le_trans I.ok.above (Nat.le_of_lt I.lt)
theorem Inv.Ue (I:Inv X pins σ H s) {a:Addr} (h:s.heap.objs.size<=a):a ∉ X.fs:=fun hb=>by
  obtain ⟨_,o,ho,_⟩:=I.ok.hJ.mem hb
  exact absurd (Nat.lt_of_lt_of_le (Heap.lt_size ho) (Nat.le_trans I.sz h)) (Nat.lt_irrefl _)
theorem Inv.lC (I:Inv X pins σ H s):∀ x c,X.env.cells.lookup x=some c->c ≠ X.env.locals:=fun x c e z=>by
  obtain ⟨v,o,ho,hd⟩:=I.cell x c e
  obtain ⟨m,⟨o',es,ep,fY,qF,_⟩,_⟩:=I.loc
  rw [z,fY] at ho;cases ho;rw [qF] at hd;cases hd
theorem Inv.hJ (I:Inv X pins σ H s):s.heap.FunFrames X.base X.outer:=by
  have all:∀ (l:List Env),(∀ b ∈ cU l,b ∈ X.fs)->X.cQ.heap.FunFrames X.base l->s.heap.FunFrames X.base l:=by
    intro l
    induction l with
    | nil=>intro _ _;trivial
    | cons env r ih =>
      intro hs hl
      obtain ⟨hk,⟨L,o,hf,hn,ho,hd⟩,hr⟩:=hl
      have hL:L ∈ X.fs:=hs L (by unfold cU;rw [List.filterMap_cons,hf];exact List.mem_cons_self)
      obtain ⟨sl,e⟩:=I.base.slot L o ho (I.ok.oB L hL) hL fun z=>I.ok.tK L z hL
      exact ⟨hk,⟨L,_,hf,hn,e,hd⟩,ih (fun b hb=>hs b (by unfold cU;rw [List.filterMap_cons,hf];exact List.mem_cons_of_mem _ hb)) hr⟩
  exact all X.outer (fun _ hb=>hb) I.ok.hJ
theorem Inv.stack (I:Inv X pins σ H s):s.heap.FunFrames X.base X.stack:=by
  rcases I.ok.lz with e | ⟨e,hf⟩
  · rw [e];exact I.hJ
  · rw [e]
    obtain ⟨m,hn,_⟩:=I.loc
    refine .cons (by rw [I.ok.kind];decide) hf hn ?_ I.hJ
    exact Heap.get?_none_of_le (Nat.le_trans I.ok.lA I.ok.above)
theorem Inv.pV (I:Inv X pins σ H s):∀ b ∈ cU X.stack,b ∈ X.env.locals::X.fs:=fun b hb=>by
  rcases I.ok.lz with e | ⟨e,hf⟩
  · rw [e] at hb;exact List.mem_cons_of_mem _ hb
  · rw [e] at hb
    unfold cU at hb
    rw [List.filterMap_cons,hf] at hb
    exact hb
theorem Inv.Eh (I:Inv X pins σ H s):∀ b ∈ cU X.stack,H b=none:=fun b hb=>by
  rcases List.mem_cons.mp (I.pV b hb) with e | hb
  · rw [e];exact I.free
  · obtain ⟨_,o,ho,_⟩:=I.ok.hJ.mem hb
    exact I.base.free b o ho (I.ok.oB b hb) fun z=>I.ok.tK b z hb
theorem Inv.step {g':Array GenState} {t':Nat} {d':Drawn} {ch:List Addr} (I:Inv X pins σ H s)
    (iS:∀ b ∈ ch,(b ∈ X.ex\/X.cQ.heap.objs.size<=b)/\b ≠ X.env.locals/\(∀ x c,X.env.cells.lookup x=some c->c ≠ b)/\∀ p ∈ X.pn++pins,p.1 ≠ b)
    (keep:∀ b o,b ≠ X.env.locals->b ∉ X.fs->b ∉ ch->s.heap.get? b=some o->H b=none->h'.get? b=some o)
    (slot:∀ b o,b ≠ X.env.locals->b ∈ X.fs->b ∉ ch->s.heap.get? b=some o->H b=none->∃ sl,h'.get? b=some { o with slots:=sl }) (free:∀ b o,b ∉ ch->s.heap.get? b=some o->H b=none->H' b=none)
    (there:∀ b o,b ∉ ch->s.heap.get? b=some o->∃ o',h'.get? b=some o')
    (iO:∀ b xs,H b=some (.tup xs)->H' b=some (.tup xs)) (hG:∀ b o u,H b=some (.d8 o u)->H' b=some (.d8 o u)) (iP:∀ b ps,H b=some (.lx ps)->∃ more,H' b=some (.lx (ps++more)))
    (ns:∀ m,s.heap.Ns X.env.locals m->h'.Ns X.env.locals m) (aF:cA X.prog X.w H' h') (hg:AllBare g') :
    Inv X pins σ H' { s with heap:=h',gens:=g',drawn:=d',toks:=t' }:=by
  have Jz:∀ b o,X.cQ.heap.get? b=some o->b ≠ X.env.locals:=fun b o e=>Nat.ne_of_lt (Nat.lt_of_lt_of_le (Heap.lt_size e) I.ok.above)
  have t5:∀ b o,X.cQ.heap.get? b=some o->b ∉ X.ex->b ∉ ch:=fun b o e hx hb=>by
    rcases (iS b hb).1 with z | z
    · exact hx z
    · exact absurd (Nat.lt_of_lt_of_le (Heap.lt_size e) z) (Nat.lt_irrefl _)
  have cellK:∀ x c,X.env.cells.lookup x=some c->∀ v,s.heap.IsCell c v->h'.IsCell c v:=fun x c e v ⟨o,ho,hd⟩=>by
    have qG:c ∉ ch:=fun z=>(iS c z).2.2.1 x c e rfl
    by_cases hc:c ∈ X.fs
    · obtain ⟨sl,q⟩:=slot c o (I.lC x c e) hc qG ho (I.iL x c e)
      exact ⟨_,q,hd⟩
    · exact ⟨o,keep c o (I.lC x c e) hc qG ho (I.iL x c e),hd⟩
  refine ⟨I.ok,I.os,hg,⟨fun b o e n hb hx=>?_,fun b o e n hb hx=>?_,fun b o e n hx=>?_,fun b o e hx=>?_,fun b xs e=>iO b xs (I.base.iO b xs e),fun b o xs e=>hG b o xs (I.base.hG b o xs e),fun b ps e=>?_⟩,?_,fun x c e=>?_,?_,fun x c e=>?_,fun p hp=>?_,aF,I.len⟩
  · exact keep b o (Jz b o e) hb (t5 b o e hx) (I.base.keep b o e n hb hx) (I.base.free b o e n hx)
  · obtain ⟨sl,e1⟩:=I.base.slot b o e n hb hx
    obtain ⟨ZL,e2⟩:=slot b _ (Jz b o e) hb (t5 b o e hx) e1 (I.base.free b o e n hx)
    exact ⟨ZL,e2⟩
  · obtain ⟨o',e1⟩:=I.base.there b o e hx
    exact free b o' (t5 b o e hx) e1 (I.base.free b o e n hx)
  · obtain ⟨o',e1⟩:=I.base.there b o e hx
    exact there b o' (t5 b o e hx) e1
  · obtain ⟨m1,e1⟩:=I.base.iP b ps e
    obtain ⟨m2,e2⟩:=iP b _ e1
    exact ⟨m1++m2,by rw [e2,Array.append_assoc]⟩
  · obtain ⟨m,hn,hl⟩:=I.loc
    refine ⟨m,ns m hn,fun i x v e1 e2 e3=>?_⟩
    obtain ⟨u,r,l⟩:=hl i x v e1 e2 e3
    refine ⟨u,r,?_⟩
    rcases l with l | ⟨k,c,e,z⟩
    · exact .inl l
    · exact .inr ⟨k,c,e,cellK x c e _ z⟩
  · obtain ⟨v,z⟩:=I.cell x c e
    exact ⟨v,cellK x c e v z⟩
  · obtain ⟨m,⟨o,_,_,ho,_⟩,_⟩:=I.loc
    exact free _ o (fun z=>(iS _ z).2.1 rfl) ho I.free
  · obtain ⟨v,o,ho,hd⟩:=I.cell x c e
    exact free c o (fun z=>(iS c z).2.2.1 x c e rfl) ho (I.iL x c e)
  · obtain ⟨e,n,ne,nf,d⟩:=I.pin p hp
    have qG:p.1 ∉ ch:=fun z=>(iS p.1 z).2.2.2 p hp rfl
    exact ⟨keep p.1 p.2 ne nf qG e n,free p.1 p.2 qG e n,ne,nf,d⟩
theorem Inv.un {t':Nat} (I:Inv X pins σ H s) (u:Un X.fs [] H H' s.heap h') (aF:cA X.prog X.w H' h'):Inv X pins σ H' { s with heap:=h',toks:=t' }:=by
  obtain ⟨m,⟨o,es,ep,ho,r⟩,_⟩:=id I.loc
  obtain ⟨sl,hL⟩:=u.any ho I.free (by simp)
  exact I.step (g':=s.gens) (d':=s.drawn) (ch:=[]) (fun _ z=>nomatch z) (fun b o _ hb _ e n=>u.keep b o e n hb (by simp)) (fun b o _ hb _ e n=>u.slot b o e n hb (by simp)) (fun b o _ e n=>u.free b o e n (by simp)) (fun b o _ e=>u.there b o e (by simp)) u.iO u.hG u.iP (fun m' hm=>by
    obtain ⟨o',j9,y3,fY,r'⟩:=hm
    rw [ho] at fY;cases fY
    exact ⟨_,j9,y3,hL,r'⟩) aF I.bare
theorem Inv.call {g':Array GenState} {t':Nat} {d':Drawn} {ch:List Addr} (I:Inv X pins σ H s) (u:Un (cU X.stack) ch H H' s.heap h') (aF:cA X.prog X.w H' h') (hg:AllBare g')
    (iS:∀ b ∈ ch,(b ∈ X.ex\/X.cQ.heap.objs.size<=b)/\b ≠ X.env.locals/\(∀ x c,X.env.cells.lookup x=some c->c ≠ b)/\∀ p ∈ X.pn++pins,p.1 ≠ b) :
    Inv X pins σ H' { s with heap:=h',gens:=g',drawn:=d',toks:=t' }:=by
  obtain ⟨m,⟨o,es,ep,ho,r⟩,_⟩:=id I.loc
  obtain ⟨sl,hL⟩:=u.any ho I.free fun z=>(iS _ z).2.1 rfl
  exact I.step (ch:=ch) iS (fun b o hL hb hc e n=>u.keep b o e n (fun z=>(List.mem_cons.mp (I.pV b z)).elim hL hb) hc) (fun b o _ _ hc e n=>u.any e n hc) (fun b o hc e n=>u.free b o e n hc) (fun b o hc e=>u.there b o e hc) u.iO u.hG u.iP (fun m' hm=>by
    obtain ⟨o',j9,y3,fY,r'⟩:=hm
    rw [ho] at fY;cases fY
    exact ⟨_,j9,y3,hL,r'⟩) aF hg
theorem Inv.turned {t':Nat} {it:Addr} (I:Inv X pins σ H s) (k:∀ b o,b ≠ it->s.heap.get? b=some o->h'.get? b=some o) (hn:H it=none) (hL:it ≠ X.env.locals)
    (h1:it ∈ X.ex\/X.cQ.heap.objs.size<=it) (h2:∀ x c,X.env.cells.lookup x=some c->c ≠ it) (h3:∀ p ∈ X.pn++pins,p.1 ≠ it):Inv X pins σ H { s with heap:=h',toks:=t' }:=by
  have kc:∀ b u,H b=some u->b ≠ it:=fun b u e z=>by rw [z,hn] at e;cases e
  refine I.step (g':=s.gens) (d':=s.drawn) (ch:=[it]) (fun b hb=>?_) (fun b o _ _ hc e _=>k b o (fun z=>hc (by simp [z])) e) (fun b o _ _ hc e _=>⟨o.slots,k b o (fun z=>hc (by simp [z])) e⟩) (fun _ _ _ _ n=>n)
    (fun b o hc e=>⟨o,k b o (fun z=>hc (by simp [z])) e⟩) (fun _ _ e=>e) (fun _ _ _ e=>e) (fun b ps e=>⟨#[],by rw [e];simp⟩) (fun m hm=>?_) (fun b u e=>?_) I.bare
  · have e:b=it:=by simpa using hb
    subst e
    exact ⟨h1,hL,h2,h3⟩
  · obtain ⟨o,es,ep,ho,r⟩:=hm
    exact ⟨o,es,ep,k _ o (Ne.symm hL) ho,r⟩
  · refine (I.aF b u e).jm (fun c v hc q=>k c v ?_ q) (fun _ q=>q) fun _ _ q=>q
    rcases hc with z | z
    · rw [z];exact kc b u e
    · exact kc c _ z
theorem Inv.tok (I:Inv X pins σ H s) (t:Nat):Inv X pins σ H { s with toks:=t }:=I.un (h':=s.heap) (t':=t) Un.refl I.aF
theorem Inv.kept {t':Nat} (I:Inv X pins σ H s) (k:∀ b u,s.heap.get? b=some u->h'.get? b=some u):Inv X pins σ H { s with heap:=h',toks:=t' }:=I.un (Un.kept k) (I.aF.kept k)
theorem Inv.laid {a:Addr} {o:HO} {t':Nat} (I:Inv X pins σ H s) (k:∀ b u,s.heap.get? b=some u->h'.get? b=some u) (hp:s.heap.objs.size<=a) (new:cP X.prog X.w (upd H a o) h' a o) :
    Inv X pins σ (upd H a o) { s with heap:=h',toks:=t' }:=I.un (Un.laid k hp (I.aF.fresh hp)) (I.aF.laid k hp new)
theorem Inv.write {x e:Addr} {o:HO} {t':Nat} (I:Inv X pins σ H s) (mu:tZ (H x)) (he:e=x\/H e=some (.own x)) (k:∀ b u,b ≠ e->s.heap.get? b=some u->h'.get? b=some u) (oA:∃ u,h'.get? e=some u)
    (new:cP X.prog X.w (upd H x o) h' x o):Inv X pins σ (upd H x o) { s with heap:=h',toks:=t' }:=I.un (Un.write mu he k oA) (I.aF.write mu he k oA new)
theorem Inv.Ei {GQ:List (Addr×Obj)} (I:Inv X pins σ H s) (h:∀ p ∈ GQ,s.heap.get? p.1=some p.2/\H p.1=none/\p.1 ≠ X.env.locals/\p.1 ∉ X.fs/\∀ v,p.2.data ≠ .cell v):Inv X GQ σ H s :=
  ⟨I.ok,I.os,I.bare,I.base,I.loc,I.cell,I.free,I.iL,fun p hp=>(List.mem_append.mp hp).elim (fun z=>I.pin p (List.mem_append_left _ z)) (h p),I.aF,I.len⟩
theorem DF {N:List Str} (hN:N.Nodup) {i j:Nat} {x:Str} (a:N[i]?=some x) (b:N[j]?=some x):i=j:=by
  obtain ⟨h1,e1⟩:=List.getElem?_eq_some_iff.mp a
  obtain ⟨h2,e2⟩:=List.getElem?_eq_some_iff.mp b
  exact (List.getElem_inj hN).mp (e1.trans e2.symm)
theorem Dg {M:Model} {A:Around} {E:Value->Shared->Prop} {i:Nat} {x:Str} {v:V} {u:Value} {Q:Unit->Shared->Prop} (I:Inv X pins σ H s) (hN:X.N.Nodup) (hi:X.N[i]?=some x) (hx:Loc X.env.scope x) (r:RelV v u)
    (h:∀ s',Inv X pins (σ.set i (some v)) H s'->(∃ a,Heap.SameBut a s.heap s'.heap/\(a=X.env.locals\/X.env.cells.lookup x=some a))->Q () s') (hf:X.fn x=true\/X.env.scope.names.lookup x=some .local:=by first | exact .inl rfl | exact .inr rfl | assumption):wpAny M A (storeName X.env x u) Q E s:=by
  obtain ⟨m,hn,hl⟩:=id I.loc
  have Ug:(X.env.scope.kind==.class || (X.env.scope.kind==.module&&X.env.locals != X.env.globals))=false:=by rw [I.ok.kind];rfl
  have HP:i < σ.length:=by rw [I.len];exact (List.getElem?_eq_some_iff.mp hi).1
  have lC:=I.lC
  have tracked:∀ {a:Addr} {h':Heap},(∃ o,s.heap.get? a=some o/\H a=none)->Heap.SameBut a s.heap h'->cA X.prog X.w H h':=fun {a h'} ha hs b ob e=>by
    obtain ⟨_,_,jW⟩:=ha
    refine (I.aF b ob e).jm (fun c w' hc q=>(hs.2 c ?_).trans q) (fun _ q=>q) fun _ _ q=>q
    rintro rfl
    rcases hc with rfl | hc
    · rw [jW] at e;cases e
    · rw [jW] at hc;cases hc
  rcases hx with hk | hk
  · refine wpAny_storeName_local hk hn (fun h' ZM hs=>?_) Ug
    obtain ⟨oL,_,_,ke,_⟩:=id hn
    refine h _ ⟨I.ok,I.os,I.bare,⟨fun b o e n hb hx=>?_,fun b o e n hb hx=>?_,I.base.free,fun b o e hx=>?_,I.base.iO,I.base.hG,I.base.iP⟩,⟨_,ZM,fun j y v' e1 e2 e3=>?_⟩,fun y c e=>?_,I.free,I.iL,fun p hp=>?_,tracked ⟨oL,ke,I.free⟩ hs,by simpa using I.len⟩ ⟨_,hs,.inl rfl⟩
    · exact (hs.2 b (Nat.ne_of_lt (Nat.lt_of_lt_of_le (Heap.lt_size e) I.ok.above))).trans (I.base.keep b o e n hb hx)
    · obtain ⟨sl,e1⟩:=I.base.slot b o e n hb hx
      exact ⟨sl,(hs.2 b (Nat.ne_of_lt (Nat.lt_of_lt_of_le (Heap.lt_size e) I.ok.above))).trans e1⟩
    · obtain ⟨o',e1⟩:=I.base.there b o e hx
      exact ⟨o',(hs.2 b (Nat.ne_of_lt (Nat.lt_of_lt_of_le (Heap.lt_size e) I.ok.above))).trans e1⟩
    · by_cases hj:j=i
      · subst hj
        rw [hi] at e1;cases e1
        rw [List.getElem?_set_self HP] at e2
        cases e2
        exact ⟨u,r,.inl ⟨hk,by simp⟩⟩
      · rw [List.getElem?_set_ne (Ne.symm hj)] at e2
        obtain ⟨u',r',q⟩:=hl j y v' e1 e2 e3
        refine ⟨u',r',?_⟩
        rcases q with ⟨k,e⟩ | ⟨k,c,e,z⟩
        · refine .inl ⟨k,?_⟩
          have:y ≠ x:=fun e=>hj (DF hN e1 (e ▸ hi))
          simp [this,e]
        · exact .inr ⟨k,c,e,z.sameBut hs (lC y c e)⟩
    · obtain ⟨w',z⟩:=I.cell y c e
      exact ⟨w',z.sameBut hs (lC y c e)⟩
    · obtain ⟨e,n,ne,nf,d⟩:=I.pin p hp
      exact ⟨(hs.2 p.1 ne).trans e,n,ne,nf,d⟩
  · have y4:X.fn x=true:=by
      rcases hf with z | z
      · exact z
      · rw [z] at hk;cases hk
    obtain ⟨c,hc⟩:=I.ok.has x (.inl hk)
    obtain ⟨w',z⟩:=I.cell x c hc
    refine wpAny_storeName_cell I.ok.kind hk hc z (fun h' gO hs=>?_)
    obtain ⟨oc,JA,Uh⟩:=id z
    refine h { s with heap:=h' } ⟨I.ok,I.os,I.bare,⟨fun b o e n hb hx=>?_,fun b o e n hb hx=>?_,I.base.free,fun b o e hx=>?_,I.base.iO,I.base.hG,I.base.iP⟩,⟨m,hn.sameBut hs (Ne.symm (lC x c hc)),fun j y v' e1 e2 e3=>?_⟩,fun y c' e=>?_,I.free,I.iL,fun p hp=>?_,tracked ⟨oc,JA,I.iL x c hc⟩ hs,by simpa using I.len⟩ ⟨c,hs,.inr hc⟩
    · exact (hs.2 b (Nat.ne_of_lt (Nat.lt_of_lt_of_le (Heap.lt_size e) (I.ok.qE x c y4 hc)))).trans (I.base.keep b o e n hb hx)
    · obtain ⟨sl,e1⟩:=I.base.slot b o e n hb hx
      exact ⟨sl,(hs.2 b (Nat.ne_of_lt (Nat.lt_of_lt_of_le (Heap.lt_size e) (I.ok.qE x c y4 hc)))).trans e1⟩
    · obtain ⟨o',e1⟩:=I.base.there b o e hx
      exact ⟨o',(hs.2 b (Nat.ne_of_lt (Nat.lt_of_lt_of_le (Heap.lt_size e) (I.ok.qE x c y4 hc)))).trans e1⟩
    · by_cases hj:j=i
      · subst hj
        rw [hi] at e1;cases e1
        rw [List.getElem?_set_self HP] at e2
        cases e2
        exact ⟨u,r,.inr ⟨.inl hk,c,hc,gO⟩⟩
      · rw [List.getElem?_set_ne (Ne.symm hj)] at e2
        obtain ⟨u',r',q⟩:=hl j y v' e1 e2 e3
        refine ⟨u',r',?_⟩
        rcases q with q | ⟨k,c',e,z'⟩
        · exact .inl q
        · refine .inr ⟨k,c',e,z'.sameBut hs ?_⟩
          rintro rfl
          exact hj (DF hN e1 (I.ok.inj _ _ _ e hc ▸ hi))
    · by_cases JB:c'=c
      · subst JB;exact ⟨_,gO⟩
      · obtain ⟨w2,z2⟩:=I.cell y c' e
        exact ⟨w2,z2.sameBut hs JB⟩
    · obtain ⟨e,n,ne,nf,d⟩:=I.pin p hp
      refine ⟨(hs.2 p.1 ?_).trans e,n,ne,nf,d⟩
      intro q
      rw [q,JA] at e
      have q':oc=p.2:=Option.some.inj e
      exact d w' (by rw [<- q'];exact Uh)
theorem rW {M:Model} {A:Around} {E:Value->Shared->Prop} {i:Nat} {x:Str} {v:V} {u:Value} {Q:Unit->Shared->Prop} (I:Inv X pins σ H s) (hN:X.N.Nodup) (hi:X.N[i]?=some x) (hx:Loc X.env.scope x) (r:RelV v u)
    (h:∀ s',Inv X pins (σ.set i (some v)) H s'->Q () s') (hf:X.fn x=true\/X.env.scope.names.lookup x=some .local:=by first | exact .inl rfl | exact .inr rfl | assumption):wpAny M A (storeName X.env x u) Q E s :=
  Dg I hN hi hx r (fun s' I' _=>h s' I') hf
theorem Inv.GR {s':Shared} {ch:List Addr} (I:Inv X pins σ H s) (ho:s'.os=s.os) (u:Un (cU X.stack) ch H H' s.heap s'.heap) (aF:cA X.prog X.w H' s'.heap) (hg:AllBare s'.gens)
    (iS:∀ b ∈ ch,(b ∈ X.ex\/X.cQ.heap.objs.size<=b)/\b ≠ X.env.locals/\(∀ x c,X.env.cells.lookup x=some c->c ≠ b)/\∀ p ∈ X.pn++pins,p.1 ≠ b):Inv X pins σ H' s':=by
  obtain ⟨h',g',d',t',o'⟩:=s'
  have e:o'=s.os:=ho
  subst e
  exact I.call (g':=g') (t':=t') (d':=d') u aF hg iS
end
abbrev XK:=Value->Option Addr->Hp->Prop
abbrev St:=List (Option V)
abbrev VK:=V->Hp->Prop
abbrev TE:=St->Hp->VK->Prop
abbrev TT:=St->Hp->(Bool->Hp->Prop)->Prop
abbrev TA:=St->Hp->(List V->Hp->Prop)->Prop
structure Ends where
  nx:St->Hp->Prop
  rt:VK
  bk:St->Hp->Prop:=fun _ _=>False
  ct:St->Hp->Prop:=fun _ _=>False
abbrev TS:=Ends->St->Hp->Prop
def EP (X:Cx) (pins:List (Addr×Obj)) (σ:St) (Q:VK) (u:Value) (s':Shared):Prop:=∃ v H',Inv X pins σ H' s'/\RelV v u/\Q v H'
def TP (X:Cx) (pins:List (Addr×Obj)) (σ:St) (Q:Bool->Hp->Prop) (b:Bool) (s':Shared):Prop:=∃ H',Inv X pins σ H' s'/\Q b H'
def AP (X:Cx) (pins:List (Addr×Obj)) (σ:St) (Q:List V->Hp->Prop) (us:List Value) (s':Shared):Prop:=∃ vs H',Inv X pins σ H' s'/\Vals vs us/\Q vs H'
def SP (X:Cx) (pins:List (Addr×Obj)) (D:Ends) (f:Flow) (s':Shared):Prop :=
  match f with
  | .next=>∃ aG H',Inv X pins aG H' s'/\D.nx aG H'
  | .brk=>∃ aG H',Inv X pins aG H' s'/\D.bk aG H'
  | .cont=>∃ aG H',Inv X pins aG H' s'/\D.ct aG H'
  | .ret u=>∃ v aG H',Inv X pins aG H' s'/\RelV v u/\D.rt v H'
def PE (X:Cx) (e:Expr) (t:TE):Prop :=
  ∀ (pins:List (Addr×Obj)) (s:Shared) (σ:St) (H:Hp) (Q:VK),Inv X pins σ H s->t σ H Q->wpAny (model X.prog X.w) X.A (eval e X.env) (EP X pins σ Q) X.xe s
def PT (X:Cx) (e:Expr) (t:TT):Prop :=
  ∀ (pins:List (Addr×Obj)) (s:Shared) (σ:St) (H:Hp) (Q:Bool->Hp->Prop),Inv X pins σ H s->t σ H Q->wpAny (model X.prog X.w) X.A (isTrue e X.env (eval e X.env)) (TP X pins σ Q) X.xe s
def PW (X:Cx) (e:Expr) (t:TT):Prop :=
  ∀ (whole:Sem Value) (pins:List (Addr×Obj)) (s:Shared) (σ:St) (H:Hp) (Q:Bool->Hp->Prop),Inv X pins σ H s->t σ H Q->wpAny (model X.prog X.w) X.A (isTrue e X.env whole) (TP X pins σ Q) X.xe s
theorem PW.pt {X:Cx} {e:Expr} {t:TT} (h:PW X e t):PT X e t:=h _
def PA (X:Cx) (es:List Expr) (t:TA):Prop :=
  ∀ (pos:Pos) (pins:List (Addr×Obj)) (s:Shared) (σ:St) (H:Hp) (Q:List V->Hp->Prop),Inv X pins σ H s->t σ H Q->wpAny (model X.prog X.w) X.A (spliced (backTo pos (starEach es X.env))) (AP X pins σ Q) X.xe s
def PS (X:Cx) (st:Stmt) (t:TS):Prop :=
  ∀ (pins:List (Addr×Obj)) (s:Shared) (σ:St) (H:Hp) (D:Ends),Inv X pins σ H s->t D σ H->wpAny (model X.prog X.w) X.A (exec st X.env) (SP X pins D) X.xe s
def eI (X:Cx) (st:List Stmt) (t:TS):Prop :=
  ∀ (pins:List (Addr×Obj)) (s:Shared) (σ:St) (H:Hp) (D:Ends),Inv X pins σ H s->t D σ H->wpAny (model X.prog X.w) X.A (execs st X.env) (SP X pins D) X.xe s
theorem aD {α:Type} {t:Sem α} {Q Q' : α->Shared->Prop} {M:Model} {A:Around} {E:Value->Shared->Prop} {s:Shared} (h:wpAny M A t Q E s) (hQ:∀ a s,Q a s->Q' a s):wpAny M A t Q' E s:=wpAny_mono h hQ fun _ _ x=>x
end L2
namespace L2
open PySem PySem.Spec PyProof.Rows
section
variable {X:Cx}
def fR (i:Nat):TE:=fun σ H Q=>∃ v,σ[i]?=some (some v)/\Q v H
def tC (v:V):TE:=fun _ H Q=>Q v H
theorem kL {i:Nat} {x:Str} {pos:Pos} (hN:X.N[i]?=some x) (hv:ig X.env.scope x) (hd:(x==("__debug__" : Str))=false:=by decide) (ik:(x==("__classdict__" : Str))=false:=by decide):PE X (.Name x pos) (fR i):=by
  intro pins s σ H Q I h
  obtain ⟨v,e,h⟩:=h
  obtain ⟨m,hn,hl⟩:=I.loc
  obtain ⟨u,r,l⟩:=hl i x v hN e hv
  have fin:EP X pins σ Q u s:=⟨v,H,I,r,h⟩
  rcases l with ⟨hk,hm⟩ | ⟨hk,c,hc,GU⟩
  · exact wpAny_Name (wpAny_loadName_local I.ok.kind hk hn hm fin) hd
  · rcases hk with hk | hk
    · exact wpAny_Name (wpAny_loadName_cell I.ok.kind hk hc GU fin) hd
    · exact wpAny_Name (wpAny_loadName_free I.ok.kind hk hc GU fin ik) hd
theorem RY {i j pos}:PE X (.Constant (.int i) j pos) (tC (.int i)):=fun _ _ _ H _ I h=>wpAny_Constant_int ⟨.int i,H,I.tok _,⟨_,rfl⟩,h⟩
theorem RZ {j pos}:PE X (.Constant .none j pos) (tC .aN):=fun _ _ _ H _ I h=>Constant_none ⟨.aN,H,I,rfl,h⟩
theorem Fi {x j pos}:PE X (.Constant (.str x) j pos) (tC (.str x)):=fun _ _ _ H _ I h=>Calls.Constant_str ⟨.str x,H,I.tok _,⟨_,rfl⟩,h⟩
def Gl (X:Cx) (x:Str):Prop:=X.env.kindOf x=some .globalImplicit
theorem Ej {E:Value->Shared->Prop} {pins:List (Addr×Obj)} {s:Shared} {σ:St} {H:Hp} {x:Str} {u:Value} {pos:Pos} {Q:Value->Shared->Prop} (I:Inv X pins σ H s) (hg:Gl X x) (hm:X.mg x=some u) (h:Q u s)
    (hd:(x==("__debug__" : Str))=false:=by decide):wpAny (model X.prog X.w) X.A (eval (.Name x pos) X.env) Q E s :=
  Calls.Name_function_global I.ok.kind hg (Calls.loadGlobal_global (by rw [I.ok.glob];exact I.mod.glob.keeps I.bk) hm h) hd
theorem nP {E:Value->Shared->Prop} {pins:List (Addr×Obj)} {s:Shared} {σ:St} {H:Hp} {x:Str} {u:Value} {pos:Pos} {Q:Value->Shared->Prop} (I:Inv X pins σ H s) (hg:Gl X x) (hm:X.mg x=none) (hv:bootBuiltins x=some u) (h:Q u s)
    (hn:x ≠ "__name__" := by decide) (hd:(x==("__debug__" : Str))=false:=by decide):wpAny (model X.prog X.w) X.A (eval (.Name x pos) X.env) Q E s:=by
  obtain ⟨mb,h1,h2⟩:=I.mod.blt
  exact Calls.Name_function_global I.ok.kind hg (Calls.loadGlobal_builtin (by rw [I.ok.glob];exact I.mod.glob.keeps I.bk) hm (by rw [I.ok.blt];exact h1.keeps I.bk) ((h2 x hn).trans hv) h) hd
theorem Qf {x:Str} {v:V} {u:Value} {pos:Pos} (hg:Gl X x) (hm:X.mg x=some u) (r:RelV v u) (hd:(x==("__debug__" : Str))=false:=by decide):PE X (.Name x pos) (tC v) :=
  fun _ _ _ H _ I h=>Ej I hg hm ⟨v,H,I,r,h⟩ hd
theorem Qg {x:Str} {v:V} {u:Value} {pos:Pos} (hg:Gl X x) (hm:X.mg x=none) (hv:bootBuiltins x=some u) (r:RelV v u) (hn:x ≠ "__name__" := by decide) (hd:(x==("__debug__" : Str))=false:=by decide):PE X (.Name x pos) (tC v) :=
  fun _ _ _ H _ I h=>nP I hg hm hv ⟨v,H,I,r,h⟩ hn hd
variable {a b:Expr} {ta tb:TE} {pos:Pos}
def tB (t:TE):TT:=fun σ H Q=>t σ H fun x H1=>∃ c,x=.bl c/\Q c H1
theorem R0 {e:Expr} {t:TE} (h:PE X e t) (he:∀ whole,isTrue e X.env whole=(do let v <- whole;standAt e.pos;holding [v] (truthy v)):=by intro _;rfl):PT X e (tB t):=by
  intro pins s σ H Q I hw
  refine isTrue_plain (aD (h pins s σ H _ I hw) fun v s1 ⟨x,H1,I1,r1,q1⟩=>?_) (he _)
  obtain ⟨d,rfl,q⟩:=q1
  cases r1
  exact wpAny_truthy_bool ⟨H1,I1,q⟩
variable {tA t6:TT} {rest:List Expr}
def yv (t u:TT):TT:=fun σ H Q=>t σ H fun c H1=>if c=true then u σ H1 Q else Q false H1
def y6 (t u:TT):TT:=fun σ H Q=>t σ H fun c H1=>if c=true then Q true H1 else u σ H1 Q
def HQ (t:TT):TT:=fun σ H Q=>t σ H fun c H1=>Q (!c) H1
theorem Qh (ha:PT X a tA):PW X (.BoolOp .And [a] pos) tA:=by
  intro wh pins s σ H Q I h
  refine isTrue_and (aD (ha pins s σ H Q I h) fun c s1 e=>?_)
  cases c with
  | true=>exact isTrue_and_nil e
  | false=>exact e
theorem R1 (ha:PT X a tA):PW X (.BoolOp .Or [a] pos) tA:=by
  intro wh pins s σ H Q I h
  refine isTrue_or (aD (ha pins s σ H Q I h) fun c s1 e=>?_)
  cases c with
  | false=>exact isTrue_or_nil e
  | true=>exact e
theorem Fj (ha:PT X a tA) (hb:PW X (.BoolOp .And (b::rest) pos) t6):PW X (.BoolOp .And (a::b::rest) pos) (yv tA t6):=by
  intro wh pins s σ H Q I h
  refine isTrue_and (aD (ha pins s σ H _ I h) fun c s1 ⟨H1,I1,q1⟩=>?_)
  cases c with
  | true=>exact hb wh pins s1 σ H1 Q I1 q1
  | false=>exact ⟨H1,I1,q1⟩
theorem GV (ha:PT X a tA) (hb:PW X (.BoolOp .Or (b::rest) pos) t6):PW X (.BoolOp .Or (a::b::rest) pos) (y6 tA t6):=by
  intro wh pins s σ H Q I h
  refine isTrue_or (aD (ha pins s σ H _ I h) fun c s1 ⟨H1,I1,q1⟩=>?_)
  cases c with
  | true=>exact ⟨H1,I1,q1⟩
  | false=>exact hb wh pins s1 σ H1 Q I1 q1
theorem R3 (ha:PT X a tA):PT X (.UnaryOp .Not a pos) (HQ tA):=by
  intro pins s σ H Q I h
  exact isTrue_not (ha pins s σ H (fun c H1=>Q (!c) H1) I h)
def xX (ta tb:TE):TE:=fun σ H Q=>ta σ H fun x H1=>∃ c,x=.bl c/\if c=true then tb σ H1 Q else Q (.bl false) H1
def yw (ta tb:TE):TE:=fun σ H Q=>ta σ H fun x H1=>∃ c,x=.bl c/\if c=true then Q (.bl true) H1 else tb σ H1 Q
def GW (ta:TE):TE:=fun σ H Q=>ta σ H fun x H1=>∃ c,x=.bl c/\Q (.bl (!c)) H1
theorem R4 {op} {t:TE} (h:PE X a t):PE X (.BoolOp op [a] pos) t:=fun pins s σ H Q I hw=>BoolOp_one (h pins s σ H Q I hw)
theorem Fl (ha:PE X a ta) (hb:PE X (.BoolOp .And (b::rest) pos) tb):PE X (.BoolOp .And (a::b::rest) pos) (xX ta tb):=by
  intro pins s σ H Q I h
  refine BoolOp_and (aD (ha pins s σ H _ I h) fun v s1 ⟨x,H1,I1,r1,q1⟩=>?_)
  obtain ⟨c,rfl,q1⟩:=q1
  cases r1
  refine wpAny_truthy_bool ?_
  cases c with
  | true=>exact hb pins s1 σ H1 Q I1 q1
  | false=>exact ⟨.bl false,H1,I1,rfl,q1⟩
theorem GX (ha:PE X a ta) (hb:PE X (.BoolOp .Or (b::rest) pos) tb):PE X (.BoolOp .Or (a::b::rest) pos) (yw ta tb):=by
  intro pins s σ H Q I h
  refine BoolOp_or (aD (ha pins s σ H _ I h) fun v s1 ⟨x,H1,I1,r1,q1⟩=>?_)
  obtain ⟨c,rfl,q1⟩:=q1
  cases r1
  refine wpAny_truthy_bool ?_
  cases c with
  | false=>exact hb pins s1 σ H1 Q I1 q1
  | true=>exact ⟨.bl true,H1,I1,rfl,q1⟩
theorem R5 (ha:PE X a ta):PE X (.UnaryOp .Not a pos) (GW ta):=by
  intro pins s σ H Q I h
  refine UnaryOp_ (aD (ha pins s σ H _ I h) fun v s1 ⟨x,H1,I1,r1,q1⟩=>?_)
  obtain ⟨c,rfl,q1⟩:=q1
  cases r1
  exact not_of (wpAny_truthy_bool ⟨.bl (!c),H1,I1,rfl,q1⟩)
def y8 (t:TT) (ta tb:TE):TE:=fun σ H Q=>t σ H fun c H1=>if c=true then ta σ H1 Q else tb σ H1 Q
theorem DG {c:Expr} (hc:PT X c tA) (ha:PE X a ta) (hb:PE X b tb):PE X (.IfExp c a b pos) (y8 tA ta tb):=by
  intro pins s σ H Q I h
  refine wpAny_IfExp (aD (hc pins s σ H _ I h) fun d s1 ⟨H1,I1,q1⟩=>?_)
  cases d with
  | true=>exact ha pins s1 σ H1 Q I1 q1
  | false=>exact hb pins s1 σ H1 Q I1 q1
end
end L2
namespace L2
open PySem PySem.Spec PyProof.Rows
def bj (K:PySem.W.Frag) (H:Hp) (a:Addr) (xs:List V):Prop :=
  Rd H a (.lst xs) \/
    ∃ (o:Obj) (af:Array Value) (n:Nat),K.lookup a=some o/\o.cls=.type "list" /\ o.dict=none/\o.data=.seq af n/\af.size<=sizeLine/\Vals xs af.toList
def cB (K:PySem.W.Frag) (H:Hp) (a:Addr) (xs:List V):Prop :=
  Rd H a (.tup xs) \/
    ∃ (o:Obj) (af:Array Value) (n:Nat),K.lookup a=some o/\o.cls=.type "tuple" /\ o.data=.seq af n/\af.size<=sizeLine/\Vals xs af.toList
def Ui:Value->Option V
  | .none=>some .aN
  | .bool b=>some (.bl b)
  | .int i _=>some (.int i)
  | .str x _=>some (.str x)
  | .bytes b _=>some (.gN b)
  | .float b _=>some (.lu b)
  | .ref a=>some (.ref a)
  | .type n=>some (.ty n)
  | _=>none
theorem RelV.abs {x:V} {u:Value} (r:RelV x u):Ui u=some x:=by
  cases x with
  | aN=>cases r;rfl
  | bl _=>cases r;rfl
  | int _=>obtain ⟨t,rfl⟩:=r;rfl
  | str _=>obtain ⟨t,rfl⟩:=r;rfl
  | gN _=>obtain ⟨t,rfl⟩:=r;rfl
  | lu _=>obtain ⟨t,rfl⟩:=r;rfl
  | ref _=>cases r;rfl
  | ty _=>cases r;rfl
theorem RelV.inj {x y:V} {u:Value} (r:RelV x u) (q:RelV y u):x=y:=Option.some.inj (r.abs.symm.trans q.abs)
theorem Vals.inj:∀ {xs ys:List V} {us:List Value},Vals xs us->Vals ys us->xs=ys
  | _,_,_,.nil,.nil=>rfl
  | _,_,_,.cons r t,.cons r' t'=>by rw [r.inj r',Vals.inj t t']
section
variable {X:Cx} {pins:List (Addr×Obj)} {σ:St} {H:Hp} {s:Shared} {a:Addr} {xs ys:List V}
theorem bj.of {K:PySem.W.Frag} (h:H a=some (.lst xs)):bj K H a xs:=.inl (.inl h)
theorem cB.of {K:PySem.W.Frag} (h:H a=some (.tup xs)):cB K H a xs:=.inl (.inl h)
theorem Inv.list (I:Inv X pins σ H s) (h:bj X.K H a xs):∃ af:List Value,Vals xs af/\PlainL s.heap a af.toArray/\xs.length<=sizeLine:=by
  rcases h with h | ⟨o,af,n,hk,hc,hd,hs,hz,r⟩
  · obtain ⟨z,af,n,r,e⟩:=h.ok I.aF
    exact ⟨af,r,⟨_,n,e,rfl,rfl,rfl⟩,z⟩
  · refine ⟨af.toList,r,⟨o,n,I.dH a o hk,hc,hd,by simpa using hs⟩,?_⟩
    have e:=r.length
    simp only [Array.length_toList] at e
    omega
theorem Inv.tuple (I:Inv X pins σ H s) (h:cB X.K H a xs):∃ af:List Value,Vals xs af/\IsTup s.heap a af.toArray/\xs.length<=sizeLine:=by
  rcases h with h | ⟨o,af,n,hk,hc,hs,hz,r⟩
  · obtain ⟨z,af,r,p⟩:=h.ok I.aF
    exact ⟨af,r,p,z⟩
  · refine ⟨af.toList,r,⟨o,I.dH a o hk,hc,n,by simpa using hs⟩,?_⟩
    have e:=r.length
    simp only [Array.length_toList] at e
    omega
theorem Inv.DH (I:Inv X pins σ H s) (h:bj X.K H a xs) (h':bj X.K H a ys):xs=ys:=by
  obtain ⟨af,r,⟨o,n,e,_,_,d⟩,_⟩:=I.list h
  obtain ⟨its',r',⟨o',n',e',_,_,d'⟩,_⟩:=I.list h'
  rw [e] at e';cases e'
  rw [d] at d'
  injection d' with d1 _
  have:af=its':=by simpa using congrArg Array.toList d1
  subst this
  exact r.inj r'
theorem Inv.Ox (I:Inv X pins σ H s) (h:cB X.K H a xs) (h':cB X.K H a ys):xs=ys:=by
  obtain ⟨af,r,⟨o,e,_,n,d⟩,_⟩:=I.tuple h
  obtain ⟨its',r',⟨o',e',_,n',d'⟩,_⟩:=I.tuple h'
  rw [e] at e';cases e'
  rw [d] at d'
  injection d' with d1 _
  have:af=its':=by simpa using congrArg Array.toList d1
  subst this
  exact r.inj r'
end
abbrev Cx.gH (X:Cx) (E:Value->Shared->Prop):Cx:={ X with xe:=E }
abbrev Cx.qH (X:Cx):Cx:=X.gH fun _ _=>False
theorem Cx.Ok.gH {X:Cx} (ok:X.Ok) (E:Value->Shared->Prop):(X.gH E).Ok :=
  ⟨ok.mod,ok.kind,ok.glob,ok.blt,ok.above,ok.inj,ok.has,ok.qE,ok.hd,ok.frames,ok.lz,ok.Jy,ok.bs,ok.lA,ok.qu,ok.tK,ok.hJ,ok.oB⟩
theorem Cx.Ok.jR {X:Cx} {E:Value->Shared->Prop} (ok:(X.gH E).Ok):X.Ok :=
  ⟨ok.mod,ok.kind,ok.glob,ok.blt,ok.above,ok.inj,ok.has,ok.qE,ok.hd,ok.frames,ok.lz,ok.Jy,ok.bs,ok.lA,ok.qu,ok.tK,ok.hJ,ok.oB⟩
section
variable {X:Cx} {pins:List (Addr×Obj)} {σ:St} {H:Hp} {s:Shared} {E:Value->Shared->Prop}
theorem Inv.gH (I:Inv X pins σ H s) (E:Value->Shared->Prop):Inv (X.gH E) pins σ H s:=⟨I.ok.gH E,I.os,I.bare,I.base,I.loc,I.cell,I.free,I.iL,I.pin,I.aF,I.len⟩
theorem Inv.jR (I:Inv (X.gH E) pins σ H s):Inv X pins σ H s:=⟨I.ok.jR,I.os,I.bare,I.base,I.loc,I.cell,I.free,I.iL,I.pin,I.aF,I.len⟩
theorem SP.jR {D:Ends} {f:Flow} {s':Shared} (h:SP (X.gH E) pins D f s'):SP X pins D f s':=by
  cases f with
  | next=>obtain ⟨aG,H',I,q⟩:=h;exact ⟨aG,H',I.jR,q⟩
  | brk=>obtain ⟨aG,H',I,q⟩:=h;exact ⟨aG,H',I.jR,q⟩
  | cont=>obtain ⟨aG,H',I,q⟩:=h;exact ⟨aG,H',I.jR,q⟩
  | ret u=>obtain ⟨v,aG,H',I,r,q⟩:=h;exact ⟨v,aG,H',I.jR,r,q⟩
theorem eI.qH {st:List Stmt} {t:TS} (h:eI X.qH st t):eI X st t:=fun pins s σ H D I hw =>
  wpAny_mono (h pins s σ H D (I.gH _) hw) (fun _ _ q=>q.jR) fun _ _ z=>False.elim z
end
section
variable {X:Cx} {st:Stmt} {rest:List Stmt} {t u:TS} {e:Expr} {te:TE} {pos:Pos}
def GY:TS:=fun D σ H=>D.nx σ H
def yx (t u:TS):TS:=fun D σ H=>t { D with nx:=u D } σ H
theorem Qi:eI X [] GY:=fun _ _ σ H _ I h=>wpAny_execs_nil ⟨σ,H,I,h⟩
theorem DI (h1:PS X st t) (h2:eI X rest u):eI X (st::rest) (yx t u):=by
  intro pins s σ H D I h
  refine wpAny_execs_cons (aD (h1 pins s σ H { D with nx:=u D } I h) fun f s1 q=>?_)
  cases f with
  | next =>
    obtain ⟨aG,H',I',q⟩:=q
    exact h2 pins s1 aG H' D I' q
  | ret v=>exact q
  | brk=>exact q
  | cont=>exact q
theorem Qj (h1:PS X st t):eI X [st] t:=by
  intro pins s σ H D I h
  refine wpAny_execs_cons (aD (h1 pins s σ H D I h) fun f s1 q=>?_)
  cases f with
  | next=>exact wpAny_execs_nil q
  | ret v=>exact q
  | brk=>exact q
  | cont=>exact q
theorem Inv.quiet {pins:List (Addr×Obj)} {σ:St} {H:Hp} {s:Shared} (I:Inv X pins σ H s):interactive X.env=false:=by simp [interactive,I.ok.kind]
def n5 (te:TE):TS:=fun D σ H=>te σ H fun _ H1=>D.nx σ H1
theorem pI (he:PE X e te) (hs:swapsWith e none pos.line X.env=pure false:=by rfl):PS X (.Expr e pos) (n5 te):=by
  intro pins s σ H D I h
  exact wpAny_Expr_any (aD (he pins s σ H _ I h) fun v s1 ⟨x,H1,I1,r1,q1⟩=>⟨σ,H1,I1,q1⟩) I.quiet hs
def tL (te:TE):TS:=fun D σ H=>te σ H D.rt
theorem xB (he:PE X e te):PS X (.Return (some e) pos) (tL te):=by
  intro pins s σ H D I h
  exact wpAny_Return_some (aD (he pins s σ H _ I h) fun v s1 ⟨x,H1,I1,r1,q1⟩=>⟨x,σ,H1,I1,r1,q1⟩)
def yy (c:TT) (t u:TS):TS:=fun D σ H=>c σ H fun b H1=>if b=true then t D σ H1 else u D σ H1
theorem GZ {c:Expr} {a b:List Stmt} {tc:TT} (hc:PT X c tc) (ha:eI X a t) (hb:eI X b u):PS X (.If c a b pos) (yy tc t u):=by
  intro pins s σ H D I h
  refine wpAny_If (aD (hc pins s σ H _ I h) fun d s1 ⟨H1,I1,q1⟩=>?_)
  cases d with
  | true=>exact ha pins s1 σ H1 D I1 q1
  | false=>exact hb pins s1 σ H1 D I1 q1
def sM:TS:=fun _ _ _=>False
theorem vS {cC:List Stmt}:eI X cC sM:=fun _ _ _ _ _ _ h=>h.elim
end
abbrev TG:=V->St->Hp->(St->Hp->Prop)->Prop
abbrev lD:=List V->St->Hp->(St->Hp->Prop)->Prop
def PG (X:Cx) (target:Expr) (t:TG):Prop :=
  ∀ (pins:List (Addr×Obj)) (s:Shared) (σ:St) (H:Hp) (v:V) (u:Value) (Q:St->Hp->Prop),Inv X pins σ H s->RelV v u->t v σ H Q ->
    wpAny (model X.prog X.w) X.A (assign target X.env u) (fun _ s'=>∃ aG H',Inv X pins aG H' s'/\Q aG H') X.xe s
def t8 (X:Cx) (ts:List Expr) (t:lD):Prop :=
  ∀ (pins:List (Addr×Obj)) (s:Shared) (σ:St) (H:Hp) (vs:List V) (us:List Value) (Q:St->Hp->Prop),Inv X pins σ H s->Vals vs us->t vs σ H Q ->
    wpAny (model X.prog X.w) X.A (assignInOrder ((assignEach ts X.env).map (·.2)) us) (fun _ s'=>∃ aG H',Inv X pins aG H' s'/\Q aG H') X.xe s
abbrev yz:=V->V->V->Hp->(Hp->Prop)->Prop
def HR (X:Cx) (t:yz):Prop :=
  ∀ (pins:List (Addr×Obj)) (s:Shared) (σ:St) (H:Hp) (o i v:V) (ov iv u:Value) (Q:Hp->Prop),Inv X pins σ H s->RelV o ov->RelV i iv->RelV v u->t o i v H Q ->
    wpAny (model X.prog X.w) X.A (setItem ov iv u) (fun _ s'=>∃ H',Inv X pins σ H' s'/\Q H') X.xe s
section
variable {X:Cx} {pos:Pos}
def iM (i:Nat):TG:=fun v σ H Q=>Q (σ.set i (some v)) H
theorem nA {i:Nat} {x:Str} (hN:X.N.Nodup) (hi:X.N[i]?=some x) (hx:Loc X.env.scope x) (hf:X.fn x=true\/X.env.scope.names.lookup x=some .local:=by first | exact .inl rfl | exact .inr rfl | assumption):PG X (.Name x pos) (iM i):=by
  intro pins s σ H v u Q I r h
  exact wpAny_assign_Name (rW I hN hi hx r (fun s' I'=>⟨_,H,I',h⟩) hf)
def yA:lD:=fun vs σ H Q=>vs=[]/\Q σ H
def n6 (t:TG) (u:lD):lD:=fun vs σ H Q=>∃ v r,vs=v::r/\t v σ H fun aG H'=>u r aG H' Q
theorem Em:t8 X [] yA:=by
  intro pins s σ H vs us Q I r h
  obtain ⟨e,h⟩:=h
  subst e
  cases r
  exact assignInOrder_nil ⟨σ,H,I,h⟩
theorem pA {e:Expr} {es:List Expr} {t:TG} {u:lD} (h1:PG X e t) (h2:t8 X es u)
    (hs:(assignEach (e::es) X.env).map (·.2)=assign e X.env::(assignEach es X.env).map (·.2):=by rfl):t8 X (e::es) (n6 t u):=by
  intro pins s σ H vs us Q I r h
  obtain ⟨v,vr,e1,h⟩:=h
  subst e1
  cases r with
  | cons r rr =>
    rw [hs]
    refine assignInOrder_cons (aD (h1 pins s σ H _ _ _ I r h) fun _ s1 ⟨aJ,H1,I1,q1⟩=>?_)
    exact h2 pins s1 aJ H1 _ _ Q I1 rr q1
def yB (K:PySem.W.Frag) (n:Nat) (t:lD):TG:=fun v σ H Q=>∃ a xs,v=.ref a/\cB K H a xs/\xs.length=n/\t xs σ H Q
theorem Fm {es:List Expr} {k:Nat} {t:lD} {n:Nat} (hc:X.calm=true) (h:t8 X es t)
    (hn:(assignEach es X.env).length=n:=by rfl) (qI:(assignEach es X.env).findIdx? (·.1)=none:=by rfl):PG X (.Tuple es k pos) (yB X.K n t):=by
  intro pins s σ H v u Q I r hw
  obtain ⟨a,xs,e1,hq,hl,hw⟩:=hw
  subst e1
  cases r
  obtain ⟨af,rv,ht,hz⟩:=I.tuple hq
  refine assign_Tuple_tuple (I.ok.hd hc) ht (by simp [hn,<- hl,rv.length]) qI fun h' hx=>?_
  have I1:Inv X pins σ H { s with heap:=h' }:=I.kept (t':=s.toks) fun b o e=>hx b o (Nat.ne_of_lt (Heap.lt_size e)) e
  exact h pins _ σ H xs _ Q I1 (by simpa using rv) hw
def yC (to ti:TE) (t:yz):TG:=fun v σ H Q=>to σ H fun o H1=>ti σ H1 fun i H2=>t o i v H2 fun H3=>Q σ H3
theorem R6 {o i:Expr} {to ti:TE} {t:yz} (ho:PE X o to) (hi:PE X i ti) (hs:HR X t)
    (ha:∀ v,assign (.Subscript o i pos) X.env v=(do
      let ov <- holding [v] (eval o X.env)
      let iv <- holding [v,ov] (eval i X.env)
      standAt pos
      holding [v,ov,iv] (setItem ov iv v)
      release [v,ov,iv] []):=by intro _;rfl):PG X (.Subscript o i pos) (yC to ti t):=by
  intro pins s σ H v u Q I r h
  rw [ha]
  refine wpAny_bind (wpAny_holding (aD (ho pins s σ H _ I h) fun ov s1 ⟨x,H1,I1,r1,q1⟩=>?_))
  refine wpAny_bind (wpAny_holding (aD (hi pins s1 σ H1 _ I1 q1) fun iv s2 ⟨y,H2,I2,r2,q2⟩=>?_))
  refine wpAny_bind (wpAny_standAt (wpAny_bind (wpAny_holding (aD (hs pins s2 σ H2 x y v ov iv u _ I2 r1 r2 r q2) fun _ s3 ⟨H3,I3,q3⟩=>?_))))
  exact wpAny_release ⟨σ,H3,I3,q3⟩
def qv (te:TE) (g:TG):TS:=fun D σ H=>te σ H fun x H1=>g x σ H1 D.nx
theorem R7 {tg e:Expr} {te:TE} {g:TG} (he:PE X e te) (hg:PG X tg g) (hs:swapsWithSole [tg] e pos.line X.env=pure false:=by rfl) (hw:swappedStores [tg] e X.env=pure none:=by rfl)
    (h1:(assignEach [tg] X.env).map (·.2)=[assign tg X.env]:=by rfl):PS X (.Assign [tg] e pos) (qv te g):=by
  intro pins s σ H D I h
  refine wpAny_Assign_stores (aD (he pins s σ H _ I h) fun v s1 ⟨x,H1,I1,r1,q1⟩=>?_) hs hw
  rw [h1]
  exact aD (hg pins s1 σ H1 x v _ I1 r1 q1) fun _ s2 q=>q
theorem R8 {i:Nat} {x:Str} {e:Expr} {te:TE} {pos':Pos} (hN:X.N.Nodup) (hi:X.N[i]?=some x) (hx:Loc X.env.scope x) (he:PE X e te) (hs:swapsWith e (some (.Name x pos')) pos.line X.env=pure false:=by rfl) (hf:X.fn x=true\/X.env.scope.names.lookup x=some .local:=by first | exact .inl rfl | exact .inr rfl | assumption) :
    PS X (.Assign [.Name x pos'] e pos) (qv te (iM i)):=by
  intro pins s σ H D I h
  refine wpAny_Assign_Name (aD (he pins s σ H _ I h) fun v s1 ⟨y,H1,I1,r1,q1⟩=>?_) hs
  exact rW I1 hN hi hx r1 (fun s2 I2=>⟨_,H1,I2,q1⟩) hf
def HS (i j:Nat) (ta:TA):TS:=fun D σ H=>ta σ H fun vs H1=>∃ v w,vs=[v,w]/\D.nx ((σ.set i (some v)).set j (some w)) H1
theorem R9 {i j:Nat} {x y:Str} {a b:Expr} {ta:TA} {px py pt:Pos} {kt k2 lE} (hc:X.calm=true) (hN:X.N.Nodup) (hi:X.N[i]?=some x) (hj:X.N[j]?=some y) (bz:i ≠ j)
    (hx:X.env.scope.names.lookup x=some .local) (hy:X.env.scope.names.lookup y=some .local) (ha:PA X [a,b] ta)
    (hw:swappedStores [.Tuple [.Name x px,.Name y py] kt pt] (.Tuple [a,b] k2 lE) X.env=pure (some [x,y]))
    (hs:swapsWithSole [.Tuple [.Name x px,.Name y py] kt pt] (.Tuple [a,b] k2 lE) pos.line X.env=pure false:=by rfl) :
    PS X (.Assign [.Tuple [.Name x px,.Name y py] kt pt] (.Tuple [a,b] k2 lE) pos) (HS i j ta):=by
  intro pins s σ H D I h
  rw [exec_Assign_arm]
  refine wpAny_bind (wpAny_standAt ?_)
  rw [hs]
  refine wpAny_bind (wpAny_pure ?_)
  rw [if_neg (by decide)]
  refine wpAny_bind (Tuple_ (aD (ha _ pins s σ H _ I h) fun us s1 ⟨vs,H1,I1,r1,q1⟩=>?_))
  obtain ⟨v,w,e1,q1⟩:=q1
  subst e1
  obtain ⟨u1,u2,rfl,rv,lF⟩:∃ u1 u2,us=[u1,u2]/\RelV v u1/\RelV w u2:=by
    cases r1 with
    | cons p q =>
      cases q with
      | cons p' q' =>
        cases q'
        exact ⟨_,_,rfl,p,p'⟩
  refine wpAny_newObj_type ?_ (by show 2<=sizeLine;decide)
  have I2:Inv X pins σ H1 { s1 with heap:=s1.heap.push { cls:=.type "tuple",data:=.seq [u1,u2].toArray } }:=I1.kept (t':=s1.toks) fun b o e=>Heap.get?_push_of_some _ e
  rw [hw]
  refine wpAny_bind (wpAny_pure ?_)
  show wpAny (model X.prog X.w) X.A (do rule "assign.swapped-stores"; let items <- unpackItems (.ref s1.heap.objs.size) 2 none;assignInOrder [fun v=>bindName X.env y v,fun v=>bindName X.env x v] items.reverse;pure Flow.next) _ _ _
  refine wpAny_bind (wpAny_rule (wpAny_bind (unpackItems_tuple (items:=#[u1,u2]) (I.ok.hd hc) (IsTup.new s1.heap _) fun h' cV=>?_)))
  have I3:=I2.kept (h':=h') (t':=s1.toks) fun b o e=>cV b o (Nat.ne_of_lt (Heap.lt_size e)) e
  show wpAny _ _ (assignInOrder [fun v=>bindName X.env y v,fun v=>bindName X.env x v] [u2,u1] >>= fun _=>pure Flow.next) _ _ _
  refine wpAny_bind (assignInOrder_cons (wpAny_bindName (rW I3 hN hj (.inl hy) lF (fun s2 I4=>?_) (.inr hy))))
  refine assignInOrder_cons (wpAny_bindName (rW I4 hN hi (.inl hx) rv (fun s3 I5=>assignInOrder_nil (wpAny_pure ?_)) (.inr hx)))
  rw [List.set_comm _ _ (Ne.symm bz)] at I5
  exact ⟨_,H1,I5,q1⟩
end
section
variable {X:Cx} {pos:Pos}
def Fo (c:TT) (tb:TS):TS:=fun D σ H=>∃ W:Nat->St->Hp->Prop,(∃ m,W m σ H)/\∀ m σ H,W m σ H ->
  c σ H fun b H1=>if b=true then ∃ N:St->Hp->Prop,(∀ aG H',N aG H'->∃ m',m'<m/\W m' aG H')/\tb { D with nx:=N,ct:=N,bk:=D.nx } σ H1 else D.nx σ H1
theorem O9 {c:Expr} {body:List Stmt} {tc:TT} {tb:TS} (hp:PassesOwn (model X.prog X.w) X.A X.env X.xe) (hc:PT X c tc) (hb:eI X body tb):PS X (.While c body [] pos) (Fo tc tb):=by
  intro pins s σ H D I h
  obtain ⟨W,⟨m0,w0⟩,turn⟩:=h
  refine wpAny_While (codeAny_whileLoop (fun n s'=>∃ aG H',Inv X pins aG H' s'/\W n aG H') ?_ m0 ⟨σ,H,I,w0⟩)
  rintro n s1 ⟨aJ,H1,I1,w1⟩
  refine wpAny_passesOwn hp (aD (hc pins s1 aJ H1 _ I1 (turn n aJ H1 w1)) fun b s2 ⟨H2,I2,q2⟩=>?_)
  cases b with
  | true =>
    obtain ⟨N,hN,q2⟩:=q2
    rw [if_pos rfl]
    refine wpAny_passesOwn hp (aD (hb pins s2 aJ H2 _ I2 q2) fun f s3 q3=>?_)
    cases f with
    | next =>
      obtain ⟨ip,H3,I3,n3⟩:=q3
      obtain ⟨m',hm,w3⟩:=hN ip H3 n3
      exact ⟨m',hm,ip,H3,I3,w3⟩
    | cont =>
      obtain ⟨ip,H3,I3,n3⟩:=q3
      obtain ⟨m',hm,w3⟩:=hN ip H3 n3
      exact ⟨m',hm,ip,H3,I3,w3⟩
    | brk=>exact q3
    | ret v=>exact q3
  | false =>
    rw [if_neg Bool.false_ne_true]
    exact wpAny_execs_nil ⟨aJ,H2,I2,q2⟩
end
structure It where
  go:Nat->Hp->Prop
  t9:Nat->Hp->V->Hp->Prop
  stop:Nat->Hp->Prop
def fS (X:Cx) (pins:List (Addr×Obj)) (H:Hp) (b:Addr):Prop :=
  H b=none/\b ≠ X.env.locals/\b ∉ X.fs/\(b ∈ X.ex\/X.cQ.heap.objs.size<=b)/\(∀ x c,X.env.cells.lookup x=some c->c ≠ b)/\∀ p ∈ X.pn++pins,p.1 ≠ b
theorem Inv.tM {X:Cx} {pins:List (Addr×Obj)} {σ:St} {H H':Hp} {s:Shared} {b:Addr} (I:Inv X pins σ H s) (hb:s.heap.objs.size<=b) (hn:H' b=none):fS X pins H' b:=by
  refine ⟨hn,Nat.ne_of_gt (Nat.lt_of_lt_of_le I.lt hb),I.Ue hb,.inr (Nat.le_trans I.sz hb),fun x c e z=>?_,fun p hp z=>?_⟩
  · obtain ⟨v,q⟩:=I.cell x c e
    exact absurd (Nat.lt_of_lt_of_le q.lt (by rw [z];exact hb)) (Nat.lt_irrefl _)
  · exact absurd (Nat.lt_of_lt_of_le (Heap.lt_size (I.pin p hp).1) (by rw [z];exact hb)) (Nat.lt_irrefl _)
structure Turn (P:Program) (w:World) (K:PySem.W.Frag) (tg:Expr) (J:It) (fp:List Addr) (it:Addr) (tn:Nat->Heap->Prop):Prop where
  mem:it ∈ fp
  obj:∀ i h,tn i h->∀ b ∈ fp,∃ o,h.get? b=some o/\∀ v,o.data ≠ .cell v
  keep:∀ i h h',tn i h->(∀ b ∈ fp,∀ o,h.get? b=some o->h'.get? b=some o)->tn i h'
  item:∀ (X:Cx),X.prog=P->X.w=w->X.K=K->X.calm=true->∀ (i:Nat) (pins:List (Addr×Obj)) (s:Shared) (σ:St) (H:Hp) (E:Value->Shared->Prop),Inv X pins σ H s->(∀ b ∈ fp,fS X pins H b)->tn i s.heap->J.go i H ->
    wpAny (model P w) X.A (pyNext (.ref it)) (fun r s1=>∃ u,r=some u /\
      wpAny (model P w) X.A (letOwnedTupleGo tg (.ref it) u) (fun _ s2=>∃ x H',Inv X pins σ H' s2/\RelV x u/\J.t9 i H x H'/\tn (i+1) s2.heap/\∀ b ∈ fp,H' b=none) E s1) E s
  done:∀ (X:Cx),X.prog=P->X.w=w->X.K=K->X.calm=true->∀ (i:Nat) (pins:List (Addr×Obj)) (s:Shared) (σ:St) (H:Hp) (E:Value->Shared->Prop),Inv X pins σ H s->(∀ b ∈ fp,fS X pins H b)->tn i s.heap->J.stop i H ->
    wpAny (model P w) X.A (pyNext (.ref it)) (fun r s1=>r=none/\Inv X pins σ H s1) E s
  self:∀ (A:Around) (i:Nat) (s:Shared) (Q:Value->Shared->Prop) (E:Value->Shared->Prop),tn i s.heap->Q (.ref it) s->wpAny (model P w) A (pyIter (.ref it)) Q E s
abbrev TI:=St->Hp->(It->Hp->Prop)->Prop
def JC (X:Cx) (pins:List (Addr×Obj)) (σ:St) (tg:Expr) (R:It->Hp->Prop) (ua:Value) (s2:Shared):Prop :=
  ∃ (it:Addr) (fp:List Addr) (tn:Nat->Heap->Prop) (J:It) (H':Hp),ua=.ref it/\Inv X pins σ H' s2/\Turn X.prog X.w X.K tg J fp it tn/\tn 0 s2.heap/\(∀ b ∈ fp,fS X pins H' b)/\R J H'
def PI (X:Cx) (tg iter:Expr) (wi:TI):Prop :=
  ∀ (pins:List (Addr×Obj)) (s:Shared) (σ:St) (H:Hp) (R:It->Hp->Prop),Inv X pins σ H s->wi σ H R ->
    wpAny (model X.prog X.w) X.A (eval iter X.env) (fun v s1=>wpAny (model X.prog X.w) X.A (pyIter v) (JC X pins σ tg R) X.xe s1) X.xe s
theorem G7 {M:Model} {A:Around} {E:Value->Shared->Prop} {s:Shared} {tg:Expr} {it:Addr} {u:Value} {o:Obj} {n:String} {vs:Array Value} {Q:Unit->Shared->Prop} (ho:s.heap.get? it=some o) (hc:o.cls=.type n) (hd:o.data=.fields vs)
    (hn:["enumerate", "zip", "dict_itemiterator", "dict_reverseitemiterator", "odict_iterator", "itertools.zip_longest", "itertools.pairwise"].contains n=false) (hQ:Q () s):wpAny M A (letOwnedTupleGo tg (.ref it) u) Q E s:=by
  unfold letOwnedTupleGo
  cases tg<;>first
    | exact wpAny_pure hQ
    | (cases u<;>first
        | exact wpAny_pure hQ
        | (refine wpAny_bind (wpAny_load ho ?_)
           rw [hc,hd]
           show wpAny M A (if (["enumerate", "zip", "dict_itemiterator", "dict_reverseitemiterator", "odict_iterator", "itertools.zip_longest", "itertools.pairwise"].contains n&&vs[0]?==some (rawInt _))=true then _ else _) Q E s
           rw [if_neg (by intro h;rw [hn,Bool.false_and] at h;cases h)]
           exact wpAny_pure hQ))
def JD (K:PySem.W.Frag) (a:Addr):It :=
  ⟨fun i H=>∃ xs x,bj K H a xs/\xs[i]?=some x,fun i H x H'=>H'=H/\∀ xs,bj K H a xs->xs[i]?=some x,fun i H=>∃ xs,bj K H a xs/\xs.length<=i⟩
def uc (lo:Int) (n:Nat):It:=⟨fun i _=>i<n,fun i H x H'=>H'=H/\x=.int (lo+i),fun i _=>n<=i⟩
theorem Oy {P:Program} {w:World} {K:PySem.W.Frag} {tg:Expr} (a it:Addr):Turn P w K tg (JD K a) [it] it (fun i h=>h.IsListIter it a i) where
  mem:=by simp
  obj:=fun i h st b hb=>by
    have e:b=it:=by simpa using hb
    subst e
    obtain ⟨o,e,c,d⟩:=st
    exact ⟨o,e,fun v z=>by rw [d] at z;cases z⟩
  keep:=fun i h h' st k=>st.at fun o e=>k it (by simp) o e
  item:=by
    intro X hP hw hK hc i pins s σ H E I hf st hg
    subst hP hw hK
    obtain ⟨xs,x,hq,hx⟩:=hg
    obtain ⟨af,rv,p,hz⟩:=I.list hq
    obtain ⟨u,hu,ru⟩:=rv.get hx
    obtain ⟨f0,f1,f2,f3,f4,f5⟩:=hf it (by simp)
    refine wpAny_pyNext_list_item st p.isList (x:=u) (by simpa using hu) fun h' ag sb=>?_
    have I1:Inv X pins σ H { s with heap:=h' }:=I.turned (t':=s.toks) (fun b o hb e=>(sb.2 b hb).trans e) f0 f1 f3 f4 f5
    obtain ⟨o,e,c,d⟩:=id ag
    exact ⟨u,rfl,G7 (s:={ s with heap:=h' }) e c d (by decide) ⟨x,H,I1,ru,⟨rfl,fun ys hy=>by rw [I.DH hy hq];exact hx⟩,ag,fun b hb=>(hf b hb).1⟩⟩
  done:=by
    intro X hP hw hK hc i pins s σ H E I hf st hg
    subst hP hw hK
    obtain ⟨xs,hq,hx⟩:=hg
    obtain ⟨af,rv,p,hz⟩:=I.list hq
    obtain ⟨f0,f1,f2,f3,f4,f5⟩:=hf it (by simp)
    have hl:=rv.length
    exact wpAny_pyNext_list_end (I.ok.hd hc) st p.isList (by simp;omega) fun h' eb=>⟨rfl,I.turned (t':=s.toks) (fun b o hb e=>eb b o hb e) f0 f1 f3 f4 f5⟩
  self:=fun _ _ _ _ _ st h=>wpAny_pyIter_listiter st h
theorem NU {P:Program} {w:World} {K:PySem.W.Frag} {tg:Expr} (it:Addr) (lo:Int) (n:Nat):Turn P w K tg (uc lo n) [it] it (fun i h=>IsRangeIter h it (lo+(i:Nat)*1) ((n:Int)-(i:Nat)) 1) where
  mem:=by simp
  obj:=fun i h st b hb=>by
    have e:b=it:=by simpa using hb
    subst e
    exact ⟨_,st,fun v z=>by
      have z':Data.fields _=Data.cell v:=z
      cases z'⟩
  keep:=fun i h h' st k=>k it (by simp) _ st
  item:=by
    intro X hP hw hK hc i pins s σ H E I hf st hg
    subst hP hw hK
    obtain ⟨f0,f1,f2,f3,f4,f5⟩:=hf it (by simp)
    have W:=Walks.range (prog:=X.prog) (w:=X.w) (I.ok.hd hc) it lo 1 n
    refine W.item i s _ _ hg st fun v h' tk hv ag kk=>?_
    obtain ⟨t,rfl⟩:=hv
    have I1:Inv X pins σ H { s with heap:=h',toks:=tk }:=I.turned (fun b o hb e=>kk b o (by simpa using hb) e) f0 f1 f3 f4 f5
    refine ⟨_,rfl,G7 (s:={ s with heap:=h',toks:=tk }) (n := "range_iterator") ag rfl rfl (by decide) ⟨.int (lo+i),H,I1,⟨t,?_⟩,⟨rfl,rfl⟩,ag,fun b hb=>(hf b hb).1⟩⟩
    rw [Int.mul_one]
  done:=by
    intro X hP hw hK hc i pins s σ H E I hf st hg
    subst hP hw hK
    obtain ⟨f0,f1,f2,f3,f4,f5⟩:=hf it (by simp)
    exact wpAny_pyNext_range_end (I.ok.hd hc) st (by have:n<=i:=hg;omega) fun h' eb=>⟨rfl,I.turned (t':=s.toks) (fun b o hb e=>eb b o hb e) f0 f1 f3 f4 f5⟩
  self:=fun _ _ _ _ _ st h=>wpAny_pyIter_rangeiter st h
end L2
namespace L2
open PySem PySem.Spec PyProof.Rows
section
variable {X:Cx} {tg:Expr}
def G8 (K:PySem.W.Frag) (tl:TE):TI:=fun σ H R=>tl σ H fun x H1=>∃ a,x=.ref a/\(∃ xs,bj K H1 a xs)/\R (JD K a) H1
theorem Qk {l:Expr} {tl:TE} (hl:PE X l tl):PI X tg l (G8 X.K tl):=by
  intro pins s σ H R I h
  refine aD (hl pins s σ H _ I h) fun v s1 ⟨x,H1,I1,r1,q1⟩=>?_
  obtain ⟨a,e,⟨xs,hq⟩,q⟩:=q1
  subst e
  cases r1
  obtain ⟨af,rv,p,hz⟩:=I1.list hq
  refine wpAny_pyIter_list p.isList ?_
  refine ⟨s1.heap.objs.size,[s1.heap.objs.size],_,_,H1,rfl,I1.kept (t':=s1.toks) fun b o e=>Heap.get?_push_of_some _ e,Oy a _,⟨_,Heap.get?_push_size _ rfl,rfl,rfl⟩,fun b hb=>?_,q⟩
  have e:b=s1.heap.objs.size:=by simpa using hb
  subst e
  exact I1.tM (Nat.le_refl _) (I1.aF.fresh (Nat.le_refl _))
theorem Pa {pins:List (Addr×Obj)} {σ:St} {H:Hp} {s:Shared} {R:It->Hp->Prop} {E:Value->Shared->Prop} {lo hi:Int} {t u v:Tok} {tk:Nat} (I:Inv X pins σ H s) (h1 : -(2 ^ 62)<=lo) (h2:lo<2 ^ 62) (h3 : -(2 ^ 62)<=hi) (h4:hi<2 ^ 62)
    (q:R (uc lo (hi-lo).toNat) H):wpAny (model X.prog X.w) X.A (pyIter (.ref s.heap.objs.size)) (JC X pins σ tg R) E { s with heap:=s.heap.push { cls:=.type "range",data:=.fields #[.int lo t,.int hi u,.int 1 v] },toks:=tk }:=by
  refine wpAny_pyIter_range (IsRange.new ..) (small_one h1 h2 h3 h4) ?_
  have I1:Inv X pins σ H { s with heap:=s.heap.push { cls:=.type "range",data:=.fields #[.int lo t,.int hi u,.int 1 v] },toks:=tk }:=I.kept fun b o e=>Heap.get?_push_of_some _ e
  refine ⟨(s.heap.push { cls:=.type "range",data:=.fields #[.int lo t,.int hi u,.int 1 v] }).objs.size,[(s.heap.push { cls:=.type "range",data:=.fields #[.int lo t,.int hi u,.int 1 v] }).objs.size],_,_,H,rfl,
    I1.kept (t':=tk) fun b o e=>Heap.get?_push_of_some _ e,NU _ lo (hi-lo).toNat,?_,fun b hb=>?_,q⟩
  · have e1:lo+((0:Nat):Int)*1=lo:=by simp
    have e2:(((hi-lo).toNat:Nat):Int)-((0:Nat):Int)=Builtin.Range.rangeSize lo hi 1:=by rw [rangeSize_one];split<;>omega
    show IsRangeIter _ _ (lo+((0:Nat):Int)*1) ((((hi-lo).toNat:Nat):Int)-((0:Nat):Int)) 1
    rw [e1,e2]
    exact Heap.get?_push_size _ rfl
  · have e:b=(s.heap.push { cls:=.type "range",data:=.fields #[.int lo t,.int hi u,.int 1 v] }).objs.size:=by simpa using hb
    subst e
    exact I1.tM (Nat.le_refl _) (I1.aF.fresh (Nat.le_refl _))
def G9 (ta:TA):TI:=fun σ H R=>ta σ H fun vs H1=>∃ j:Int,vs=[.int j] /\ -(2 ^ 62)<=j/\j<2 ^ 62/\R (uc 0 j.toNat) H1
theorem Oz {a:Expr} {ta:TA} {p pos:Pos} (hg:Gl X "range") (hm:X.mg "range" = none) (ha:PA X [a] ta) (hs:starEach [a] X.env=[(false,eval a X.env)]:=by rfl):PI X tg (.Call (.Name "range" p) [a] [] pos) (G9 ta):=by
  intro pins s σ H R I h
  refine Call_ (nP I hg hm boot_range (PyProof.Rows.callWith_type1 (aD (ha pos pins s σ H _ I h) fun us s1 ⟨vs,H1,I1,r1,q1⟩=>?_) hs rfl))
  obtain ⟨j,e,q1,q2,q⟩:=q1
  subst e
  cases r1 with
  | cons r rr =>
    cases rr
    obtain ⟨t,rfl⟩:=r
    exact call_range_1 (Pa I1 (by omega) (by omega) q1 q2 (by simpa using q))
def HU (wi:TI) (g:TG) (tb:TS):TS:=fun D σ H=>wi σ H fun J H1=>∃ W:Nat->Nat->St->Hp->Prop,(∃ m,W 0 m σ H1)/\∀ i m σ H,W i m σ H ->
  (J.stop i H/\D.nx σ H)\/(J.go i H/\∃ N:St->Hp->Prop,(∀ aG H',N aG H'->∃ m',m'<m/\W (i+1) m' aG H')/\∀ x H',J.t9 i H x H'->g x σ H' fun dI H2=>tb { D with nx:=N,ct:=N,bk:=D.nx } dI H2)
def nQ (fp:List Addr) (h:Heap):List (Addr×Obj):=fp.filterMap fun b=>(h.get? b).map fun o=>(b,o)
theorem mY {fp:List Addr} {h:Heap} {b:Addr} {o:Obj} (hb:b ∈ fp) (e:h.get? b=some o):(b,o) ∈ nQ fp h:=List.mem_filterMap.mpr ⟨b,hb,by rw [e];rfl⟩
theorem OA {fp:List Addr} {h:Heap} {p:Addr×Obj} (hp:p ∈ nQ fp h):p.1 ∈ fp/\h.get? p.1=some p.2:=by
  obtain ⟨b,hb,e⟩:=List.mem_filterMap.mp hp
  cases q:h.get? b with
  | none=>rw [q] at e;cases e
  | some o =>
    rw [q] at e
    have e':(b,o)=p:=Option.some.inj e
    subst e'
    exact ⟨hb,q⟩
theorem Inv.pinned {pins:List (Addr×Obj)} {σ:St} {H:Hp} {s:Shared} {fp:List Addr} (I:Inv X pins σ H s) (hf:∀ b ∈ fp,fS X pins H b) (ho:∀ b ∈ fp,∃ o,s.heap.get? b=some o/\∀ v,o.data ≠ .cell v):Inv X (pins++nQ fp s.heap) σ H s :=
  I.Ei fun p hp=>(List.mem_append.mp hp).elim (fun z=>I.pin p (List.mem_append_right _ z)) fun z=>by
    obtain ⟨hb,e⟩:=OA z
    obtain ⟨f0,f1,f2,_⟩:=hf p.1 hb
    obtain ⟨o,e',d⟩:=ho p.1 hb
    rw [e] at e';cases e'
    exact ⟨e,f0,f1,f2,d⟩
theorem Inv.pB {pins pl:List (Addr×Obj)} {σ:St} {H:Hp} {s:Shared} (I:Inv X (pins++pl) σ H s):Inv X pins σ H s:=I.Ei fun p hp=>I.pin p (List.mem_append_right _ (List.mem_append_left _ hp))
theorem Sa {iter:Expr} {body:List Stmt} {wi:TI} {g:TG} {tb:TS} {pos:Pos} (hp:PassesOwn (model X.prog X.w) X.A X.env X.xe) (hc:X.calm=true) (hi:PI X tg iter wi) (hg:PG X tg g) (hb:eI X body tb)
    (hs:∀ x,foldedSetIterable iter X.env x=pure x:=by intro _;rfl):PS X (.For tg iter body [] pos) (HU wi g tb):=by
  intro pins s σ H D I h
  refine wpAny_For (aD (hi pins s σ H _ I h) fun v s1 h1=>aD h1 fun ua s2 h2=>?_) hs
  obtain ⟨it,fp,tn,J,H2,e,I2,T,aK,f2,W,⟨m0,w0⟩,turn⟩:=h2
  subst e
  have stat:∀ {H':Hp},(∀ b ∈ fp,H' b=none)->∀ b ∈ fp,fS X pins H' b:=fun hn b hb=>⟨hn b hb,(f2 b hb).2⟩
  refine codeAny_forLoop_any (fun n s'=>∃ i aG H',Inv X pins aG H' s'/\tn i s'.heap/\(∀ b ∈ fp,H' b=none)/\W i n aG H') ?_ m0 ⟨0,σ,H2,I2,aK,fun b hb=>(f2 b hb).1,w0⟩
  rintro n s3 ⟨i,ip,H3,I3,dJ,JE,w3⟩
  rcases turn i n ip H3 w3 with ⟨stop,qn⟩ | ⟨go,N,hN,step⟩
  · refine wpAny_passesOwn hp (aD (T.done X rfl rfl rfl hc i pins s3 ip H3 X.xe I3 (stat JE) dJ stop) fun r s4 ⟨hr,I4⟩=>?_)
    subst hr
    exact wpAny_execs_nil ⟨ip,H3,I4,qn⟩
  · refine wpAny_passesOwn hp (aD (T.item X rfl rfl rfl hc i pins s3 ip H3 X.xe I3 (stat JE) dJ go) fun r s4 ⟨u,hr,h4⟩=>?_)
    subst hr
    refine wpAny_passesOwn hp (aD h4 fun _ s5 ⟨x,H5,I5,r5,y5,jy,lH⟩=>?_)
    have ZN:=I5.pinned (stat lH) (T.obj _ _ jy)
    refine wpAny_passesOwn hp (aD (hg _ s5 ip H5 x u _ ZN r5 (step x H5 y5)) fun _ s6 ⟨ZO,H6,I6,q6⟩=>?_)
    refine wpAny_passesOwn hp (aD (hb _ s6 ZO H6 _ I6 q6) fun f s7 q7=>?_)
    have again:∀ {iq:St} {H7:Hp},Inv X (pins++nQ fp s5.heap) iq H7 s7->N iq H7->∃ m,m<n/\∃ i aG H',Inv X pins aG H' s7/\tn i s7.heap/\(∀ b ∈ fp,H' b=none)/\W i m aG H':=fun {iq H7} I7 n7=>by
      obtain ⟨m',hm,w7⟩:=hN iq H7 n7
      refine ⟨m',hm,i+1,iq,H7,I7.pB,T.keep _ _ _ jy fun b hb o e=>(I7.pin (b,o) (List.mem_append_right _ (List.mem_append_right _ (mY hb e)))).1,fun b hb=>?_,w7⟩
      obtain ⟨o,e,d⟩:=T.obj _ _ jy b hb
      exact (I7.pin (b,o) (List.mem_append_right _ (List.mem_append_right _ (mY hb e)))).2.1
    cases f with
    | next=>obtain ⟨iq,H7,I7,n7⟩:=q7;exact again I7 n7
    | cont=>obtain ⟨iq,H7,I7,n7⟩:=q7;exact again I7 n7
    | brk=>obtain ⟨iq,H7,I7,q7⟩:=q7;exact ⟨iq,H7,I7.pB,q7⟩
    | ret v=>obtain ⟨x7,iq,H7,I7,r7,q7⟩:=q7;exact ⟨x7,iq,H7,I7.pB,r7,q7⟩
end
end L2
namespace L2
open PySem PySem.Spec PyProof.Rows
abbrev R2:=V->V->Hp->VK->Prop
def cD (X:Cx) (f:Value->Value->Sem Value) (r:R2):Prop :=
  ∀ (pins:List (Addr×Obj)) (s:Shared) (σ:St) (H:Hp) (x y:V) (v u:Value) (Q:VK),Inv X pins σ H s->RelV x v->RelV y u->r x y H Q ->
    wpAny (model X.prog X.w) X.A (f v u) (EP X pins σ Q) X.xe s
def y9 (X:Cx) (f:Value->Sem Value) (r:V->Hp->VK->Prop):Prop :=
  ∀ (pins:List (Addr×Obj)) (s:Shared) (σ:St) (H:Hp) (x:V) (v:Value) (Q:VK),Inv X pins σ H s->RelV x v->r x H Q ->
    wpAny (model X.prog X.w) X.A (f v) (EP X pins σ Q) X.xe s
def eD (X:Cx) (f:Value) (r:List V->Hp->VK->Prop):Prop :=
  ∀ (pins:List (Addr×Obj)) (s:Shared) (σ:St) (H:Hp) (xs:List V) (us:List Value) (Q:VK),Inv X pins σ H s->Vals xs us->r xs H Q ->
    wpAny (model X.prog X.w) X.A (call f us) (EP X pins σ Q) X.xe s
def jz (r:R2) (ta tb:TE):TE:=fun σ H Q=>ta σ H fun x H1=>tb σ H1 fun y H2=>r x y H2 Q
def ZP (r:V->Hp->VK->Prop) (ta:TE):TE:=fun σ H Q=>ta σ H fun x H1=>r x H1 Q
def rI (C:Int->Int->Prop) (g:Int->Int->V):R2:=fun x y H Q=>∃ i j,x=.int i/\y=.int j/\C i j/\Q (g i j) H
def lI (g:Int->Int->V):R2:=fun x y H Q=>∃ i j,x=.int i/\y=.int j/\Q (g i j) H
def rU (g:Int->V):V->Hp->VK->Prop:=fun x H Q=>∃ i,x=.int i/\Q (g i) H
section
variable {X:Cx} {a b c:Expr} {ta tb tc:TE} {pos:Pos}
theorem yD (ha:PE X a ta) (hb:PE X b tb) {pins:List (Addr×Obj)} {s:Shared} {σ:St} {H:Hp} {R:V->V->Hp->Prop} (I:Inv X pins σ H s)
    (h:ta σ H fun x H1=>tb σ H1 fun y H2=>R x y H2) {Q:Value->Shared->Prop} {f:Value->Value->Sem Value}
    (hf:∀ v u s2 x y H2,Inv X pins σ H2 s2->RelV x v->RelV y u->R x y H2->wpAny (model X.prog X.w) X.A (f v u) Q X.xe s2) :
    wpAny (model X.prog X.w) X.A (eval a X.env) (fun v bp=>wpAny (model X.prog X.w) X.A (eval b X.env) (fun u kX=>wpAny (model X.prog X.w) X.A (f v u) Q X.xe kX) X.xe bp) X.xe s:=by
  refine aD (ha pins s σ H _ I h) fun v s1 ⟨x,H1,I1,r1,q1⟩=>?_
  refine aD (hb pins s1 σ H1 _ I1 q1) fun u s2 ⟨y,H2,I2,r2,q2⟩=>?_
  exact hf v u s2 x y H2 I2 r1 r2 q2
theorem Tj {op:Operator} {r:R2} (ho:cD X (binaryOp op) r) (ha:PE X a ta) (hb:PE X b tb):PE X (.BinOp a op b pos) (jz r ta tb):=by
  intro pins s σ H Q I h
  exact wpAny_BinOp (yD ha hb I h fun v u s2 x y H2 I2 rx ry q=>ho pins s2 σ H2 x y v u Q I2 rx ry q)
theorem Tn {op:UnaryOp} {r:V->Hp->VK->Prop} (ho:y9 X (unaryOp op) r) (ha:PE X a ta):PE X (.UnaryOp op a pos) (ZP r ta):=by
  intro pins s σ H Q I h
  exact UnaryOp_ (aD (ha pins s σ H _ I h) fun v s1 ⟨x,H1,I1,r1,q1⟩=>ho pins s1 σ H1 x v Q I1 r1 q1)
theorem ud {f:Value->Value->Sem Value} {C:Int->Int->Prop} {g:Int->Int->Int}
    (rule:∀ (i j:Int) (t u:Tok) (s:Shared) (Q:Value->Shared->Prop) (E:Value->Shared->Prop),C i j->Q (.int (g i j) s.toks) { s with toks:=s.toks+1 }->wpAny (model X.prog X.w) X.A (f (.int i t) (.int j u)) Q E s) :
    cD X f (rI C fun i j=>.int (g i j)):=by
  intro pins s σ H x y v u Q I rx ry h
  obtain ⟨i,j,rfl,rfl,hc,q⟩:=h
  obtain ⟨t,rfl⟩:=rx
  obtain ⟨t',rfl⟩:=ry
  exact rule i j t t' s _ _ hc ⟨.int (g i j),H,I.tok _,⟨_,rfl⟩,q⟩
theorem HV {f:Value->Value->Sem Value} {g:Int->Int->Int}
    (rule:∀ (i j:Int) (t u:Tok) (s:Shared) (Q:Value->Shared->Prop) (E:Value->Shared->Prop),Q (.int (g i j) s.toks) { s with toks:=s.toks+1 }->wpAny (model X.prog X.w) X.A (f (.int i t) (.int j u)) Q E s) :
    cD X f (lI fun i j=>.int (g i j)):=by
  intro pins s σ H x y v u Q I rx ry h
  obtain ⟨i,j,rfl,rfl,q⟩:=h
  obtain ⟨t,rfl⟩:=rx
  obtain ⟨t',rfl⟩:=ry
  exact rule i j t t' s _ _ ⟨.int (g i j),H,I.tok _,⟨_,rfl⟩,q⟩
theorem yE {f:Value->Value->Sem Value} {g:Int->Int->Bool}
    (rule:∀ (i j:Int) (t u:Tok) (s:Shared) (Q:Value->Shared->Prop) (E:Value->Shared->Prop),Q (.bool (g i j)) s->wpAny (model X.prog X.w) X.A (f (.int i t) (.int j u)) Q E s) :
    cD X f (lI fun i j=>.bl (g i j)):=by
  intro pins s σ H x y v u Q I rx ry h
  obtain ⟨i,j,rfl,rfl,q⟩:=h
  obtain ⟨t,rfl⟩:=rx
  obtain ⟨t',rfl⟩:=ry
  exact rule i j t t' s _ _ ⟨.bl (g i j),H,I,rfl,q⟩
def tN (i j:Int):Prop:=(-(2 ^ 64)<i/\i<2 ^ 64)\/(-(2 ^ 64)<j/\j<2 ^ 64)
theorem tN.ok {i j:Int} (h:tN i j):IntMulOk i j:=by
  rcases h with ⟨h1,h2⟩ | ⟨h1,h2⟩
  · exact .of_left (intBits_le_64 h1 h2)
  · exact .of_right (intBits_le_64 h1 h2)
theorem Sb:cD X (binaryOp .Add) (lI fun i j=>.int (i+j)):=HV fun _ _ _ _ _ _ _ q=>add_int q
theorem Sd:cD X (binaryOp .Sub) (lI fun i j=>.int (i-j)):=HV fun _ _ _ _ _ _ _ q=>sub_int q
theorem Se:cD X (binaryOp .Mult) (rI tN fun i j=>.int (i*j)):=ud fun _ _ _ _ _ _ _ hc q=>mul_int q hc.ok
theorem Sf:cD X (binaryOp .Mod) (rI (fun _ j=>0<j) fun i j=>.int (i % j)):=ud fun i j _ _ _ _ _ hc q=>by
  have h1:(0:Int)<j:=hc
  exact mod_int' (by omega) (by rw [Int.fmod_eq_emod_of_nonneg i (by omega)];exact q)
theorem ZQ {f:Value->Sem Value} {g:Int->Int}
    (rule:∀ (i:Int) (t:Tok) (s:Shared) (Q:Value->Shared->Prop) (E:Value->Shared->Prop),Q (.int (g i) s.toks) { s with toks:=s.toks+1 }->wpAny (model X.prog X.w) X.A (f (.int i t)) Q E s) :
    y9 X f (rU fun i=>.int (g i)):=by
  intro pins s σ H x v Q I rx h
  obtain ⟨i,rfl,q⟩:=h
  obtain ⟨t,rfl⟩:=rx
  exact rule i t s _ _ ⟨.int (g i),H,I.tok _,⟨_,rfl⟩,q⟩
theorem Sg:y9 X (unaryOp .USub) (rU fun i=>.int (-i)):=ZQ fun _ _ _ _ _ q=>neg_int q
end
def tO:V->V->Bool
  | .aN,.aN=>true | .aN,.int _=>true | .int _,.aN=>true | .aN,.bl _=>true | .bl _,.aN=>true | .aN,.str _=>true | .str _,.aN=>true
  | .int _,.int _=>true | .bl _,.bl _=>true | .str _,.str _=>true | .gN _,.gN _=>true
  | .int _,.str _=>true | .str _,.int _=>true | .bl _,.str _=>true | .str _,.bl _=>true
  | _,_=>false
def ZR:R2:=fun x y H Q=>tO x y=true/\Q (.bl (decide (x=y))) H
def ZS:R2:=fun x y H Q=>tO x y=true/\Q (.bl (!decide (x=y))) H
theorem Ep {i j:Int}:decide (V.int i=V.int j)=(i==j):=by
  rw [Bool.eq_iff_iff]
  simp
theorem Fp {i j:Bool}:decide (V.bl i=V.bl j)=(i==j):=by
  rw [Bool.eq_iff_iff]
  simp
theorem Er {i j:Str}:decide (V.str i=V.str j)=(i==j):=by
  rw [Bool.eq_iff_iff]
  simp
theorem Es {i j:Array UInt8}:decide (V.gN i=V.gN j)=(i.toList==j.toList):=by
  rw [Bool.eq_iff_iff]
  cases i
  cases j
  simp
section
variable {X:Cx} {a b c:Expr} {ta tb tc:TE} {pos:Pos}
theorem bQ {pins:List (Addr×Obj)} {σ:St} {H:Hp} {s:Shared} {Q:VK} {k k':Bool} (I:Inv X pins σ H s) (q:Q (.bl k) H) (e:k=k'):EP X pins σ Q (.bool k') s:=by
  subst e
  exact ⟨.bl k,H,I,rfl,q⟩
theorem xY:cD X (compareOp .Eq) ZR:=by
  intro pins s σ H x y v u Q I rx ry h
  obtain ⟨hs,q⟩:=h
  cases x with
  | aN =>
    cases rx
    cases y with
    | aN=>cases ry;exact PySem.EqNone.eq_none_none (bQ I q (by simp))
    | bl j=>cases ry;exact PySem.EqNone.eq_none_bool (bQ I q (by simp))
    | int j=>obtain ⟨t',rfl⟩:=ry;exact PySem.EqNone.eq_none_int (bQ I q (by simp))
    | str j=>obtain ⟨t',rfl⟩:=ry;exact PySem.EqNone.eq_none_str (bQ I q (by simp))
    | _=>exact absurd (show false=true from hs) Bool.false_ne_true
  | bl i =>
    cases rx
    cases y with
    | aN=>cases ry;exact PySem.EqNone.eq_bool_none (bQ I q (by simp))
    | bl j=>cases ry;exact eq_bool (bQ I q Fp)
    | str j=>obtain ⟨t',rfl⟩:=ry;exact PySem.EqMixed.eq_bool_str (bQ I q (by simp))
    | _=>exact absurd (show false=true from hs) Bool.false_ne_true
  | int i =>
    obtain ⟨t,rfl⟩:=rx
    cases y with
    | aN=>cases ry;exact PySem.EqNone.eq_int_none (bQ I q (by simp))
    | int j=>obtain ⟨t',rfl⟩:=ry;exact eq_int (bQ I q Ep)
    | str j=>obtain ⟨t',rfl⟩:=ry;exact PySem.EqMixed.eq_int_str (bQ I q (by simp))
    | _=>exact absurd (show false=true from hs) Bool.false_ne_true
  | str i =>
    obtain ⟨t,rfl⟩:=rx
    cases y with
    | aN=>cases ry;exact PySem.EqNone.eq_str_none (bQ I q (by simp))
    | bl j=>cases ry;exact PySem.EqMixed.eq_str_bool (bQ I q (by simp))
    | int j=>obtain ⟨t',rfl⟩:=ry;exact PySem.EqMixed.eq_str_int (bQ I q (by simp))
    | str j=>obtain ⟨t',rfl⟩:=ry;exact eq_str (bQ I q Er)
    | _=>exact absurd (show false=true from hs) Bool.false_ne_true
  | gN i =>
    obtain ⟨t,rfl⟩:=rx
    cases y with
    | gN j=>obtain ⟨t',rfl⟩:=ry;exact PySem.W.eq_bytes (bQ I q Es)
    | _=>exact absurd (show false=true from hs) Bool.false_ne_true
  | _=>cases y<;>exact absurd (show false=true from hs) Bool.false_ne_true
theorem Hc:cD X (compareOp .NotEq) ZS:=by
  intro pins s σ H x y v u Q I rx ry h
  obtain ⟨hs,q⟩:=h
  cases x with
  | aN =>
    cases rx
    cases y with
    | aN=>cases ry;exact PySem.EqNone.ne_none_none (bQ I q (by simp))
    | bl j=>cases ry;exact PySem.EqNone.ne_none_bool (bQ I q (by simp))
    | int j=>obtain ⟨t',rfl⟩:=ry;exact PySem.EqNone.ne_none_int (bQ I q (by simp))
    | str j=>obtain ⟨t',rfl⟩:=ry;exact PySem.EqNone.ne_none_str (bQ I q (by simp))
    | _=>exact absurd (show false=true from hs) Bool.false_ne_true
  | bl i =>
    cases rx
    cases y with
    | aN=>cases ry;exact PySem.EqNone.ne_bool_none (bQ I q (by simp))
    | bl j=>cases ry;exact ne_bool (bQ I q (congrArg not Fp))
    | str j=>obtain ⟨t',rfl⟩:=ry;exact PySem.EqMixed.ne_bool_str (bQ I q (by simp))
    | _=>exact absurd (show false=true from hs) Bool.false_ne_true
  | int i =>
    obtain ⟨t,rfl⟩:=rx
    cases y with
    | aN=>cases ry;exact PySem.EqNone.ne_int_none (bQ I q (by simp))
    | int j=>obtain ⟨t',rfl⟩:=ry;exact ne_int (bQ I q (congrArg not Ep))
    | str j=>obtain ⟨t',rfl⟩:=ry;exact PySem.EqMixed.ne_int_str (bQ I q (by simp))
    | _=>exact absurd (show false=true from hs) Bool.false_ne_true
  | str i =>
    obtain ⟨t,rfl⟩:=rx
    cases y with
    | aN=>cases ry;exact PySem.EqNone.ne_str_none (bQ I q (by simp))
    | bl j=>cases ry;exact PySem.EqMixed.ne_str_bool (bQ I q (by simp))
    | int j=>obtain ⟨t',rfl⟩:=ry;exact PySem.EqMixed.ne_str_int (bQ I q (by simp))
    | str j=>obtain ⟨t',rfl⟩:=ry;exact ne_str (bQ I q (congrArg not Er))
    | _=>exact absurd (show false=true from hs) Bool.false_ne_true
  | gN i =>
    obtain ⟨t,rfl⟩:=rx
    cases y with
    | gN j=>obtain ⟨t',rfl⟩:=ry;exact PySem.W.ne_bytes (bQ I q (congrArg not Es))
    | _=>exact absurd (show false=true from hs) Bool.false_ne_true
  | _=>cases y<;>exact absurd (show false=true from hs) Bool.false_ne_true
theorem Hd:cD X (compareOp .Lt) (lI fun i j=>.bl (decide (i<j))):=yE fun _ _ _ _ _ _ _ q=>lt_int q
theorem He:cD X (compareOp .Gt) (lI fun i j=>.bl (decide (j<i))):=yE fun _ _ _ _ _ _ _ q=>gt_int q
theorem To:cD X (compareOp .GtE) (lI fun i j=>.bl (decide (j<=i))):=yE fun _ _ _ _ _ _ _ q=>ge_int q
theorem xC:cD X (compareOp .Is) (fun x y H Q=>y=.aN/\Q (.bl (decide (x=.aN))) H):=by
  intro pins s σ H x y v u Q I rx ry h
  obtain ⟨rfl,q⟩:=h
  cases ry
  refine is_none_gen (bQ I q ?_)
  cases x<;>first
    | (cases rx;rfl)
    | (obtain ⟨t,rfl⟩:=rx;rfl)
theorem eR (b:Expr) {op:CmpOp} (h:op ≠ .In:=by decide) (h2:op ≠ .NotIn:=by decide):behindInMarks op b=false:=by
  have e1:(op==CmpOp.In)=false:=by cases op<;>first | rfl | exact absurd rfl h
  have e2:(op==CmpOp.NotIn)=false:=by cases op<;>first | rfl | exact absurd rfl h2
  cases b<;>simp [behindInMarks,e1,e2]
theorem Ql {op:CmpOp} {r:R2} (ho:cD X (compareOp op) r) (ha:PE X a ta) (hb:PE X b tb) (hm:behindInMarks op b=false):PE X (.Compare a [op] [b] pos) (jz r ta tb):=by
  intro pins s σ H Q I h
  exact wpAny_Compare1 (yD ha hb I h fun v u s2 x y H2 I2 rx ry q=>ho pins s2 σ H2 x y v u Q I2 rx ry q) hm
def Hf (t:TE):TT:=fun σ H Q=>t σ H fun x H'=>∃ k,x=.bl k/\Q k H'
theorem Qm {op:CmpOp} {r:R2} (ho:cD X (compareOp op) r) (ha:PE X a ta) (hb:PE X b tb) (hm:behindInMarks op b=false):PT X (.Compare a [op] [b] pos) (Hf (jz r ta tb)):=by
  intro pins s σ H Q I h
  refine wpAny_isTrue_Compare1 (aD (ha pins s σ H _ I h) fun v s1 ⟨x,H1,I1,r1,q1⟩=>aD (hb pins s1 σ H1 _ I1 q1) fun u s2 ⟨y,H2,I2,r2,q2⟩ =>
    aD (ho pins s2 σ H2 x y v u _ I2 r1 r2 q2) fun c s3 ⟨z,H3,I3,r3,k,e,q3⟩=>?_) hm
  subst e
  cases r3
  exact wpAny_truthy_bool ⟨H3,I3,q3⟩
theorem sN:(sizeLine:Nat)<2 ^ 63:=by rw [sizeLine_eq];decide
theorem vals1 {x:V} {us:List Value} (r:Vals [x] us):∃ u,us=[u]/\RelV x u:=by
  cases r with
  | cons r1 r2=>cases r2;exact ⟨_,rfl,r1⟩
theorem Pb:eD X (.builtin "abs") (fun xs H Q=>∃ i,xs=[.int i]/\Q (.int (if i<0 then -i else i)) H):=by
  intro pins s σ H xs us Q I r h
  obtain ⟨i,rfl,q⟩:=h
  obtain ⟨u,rfl,t,rfl⟩:=vals1 r
  exact call_abs_int fun u tk=>⟨.int (if i<0 then -i else i),H,I.tok _,⟨_,rfl⟩,q⟩
end
end L2
namespace L2
open PySem PySem.Spec PyProof.Rows
structure yF (h:Heap) (x dx C:Addr) (mA:Str->Option Value):Prop where
  obj:h.get? x=some (PySem.W.instObj C dx)
  ns:h.Ns1 dx mA
  ne:dx ≠ x
theorem OB {h:Heap} {dx:Addr} {mA:Str->Option Value} (n:h.Ns1 dx mA):∃ od,h.get? dx=some od/\∀ name,PySem.W.lookIn name od=some (mA name):=by
  obtain ⟨o,es,ep,ho,hd,hk,_,hm⟩:=n
  refine ⟨o,ho,fun name=>?_⟩
  have e:=hm name
  unfold nsFind findBy at e
  rw [<- Array.find?_toList] at e
  unfold PySem.W.lookIn
  rw [hd]
  dsimp only
  split
  · rename_i y q
    rw [q] at e
    exact congrArg some e
  · rename_i q
    rw [q] at e
    have a:es.toList.any (·.refKey)=false:=by
      rw [List.any_eq_false]
      intro y hy
      obtain ⟨z,t,Uj⟩:=hk y (Array.mem_toList_iff.mp hy)
      simp [DictEntry.refKey,Uj]
    have a':¬ es.toList.any (·.refKey)=true:=by rw [a];exact Bool.false_ne_true
    rw [if_neg a']
    exact congrArg some e
theorem yF.look {h:Heap} {x dx C:Addr} {mA:Str->Option Value} (I:yF h x dx C mA):∃ od,PySem.W.InstAt h x (PySem.W.instObj C dx) C (some od)/\∀ name,PySem.W.lookIn name od=some (mA name) :=
  let ⟨od,ho,hl⟩:=OB I.ns
  ⟨od,⟨I.obj,rfl,rfl,ho⟩,hl⟩
section
variable {P:Program} {w:World} {H H':Hp} {h h':Heap} {a C dx:Addr} {fs ZK:List (Str×V)}
theorem Qn (aF:cA P w H h) (e:H a=some (.ins C dx fs)):∃ mA,yF h a dx C mA/\(∀ f,yu (fs.lookup f) (mA f))/\PySem.Within mA (fs.map (·.1))/\fs.length<=1000/\H dx=some (.own a):=by
  obtain ⟨d,z,ne,ob,mA,n,r,q⟩:=(show cP P w H h a (.ins C dx fs) from aF a _ e)
  exact ⟨mA,⟨ob,n,ne⟩,r,q,z,d⟩
end
structure za (K:PySem.W.Frag) (C:Addr):Prop where
  pg:PySem.W.plainGet K C Str.empty=true
  hd:PySem.W.hasDictIn K C=true
  po:PySem.W.plainOver K C=true
  sa:PySem.W.findIn K (.ref C) "__setattr__" = some (some (.builtin "object.__setattr__"))
theorem za.get {K:PySem.W.Frag} {C:Addr} (c:za K C) (f:Str):PySem.W.plainGet K C f=true:=c.pg
section
variable {X:Cx} {pins:List (Addr×Obj)} {σ:St} {H:Hp} {s:Shared} {A:Around} {E:Value->Shared->Prop} {Q:Value->Shared->Prop} {c:Value} {b:Bool}
inductive gI (K:PySem.W.Frag) (H:Hp):V->Value->Prop where
  | aN:gI K H .aN (.type "NoneType")
  | bl (x:Bool):gI K H (.bl x) (.type "bool")
  | int (i:Int):gI K H (.int i) (.type "int")
  | str (x:Str):gI K H (.str x) (.type "str")
  | lu (x:UInt64):gI K H (.lu x) (.type "float")
  | lst {a:Addr} {xs:List V} (e:H a=some (.lst xs)):gI K H (.ref a) (.type "list")
  | d8 {a:Addr} {o:Obj} {xs:List V} (e:H a=some (.d8 o (.lst xs))):gI K H (.ref a) (.type "list")
  | tup {a:Addr} {xs:List V} (e:H a=some (.tup xs)):gI K H (.ref a) (.type "tuple")
  | dK {a:Addr} {cJ:List (Key×V)} (e:H a=some (.dK cJ)):gI K H (.ref a) (.type "dict")
  | dT {a:Addr} {cJ:List (List Key×V)} (e:H a=some (.dT cJ)):gI K H (.ref a) (.type "dict")
  | ins {a C dx:Addr} {fs:List (Str×V)} (e:H a=some (.ins C dx fs)) (cl:za K C) (ha:PySem.W.findIn K (.ref C) "__class__" = some (some (.builtin "object.__class__")))
      (hn:PySem.W.specialIn K (.builtin "object.__class__") "__get__" = some (some (.builtin "getset_descriptor.__get__"))) (JF:PySem.W.takesIn K (.builtin "object.__class__")=some true)
      (hm:PySem.W.mroIn K C (.type "object")=some true):gI K H (.ref a) (.ref C)
theorem rP {x:V} {u t:Value} (I:Inv X pins σ H s) (rx:RelV x u) (ty:gI X.K H x t) (e:PySem.W.kitOne X.K t c=some b) (h:∀ tk,Q (.bool b) { s with toks:=tk }) :
    wpAny (model X.prog X.w) A (call (.builtin "isinstance") [u,c]) Q E s:=by
  cases ty with
  | aN=>cases (show u=Value.none from rx);exact PySem.W.kia_one PySem.W.kitx_none I.dH True.intro e (fun z=>nomatch z) h
  | bl y=>cases (show u=Value.bool y from rx);exact PySem.W.kia_one PySem.W.kitx_bool I.dH True.intro e (fun z=>nomatch z) h
  | int i=>obtain ⟨t,q⟩:=(show ∃ t,u=Value.int i t from rx);cases q;exact PySem.W.kia_one PySem.W.kitx_int I.dH True.intro e (fun z=>nomatch z) h
  | str y=>obtain ⟨t,q⟩:=(show ∃ t,u=Value.str y t from rx);cases q;exact PySem.W.kia_one PySem.W.kitx_str I.dH True.intro e (fun z=>nomatch z) h
  | lu y=>obtain ⟨t,q⟩:=(show ∃ t,u=Value.float y t from rx);cases q;exact PySem.W.kia_one PySem.W.kitx_float I.dH True.intro e (fun z=>nomatch z) h
  | @lst a xs ea =>
    cases (show u=Value.ref a from rx)
    obtain ⟨_,_,n,_,h1⟩:=(show cP X.prog X.w H s.heap a (.lst xs) from I.aF a _ ea)
    exact PySem.W.kia_one PySem.W.kitx_list I.dH ⟨_,h1,rfl⟩ e (fun z=>nomatch z) h
  | @d8 a ob xs ea =>
    cases (show u=Value.ref a from rx)
    obtain ⟨_,_,_,n,_,h1⟩:=(show cP X.prog X.w H s.heap a (.d8 ob (.lst xs)) from I.aF a _ ea)
    exact PySem.W.kia_one PySem.W.kitx_list I.dH ⟨_,h1,rfl⟩ e (fun z=>nomatch z) h
  | @tup a xs ea =>
    cases (show u=Value.ref a from rx)
    obtain ⟨_,_,_,p⟩:=(show cP X.prog X.w H s.heap a (.tup xs) from I.aF a _ ea)
    obtain ⟨o,h1,h2,_⟩:=p
    exact PySem.W.kia_one PySem.W.kitx_tuple I.dH ⟨o,h1,h2⟩ e (fun z=>nomatch z) h
  | @dK a cJ ea =>
    cases (show u=Value.ref a from rx)
    obtain ⟨_,_,vs,_,p⟩:=(show cP X.prog X.w H s.heap a (.dK cJ) from I.aF a _ ea)
    obtain ⟨o,es,ep,h1,h2,_⟩:=p
    exact PySem.W.kia_one PySem.W.kitx_dict I.dH ⟨o,h1,h2.1⟩ e (fun z=>nomatch z) h
  | @dT a cJ ea =>
    cases (show u=Value.ref a from rx)
    obtain ⟨_,_,xs,_,o,es,ep,h1,h2,_⟩:=(show cP X.prog X.w H s.heap a (.dT cJ) from I.aF a _ ea)
    exact PySem.W.kia_one PySem.W.kitx_dict I.dH ⟨o,h1,h2.1⟩ e (fun z=>nomatch z) h
  | @ins a C dx fs ea cl ha hn JF hm =>
    cases (show u=Value.ref a from rx)
    obtain ⟨mA,O,_⟩:=Qn I.aF ea
    obtain ⟨od,J,_⟩:=O.look
    exact PySem.W.kia_one (PySem.W.kitx_own (cl.get _) cl.hd ha hn JF hm) I.dH J e (fun z=>nomatch z) h
end
end L2
namespace L2
open PySem PySem.Spec PyProof.Rows
structure dq (k:Nat) (A:Around):Prop where
  hd:A.handled=none
  dp:A.depth+3*k+5<recursionLimit
  un:A.units+16*k+200<cLine
theorem dq.mono {j k:Nat} {A:Around} (r:dq k A) (h:j<=k):dq j A:=⟨r.hd,by have:=r.dp;omega,by have:=r.un;omega⟩
theorem dq.deeper {k:Nat} {A:Around} (r:dq (k+1) A) (env:Env):dq k (A.deeper env) :=
  ⟨r.hd,by have:=r.dp;show A.depth+1+3*k+5<_;omega,by have:=r.un;show A.units+3+16*k+200<_;omega⟩
theorem dq.depth {k:Nat} {A:Around} (r:dq k A):A.depth<recursionLimit:=by have:=r.dp;omega
theorem dq.units {k:Nat} {A:Around} (r:dq k A):A.units+64<cLine:=by have:=r.un;omega
def fc:TA:=fun _ H Q=>Q [] H
def dZ (ta:TE) (tr:TA):TA:=fun σ H Q=>ta σ H fun x H1=>tr σ H1 fun xs H2=>Q (x::xs) H2
section
variable {X:Cx} {e:Expr} {es:List Expr} {te:TE} {t:TA} {pos:Pos}
theorem eT:PA X [] fc:=fun _ _ _ _ H Q I h=>Calls.spliced_nil ⟨[],H,I,.nil,h⟩
theorem dw (ha:PE X e te) (hr:PA X es t) (hs:starEach (e::es) X.env=(false,eval e X.env)::starEach es X.env:=by rfl):PA X (e::es) (dZ te t):=by
  intro pos pins s σ H Q I h
  rw [hs]
  show wpAny _ _ (spliced ((false,eval e X.env)::backTo pos (starEach es X.env))) _ _ s
  refine Calls.spliced_cons (aD (ha pins s σ H _ I h) fun u s1 ⟨x,H1,I1,r1,q1⟩=>?_)
  exact aD (hr pos pins s1 σ H1 _ I1 q1) fun us s2 ⟨xs,H2,I2,r2,q2⟩=>⟨x::xs,H2,I2,.cons r1 r2,q2⟩
def yG (t:TA):TE:=fun σ H Q=>t σ H fun xs H1=>xs.length<=sizeLine/\∀ p,H1 p=none->Q (.ref p) (upd H1 p (.tup xs))
def HW (t:TA):TE:=fun σ H Q=>t σ H fun xs H1=>xs.length<=sizeLine/\∀ p,H1 p=none->Q (.ref p) (upd H1 p (.lst xs))
theorem Fq {x1} (h:PA X es t):PE X (.Tuple es x1 pos) (yG t):=by
  intro pins s σ H Q I hq
  refine wpAny_Tuple_spliced (aD (h pos pins s σ H _ I hq) fun us s1 ⟨xs,H1,I1,r,z,q⟩=>⟨by rw [<- r.length];exact z,?_⟩)
  have hf:H1 s1.heap.objs.size=none:=I1.aF.fresh (Nat.le_refl _)
  refine ⟨.ref s1.heap.objs.size,upd H1 s1.heap.objs.size (.tup xs),I1.laid (t':=s1.toks) (fun b u e=>Heap.get?_push_of_some _ e) (Nat.le_refl _) ?_,rfl,q _ hf⟩
  exact ⟨z,us,r,⟨_,Heap.get?_push_size _ rfl,rfl,_,rfl⟩⟩
theorem Sh (h:PA X es t):PE X (.List es pos) (HW t):=by
  intro pins s σ H Q I hq
  refine wpAny_List_spliced (aD (h pos pins s σ H _ I hq) fun us s1 ⟨xs,H1,I1,r,z,q⟩=>⟨by rw [<- r.length];exact z,?_⟩)
  have hf:H1 s1.heap.objs.size=none:=I1.aF.fresh (Nat.le_refl _)
  refine ⟨.ref s1.heap.objs.size,upd H1 s1.heap.objs.size (.lst xs),I1.laid (t':=s1.toks) (fun b u e=>Heap.get?_push_of_some _ e) (Nat.le_refl _) ?_,rfl,q _ hf⟩
  exact ⟨z,us,0,r,Heap.get?_push_size _ rfl⟩
end
abbrev Sp:=List V->Hp->VK->XK->Prop
abbrev fH:=List Env->Hp->Shared->XK->Value->Shared->Prop
structure tP (P:Program) (w:World) (K:PySem.W.Frag) (mg:Str->Option Value) (base:Heap) (A:Around) (outer:List Env) (s:Shared) (H:Hp):Prop where
  frames:A.frames=some outer
  mod:Mod K mg base
  bs:∀ b o,base.get? b=some o->s.heap.get? b=some o/\H b=none
  lA:base.objs.size<=s.heap.objs.size
  hJ:s.heap.FunFrames base outer
  oB:∀ b ∈ cU outer,H b=none
  aF:cA P w H s.heap
  bare:AllBare s.gens
def CE (outer:List Env) (P:Program) (w:World) (H:Hp) (s:Shared) (Q:VK) (u:Value) (s':Shared):Prop :=
  ∃ v H',s'.os=s.os/\AllBare s'.gens/\Un (cU outer) [] H H' s.heap s'.heap/\cA P w H' s'.heap/\RelV v u/\Q v H'
def CR (CX:fH) (outer:List Env) (P:Program) (w:World) (H:Hp) (s:Shared) (Q:VK) (E:XK) (r:Result) (s':Shared):Prop :=
  match r with
  | .ok (.ret u)=>CE outer P w H s Q u s'
  | .ok _=>False
  | .error e=>CX outer H s E e s'
structure aP (P:Program) (w:World) (K:PySem.W.Frag) (mg:Str->Option Value) (base:Heap) (CX:fH) (k:Nat) (f:Addr) (fd:FuncData) (ps:List Str) (sp:Sp):Prop where
  len:∀ vs H Q E,sp vs H Q E->vs.length=ps.length
  run:∀ (A:Around) (outer:List Env) (s:Shared) (H:Hp) (args:Args) (us:List Value) (vs:List V) (Q:VK) (E:XK),dq k A->tP P w K mg base A outer s H->BindsTo s fd args (ps.zip us)->Vals vs us->sp vs H Q E ->
    codeAny (model P w) A (.call (.ref f) args) (CR CX outer P w H s Q E) s
theorem aP.imp {P:Program} {w:World} {K:PySem.W.Frag} {mg:Str->Option Value} {base:Heap} {CX:fH} {k:Nat} {f:Addr} {fd:FuncData} {ps:List Str} {sp JG:Sp} (F:aP P w K mg base CX k f fd ps sp)
    (h:∀ vs H Q E,JG vs H Q E->sp vs H Q E):aP P w K mg base CX k f fd ps JG :=
  ⟨fun vs H Q E q=>F.len vs H Q E (h _ _ _ _ q),fun A outer s H args us vs Q E hr he hb hv hs=>F.run A outer s H args us vs Q E hr he hb hv (h _ _ _ _ hs)⟩
section
variable {X:Cx} {pins:List (Addr×Obj)} {σ:St} {H:Hp} {s s':Shared}
theorem Inv.Uk (I:Inv X pins σ H s):tP X.prog X.w X.K X.mg X.base X.A X.stack s H :=
  ⟨I.ok.frames,I.ok.mod,I.bs,Nat.le_trans I.ok.lA I.sz,I.stack,I.Eh,I.aF,I.bare⟩
theorem Inv.after {Q:VK} {u:Value} (I:Inv X pins σ H s) (h:CE X.stack X.prog X.w H s Q u s'):EP X pins σ Q u s':=by
  obtain ⟨v,H',os,bare,un,aF,r,q⟩:=h
  obtain ⟨hh,g,d,t,ZT⟩:=s'
  obtain rfl:ZT=s.os:=os
  exact ⟨v,H',I.call (h':=hh) (g':=g) (d':=d) (t':=t) (ch:=[]) un aF bare (fun b z=>absurd z (by simp)),r,q⟩
end
def tu (sp:Sp) (kg:List V) (E:XK) (t:TA):TE:=fun σ H Q=>t σ H fun vs H1=>sp (vs++kg) H1 Q E
def Binds (K:PySem.W.Frag) (fd:FuncData) (ps:List Str) (ds:List Value):Prop :=
  ∀ (s:Shared) (us:List Value),K.In s.heap->(us++ds).length=ps.length->BindsTo s fd ⟨us,[]⟩ (ps.zip (us++ds))
theorem Binds.all {K:PySem.W.Frag} {fd:FuncData} {ps:List Str} (h:∀ us:List Value,us.length=ps.length->bindArgs fd ⟨us,[]⟩=pure (ps.zip us)):Binds K fd ps []:=fun s us _ hl=>by
  rw [List.append_nil] at hl ⊢
  exact .of_eq (h us hl)
def Passes (CX:fH) (X:Cx) (E:XK):Prop:=∀ (pins:List (Addr×Obj)) (σ:St) (H:Hp) (s:Shared) (e:Value) (s':Shared),Inv X pins σ H s->CX X.stack H s E e s'->X.xe e s'
section
variable {X:Cx} {CX:fH} {k:Nat} {f C:Addr} {fd:FuncData} {ps:List Str} {sp:Sp} {kg:List V} {ds:List Value} {E:XK} {x m:Str} {p pos apos:Pos} {e o:Expr} {es:List Expr} {ta:TE} {t:TA}
theorem Si {pins:List (Addr×Obj)} {σ:St} {H:Hp} {s:Shared} {Q:VK} {us:List Value} {vs:List V} (F:aP X.prog X.w X.K X.mg X.base CX k f fd ps sp) (hr:dq k X.A) (hb:Binds X.K fd ps ds) (hd:Vals kg ds) (hx:Passes CX X E)
    (I:Inv X pins σ H s) (r:Vals vs us) (h:sp (vs++kg) H Q E):wpAny (model X.prog X.w) X.A (call (.ref f) us) (EP X pins σ Q) X.xe s:=by
  have r2:Vals (vs++kg) (us++ds):=r.append hd
  have hl:(us++ds).length=ps.length:=by rw [<- r2.length];exact F.len _ _ _ _ h
  refine wpAny_call (codeAny_mono (F.run X.A X.stack s H ⟨us,[]⟩ (us++ds) (vs++kg) Q E hr I.Uk (hb s us I.dH hl) r2 h) fun r s' hq=>?_)
  cases r with
  | error e=>exact hx pins σ H s e s' I hq
  | ok fl =>
    cases fl with
    | ret u=>exact I.after hq
    | next=>exact False.elim hq
    | brk=>exact False.elim hq
    | cont=>exact False.elim hq
theorem Eu (F:aP X.prog X.w X.K X.mg X.base CX k f fd ps sp) (hr:dq k X.A) (hg:Gl X x) (hm:X.mg x=some (.ref f)) (hk:PySem.W.keepIn X.K (.ref f)=true) (hb:Binds X.K fd ps ds) (hd:Vals kg ds) (hx:Passes CX X E)
    (ha:PA X (e::es) t) (fk:(x==("__debug__" : Str))=false:=by decide) (he:starEach (e::es) X.env=(false,eval e X.env)::starEach es X.env:=by rfl) (eZ:(backTo pos (starEach es X.env)).any (·.1)=false:=by rfl) :
    PE X (.Call (.Name x p) (e::es) [] pos) (tu sp kg E t):=by
  intro pins s σ H Q I h
  refine wpAny_Call_Name_kw (Ej I hg hm ?_ fk)
  refine PySem.W.callWith_K (h₀:=X.base) I.ok.mod.yZ hk (aD (ha pos pins s σ H _ I h) fun us s1 ⟨vs,H1,I1,r,q⟩=>⟨I1.dH,?_⟩) he eZ
  exact Si F hr hb hd hx I1 r q
end
structure bf (N P:List Str) (sc:Scope):Prop where
  kind:sc.kind=.function
  co:sc.isCoroutine=false
  gen:sc.isGenerator=false
  nd:N.Nodup
  pre:N.take P.length=P
  par:∀ x ∈ P,sc.names.lookup x=some .local\/sc.names.lookup x=some .cell
  Sj:∀ y ∈ sc.names,y.2 ≠ .free
theorem Dh {kindOf:Str->Option NameKind} {x:Str}:∀ {binds:List (Str×Value)} {m:Str->Option Value},(∀ v,(x,v) ∉ binds)->bindL kindOf binds m x=m x
  | [],_,_=>rfl
  | (n,v)::r,m,h=>by
    unfold bindL
    rw [Dh fun w hw=>h w (List.mem_cons_of_mem _ hw)]
    split
    · have:x ≠ n:=by rintro rfl;exact h v List.mem_cons_self
      simp [this]
    · rfl
theorem Di {kindOf:Str->Option NameKind} {x:Str}:∀ {binds:List (Str×Value)} {m:Str->Option Value},(∀ v,(x,v) ∉ binds)->bindC kindOf binds m x=m x
  | [],_,_=>rfl
  | (n,v)::r,m,h=>by
    unfold bindC
    rw [Di fun w hw=>h w (List.mem_cons_of_mem _ hw)]
    split
    · rfl
    · have:x ≠ n:=by rintro rfl;exact h v List.mem_cons_self
      simp [this]
theorem Dj {kindOf:Str->Option NameKind} {x:Str} {v:Value}:∀ {P:List Str} {vs:List Value} {i:Nat} {m:Str->Option Value},P.Nodup->P[i]?=some x->vs[i]?=some v->kindOf x=some .local ->
    bindL kindOf (P.zip vs) m x=some v
  | [],_,_,_,_,h,_,_=>by simp at h
  | _::_,[],_,_,_,_,h,_=>by simp at h
  | p::P,w::vs,0,m,nd,h1,h2,hk=>by
    simp at h1 h2;subst h1;subst h2
    show bindL kindOf ((p,w)::P.zip vs) m p=_
    unfold bindL
    rw [Dh fun v hv=>(List.nodup_cons.mp nd).1 (List.of_mem_zip hv).1,if_pos hk]
    simp
  | p::P,w::vs,i+1,m,nd,h1,h2,hk=>by
    show bindL kindOf ((p,w)::P.zip vs) m x=_
    unfold bindL
    exact Dj (i:=i) (List.nodup_cons.mp nd).2 (by simpa using h1) (by simpa using h2) hk
theorem Dk {kindOf:Str->Option NameKind} {x:Str} {v:Value}:∀ {P:List Str} {vs:List Value} {i:Nat} {m:Str->Option Value},P.Nodup->P[i]?=some x->vs[i]?=some v->kindOf x ≠ some .local ->
    bindC kindOf (P.zip vs) m x=some v
  | [],_,_,_,_,h,_,_=>by simp at h
  | _::_,[],_,_,_,_,h,_=>by simp at h
  | p::P,w::vs,0,m,nd,h1,h2,hk=>by
    simp at h1 h2;subst h1;subst h2
    show bindC kindOf ((p,w)::P.zip vs) m p=_
    unfold bindC
    rw [Di fun v hv=>(List.nodup_cons.mp nd).1 (List.of_mem_zip hv).1,if_neg hk]
    simp
  | p::P,w::vs,i+1,m,nd,h1,h2,hk=>by
    show bindC kindOf ((p,w)::P.zip vs) m x=_
    unfold bindC
    exact Dk (i:=i) (List.nodup_cons.mp nd).2 (by simpa using h1) (by simpa using h2) hk
def start (N:List Str) (vs:List V):St:=vs.map some++List.replicate (N.length-vs.length) none
def jo (CX:fH) (P:Program) (w:World) (K:PySem.W.Frag) (mg:Str->Option Value) (base:Heap) (N:List Str) (qual:Str) (scope:Scope) (f:Addr) (cd:Value) (A:Around) (outer:List Env) (s:Shared) (H:Hp) (E:XK):Cx where
  prog:=P
  w:=w
  K:=K
  mg:=mg
  base:=base
  A:=A.deeper (envOfC qual scope s.heap.objs.size f cd)
  N:=N
  cQ:=s
  qq:=H
  env:=envOfC qual scope s.heap.objs.size f cd
  outer:=outer
  stack:=envOfC qual scope s.heap.objs.size f cd::outer
  ex:=[]
  calm:=true
  fn:=fun _=>true
  pn:=[]
  xe:=fun e s'=>wpAny (model P w) (A.deeper (envOfC qual scope s.heap.objs.size f cd)) (leaving (envOfC qual scope s.heap.objs.size f cd) e) (fun _ zb=>CX outer H s E e zb) (fun e' zb=>CX outer H s E e' zb) s'
theorem wt {sc:Scope} {n:Nat} {x:Str} (h:sc.names.lookup x=some .cell):∃ c,(cellsFrom n sc.names []).lookup x=some c:=by
  have q:=PySem.W.cellsFrom_some sc.names n [] (.inl h)
  exact Option.isSome_iff_exists.mp q
theorem OC {CX:fH} {P:Program} {w:World} {K:PySem.W.Frag} {mg:Str->Option Value} {base:Heap} {N ps:List Str} {qual:Str} {scope:Scope} {f:Addr} {cd:Value} {A:Around} {outer:List Env} {s s1:Shared} {H:Hp} {E:XK} {us:List Value} {vs:List V}
    (S:bf N ps scope) (hd:A.handled=none) (e0:tP P w K mg base A outer s H) (hl:vs.length=ps.length) (r:Vals vs us)
    (x:InCallC s s.heap.objs.size (bindL (envOfC qual scope s.heap.objs.size f cd).kindOf (ps.zip us) fun _=>none) (cellsFrom (s.heap.objs.size+1) scope.names []) (bindC (envOfC qual scope s.heap.objs.size f cd).kindOf (ps.zip us) fun _=>none) s1) :
    Inv (jo CX P w K mg base N qual scope f cd A outer s H E) [] (start N vs) H s1:=by
  have eZ:ps.length<=N.length:=by have:=congrArg List.length S.pre;rw [List.length_take] at this;omega
  obtain ⟨h1,tk,rfl,hk⟩:=x.done
  have qJ:∀ b:Addr,b ∉ (jo CX P w K mg base N qual scope f cd A outer s H E).ex:=fun b z=>absurd (show b ∈ ([]:List Addr) from z) (by simp)
  refine ⟨⟨e0.mod,S.kind,rfl,rfl,Nat.le_refl _,fun y z c h1 h2=>?_,fun y hy=>?_,fun y c _ h=>?_,fun _=>hd,Around.frames_deeper e0.frames,.inr ⟨rfl,rfl⟩,fun b z=>absurd z (qJ b),e0.bs,e0.lA,fun b _ _=>qJ b,fun b z=>absurd z (qJ b),e0.hJ,e0.oB⟩,
    rfl,e0.bare,Un.kept hk,⟨_,x.toInCall.ns,fun i y v h1 h2 h3=>?_⟩,fun y c h=>⟨_,x.cell y c h⟩,e0.aF.fresh (Nat.le_refl _),fun y c h=>?_,fun p hp=>absurd (show p ∈ ([]:List (Addr×Obj)) from hp) (by simp),e0.aF.kept hk,?_⟩
  · exact name_of_addr x.apart (PySem.mem_of_lookup h1) (PySem.mem_of_lookup h2)
  · have hy:scope.names.lookup y=some .cell\/scope.names.lookup y=some .free:=hy
    rcases hy with hy | hy
    · exact wt hy
    · exact absurd rfl (S.Sj _ (PySem.mem_of_lookup hy))
  · exact Nat.le_of_lt (x.above y c (PySem.mem_of_lookup h))
  · have hi:i<vs.length:=by
      unfold start at h2
      by_cases hi:i<vs.length
      · exact hi
      · rw [List.getElem?_append_right (by simpa using hi)] at h2
        rw [List.getElem?_replicate] at h2
        split at h2<;>cases h2
    have ha:vs[i]?=some v:=by
      unfold start at h2
      rw [List.getElem?_append_left (by simpa using hi),List.getElem?_map] at h2
      cases e:vs[i]? with
      | none=>rw [e] at h2;cases h2
      | some a=>rw [e] at h2;cases h2;rfl
    obtain ⟨u,hu,rv⟩:=r.get ha
    have hp:ps[i]?=some y:=by
      rw [<- S.pre,List.getElem?_take_of_lt (by omega)];exact h1
    have JH:ps.Nodup:=by rw [<- S.pre];exact S.nd.sublist (List.take_sublist _ _)
    refine ⟨u,rv,?_⟩
    rcases S.par y (List.mem_of_getElem? hp) with k | k
    · exact .inl ⟨k,Dj JH hp hu k⟩
    · obtain ⟨c,e⟩:=wt (n:=s.heap.objs.size+1) k
      refine .inr ⟨.inl k,c,e,?_⟩
      have q:=x.cell y c e
      rw [Dk JH hp hu (by show scope.names.lookup y ≠ _;rw [k];decide)] at q
      exact q
  · exact e0.aF.fresh (Nat.le_of_lt (x.above y c (PySem.mem_of_lookup h)))
  · unfold start
    show _=N.length
    rw [List.length_append,List.length_map,List.length_replicate]
    omega
theorem Tp {CX:fH} {P:Program} {w:World} {K:PySem.W.Frag} {mg:Str->Option Value} {base:Heap} {k:Nat} {f:Addr} {name qual:Str} {params:Arguments} {body:List Stmt} {scope:Scope} {dV kV doc pm bE ct oc:Value} {an od:Option Addr}
    {fZ:Array (Option Value)} {N ps:List Str} {sp:Sp} (lk:K.lookup f=some ⟨oc,od,.func (PySem.W.fnOf name qual params body scope dV kV doc pm an bE ct),fZ⟩) (ik:PySem.W.codeIn K bE qual=true) (S:bf N ps scope)
    (len:∀ vs H Q E,sp vs H Q E->vs.length=ps.length)
    (xZ:∀ (A:Around) (outer:List Env) (s:Shared) (H:Hp) (vs:List V) (Q:VK) (E:XK),dq k (A.deeper (envOfC qual scope s.heap.objs.size f bE))->sp vs H Q E ->
      ∃ t,eI (jo CX P w K mg base N qual scope f bE A outer s H E) body t/\t { nx:=fun _ H'=>Q .aN H',rt:=Q } (start N vs) H) :
    aP P w K mg base CX (k+1) f (PySem.W.fnOf name qual params body scope dV kV doc pm an bE ct) ps sp:=by
  refine ⟨len,fun A outer s H args us vs Q E hr e0 hb r kh=>?_⟩
  have hl:=len _ _ _ _ kh
  have KX:K.In s.heap:=e0.mod.yZ.keeps fun b o e=>(e0.bs b o e).1
  have lim:s.heap.NoLimit:=e0.mod.nolimit.keeps fun b o e=>(e0.bs b o e).1
  have Tq:∀ y ∈ ps.zip us,scope.names.lookup y.1=some .local\/(scope.names.lookup y.1=some .cell/\((cellsFrom (s.heap.objs.size+1) scope.names []).lookup y.1).isSome=true):=fun ⟨n,v⟩ hy=>by
    rcases S.par n (List.of_mem_zip hy).1 with q | q
    · exact .inl q
    · exact .inr ⟨q,PySem.W.cellsFrom_some _ _ _ (.inl q)⟩
  refine codeAny_call_function hr.depth (KX _ _ lk) rfl S.co S.gen rfl (PySem.W.codeRec_of KX ik) (hb _ _ _ _ ?_)
  refine wpAny_newFunctionEnv_cells S.kind Tq fun env he s1 x=>?_
  subst he
  refine ⟨lim.keeps x.toInCall.keep,codeAny_func ?_⟩
  obtain ⟨t,ht,hq⟩:=xZ A outer s H vs Q E (hr.deeper _) kh
  have I:Inv (jo CX P w K mg base N qual scope f bE A outer s H E) [] (start N vs) H s1:=OC S hr.hd e0 hl r x
  refine wpAny_mono (ht [] s1 (start N vs) H _ I hq) (fun fl s' hs=>?_) fun e s' hs=>hs
  have fin:∀ {aG:St} {H':Hp} {v:V} {u:Value},Inv (jo CX P w K mg base N qual scope f bE A outer s H E) [] aG H' s'->RelV v u->Q v H'->CE outer P w H s Q u s' :=
    fun {aG H' v u} J rv q=>⟨v,H',J.os,J.bare,J.base,J.aF,rv,q⟩
  cases fl with
  | ret u =>
    obtain ⟨v,aG,H',J,rv,q⟩:=hs
    exact fin J rv q
  | next =>
    obtain ⟨aG,H',J,q⟩:=hs
    exact fin (v:=V.aN) (u:=Value.none) J rfl q
  | brk =>
    obtain ⟨_,_,_,q⟩:=hs
    exact False.elim q
  | cont =>
    obtain ⟨_,_,_,q⟩:=hs
    exact False.elim q
end L2
namespace L2
open PySem PySem.Spec PyProof.Rows
section
variable {X:Cx} {x:Str} {p pos:Pos} {e:Expr} {es:List Expr} {t:TA} {id T:String} {r:List V->Hp->VK->Prop}
def jA (r:List V->Hp->VK->Prop) (t:TA):TE:=fun σ H Q=>t σ H fun vs H1=>r vs H1 Q
theorem rX (hc:eD X (.builtin id) r) (hg:Gl X x) (hm:X.mg x=none) (hv:bootBuiltins x=some (.builtin id)) (ha:PA X (e::es) t) (hn:x ≠ "__name__" := by decide) (fk:(x==("__debug__" : Str))=false:=by decide)
    (he:starEach (e::es) X.env=(false,eval e X.env)::starEach es X.env:=by rfl) (eZ:(backTo pos (starEach es X.env)).any (·.1)=false:=by rfl):PE X (.Call (.Name x p) (e::es) [] pos) (jA r t):=by
  intro pins s σ H Q I h
  refine wpAny_Call_Name_kw (nP I hg hm hv ?_ hn fk)
  exact PyProof.Rows.callWith_builtin1 (aD (ha pos pins s σ H _ I h) fun us s1 ⟨vs,H1,I1,r1,q1⟩=>hc pins s1 σ H1 vs us Q I1 r1 q1) he eZ
theorem rQ (hc:eD X (.type T) r) (hg:Gl X x) (hm:X.mg x=none) (hv:bootBuiltins x=some (.type T)) (ha:PA X (e::es) t) (hn:x ≠ "__name__" := by decide) (fk:(x==("__debug__" : Str))=false:=by decide)
    (he:starEach (e::es) X.env=(false,eval e X.env)::starEach es X.env:=by rfl) (eZ:(backTo pos (starEach es X.env)).any (·.1)=false:=by rfl):PE X (.Call (.Name x p) (e::es) [] pos) (jA r t):=by
  intro pins s σ H Q I h
  refine wpAny_Call_Name_kw (nP I hg hm hv ?_ hn fk)
  exact PyProof.Rows.callWith_type1 (aD (ha pos pins s σ H _ I h) fun us s1 ⟨vs,H1,I1,r1,q1⟩=>hc pins s1 σ H1 vs us Q I1 r1 q1) he eZ
end
end L2
namespace HT
open PySem PyProof.Rows
section
variable {prog:Program} {w:World} {A:Around} {E:Value->Shared->Prop} {s:Shared}
def dN (n d:Nat):Option Int->Nat
  | none=>d
  | some v=>if v<0 then (v+(n:Int)).toNat else min v.toNat n
theorem wV (n d k:Nat):dN n d (some (k:Int))=min k n:=by
  show (if (k:Int)<0 then ((k:Int)+(n:Int)).toNat else min (k:Int).toNat n)=min k n
  rw [if_neg (by omega),Int.toNat_natCast]
end
end HT
namespace L2
open PySem PySem.Spec PyProof.Rows
abbrev TO:=St->Hp->(Option Int->Hp->Prop)->Prop
def PO (X:Cx) (e:Option Expr) (t:TO):Prop :=
  ∀ (pins:List (Addr×Obj)) (s:Shared) (σ:St) (H:Hp) (Q:Option Int->Hp->Prop),Inv X pins σ H s->t σ H Q ->
    wpAny (model X.prog X.w) X.A (evalPart e X.env) (fun u s'=>∃ o H',Inv X pins σ H' s'/\IsPart u o/\Q o H') X.xe s
def Ex:TO:=fun _ H Q=>Q none H
def Hg (t:TE):TO:=fun σ H Q=>t σ H fun x H1=>∃ i,x=.int i/\Q (some i) H1
theorem intsAre_of {ns:List Int}:∀ {us:List Value},Vals (ns.map V.int) us->IntsAre us ns:=by
  induction ns with
  | nil=>intro us r;rw [List.map_nil] at r;cases r;exact .nil
  | cons n ns ih =>
    intro us r
    rw [List.map_cons] at r
    cases r with
    | cons r1 r2 =>
      obtain ⟨t,e⟩:=r1
      subst e
      exact .cons n t (ih r2)
section
variable {X:Cx} {e:Expr} {te:TE} {lo hi:Option Expr} {tl th:TO} {pos p2:Pos}
theorem Qo:PO X none Ex:=by
  intro pins s σ H Q I h
  rw [evalPart_none]
  exact wpAny_pure ⟨none,H,I,.none,h⟩
theorem Qp (h:PE X e te):PO X (some e) (Hg te):=by
  intro pins s σ H Q I hw
  rw [evalPart_some]
  refine aD (h pins s σ H _ I hw) fun u s1 ⟨x,H1,I1,r1,q1⟩=>?_
  obtain ⟨i,rfl,q⟩:=q1
  obtain ⟨t,rfl⟩:=r1
  exact ⟨some i,H1,I1,.int i t,q⟩
def JI (X:Cx) (r:V->Option Int->Option Int->Hp->VK->Prop):Prop :=
  ∀ (pins:List (Addr×Obj)) (s:Shared) (σ:St) (H:Hp) (x:V) (v vl vu:Value) (lo hi:Option Int) (sl:Addr) (Q:VK),Inv X pins σ H s->RelV x v->s.heap.IsSliceOf sl vl vu .none->IsPart vl lo->IsPart vu hi->r x lo hi H Q ->
    ∃ T id,typeLookup (.type T) "__getitem__" = pure (some (.builtin id))/\s.TypeIs v T/\wpAny (model X.prog X.w) X.A (getItem v (.ref sl)) (EP X pins σ Q) X.xe s
def JK (r:V->Option Int->Option Int->Hp->VK->Prop) (te:TE) (tl th:TO):TE:=fun σ H Q=>te σ H fun x H1=>tl σ H1 fun l H2=>th σ H2 fun u H3=>r x l u H3 Q
theorem Pg {r:V->Option Int->Option Int->Hp->VK->Prop} (hr:JI X r) (he:PE X e te) (hl:PO X lo tl) (hu:PO X hi th):PE X (.Subscript e (.Slice lo hi none p2) pos) (JK r te tl th):=by
  intro pins s σ H Q I h
  refine Subscript_ (aD (he pins s σ H _ I h) fun v s1 ⟨x,H1,I1,r1,q1⟩=>?_)
  refine wpAny_Slice (aD (hl pins s1 σ H1 _ I1 q1) fun vl s2 ⟨l,H2,I2,pl,q2⟩=>aD (hu pins s2 σ H2 _ I2 q2) fun vu s3 ⟨u,H3,I3,pu,q3⟩=>?_)
  rw [evalPart_none]
  refine wpAny_pure ?_
  have I4:Inv X pins σ H3 { s3 with heap:=s3.heap.push { cls:=.type "slice",data:=.fields #[vl,vu,.none] } }:=I3.kept (t':=s3.toks) fun b ob q=>Heap.get?_push_of_some _ q
  obtain ⟨T,id,hT,ht,hg⟩:=hr pins { s3 with heap:=s3.heap.push { cls:=.type "slice",data:=.fields #[vl,vu,.none] } } σ H3 x v vl vu l u s3.heap.objs.size Q I4 r1 (Heap.IsSliceOf.new ..) pl pu q3
  show wpAny (model X.prog X.w) X.A (subscriptTail e (.Slice lo hi none p2) v (.ref s3.heap.objs.size)) (EP X pins σ Q) X.xe { s3 with heap:=s3.heap.push { cls:=.type "slice",data:=.fields #[vl,vu,.none] } }
  exact tail_any (ops:=[.ref s3.heap.objs.size,v]) ht hT hg (by with_unfolding_all rfl)
def ot (xs:List V) (lo hi:Option Int):List V:=(xs.drop (HT.dN xs.length 0 lo)).take (HT.dN xs.length xs.length hi-HT.dN xs.length 0 lo)
theorem Nk (xs:List V) (lo hi:Option Int):(ot xs lo hi).length<=xs.length:=by
  unfold ot
  rw [List.length_take,List.length_drop]
  omega
end
end L2
namespace L2
open PySem PySem.Spec PyProof.Rows
def fI (n:Nat) (i:Int):Option Nat:=if 0<=i then (if i<n then some i.toNat else none) else if -(n:Int)<=i then some (i+n).toNat else none
def aU {α:Type} (xs:List α) (i:Int):Option α:=(fI xs.length i).bind fun j=>xs[j]?
theorem sC {n:Nat} {i:Int} {j:Nat} (h:fI n i=some j):seqIndex? i n=some j/\j<n /\ -(n:Int)<=i/\i<n:=by
  unfold fI at h
  by_cases h0 : 0<=i
  · rw [if_pos h0] at h
    by_cases h1:i<n
    · rw [if_pos h1] at h
      have e:i.toNat=j:=Option.some.inj h
      exact ⟨by rw [seqIndex_of h0 h1,e],by omega,by omega,h1⟩
    · rw [if_neg h1] at h;cases h
  · rw [if_neg h0] at h
    by_cases h1 : -(n:Int)<=i
    · rw [if_pos h1] at h
      have e:(i+n).toNat=j:=Option.some.inj h
      exact ⟨by rw [seqIndex_neg (by omega) h1,e],by omega,h1,by omega⟩
    · rw [if_neg h1] at h;cases h
theorem Ey {α:Type} {xs:List α} {i:Int} {v : α} (h:aU xs i=some v):∃ j,seqIndex? i xs.length=some j/\xs[j]?=some v/\j<xs.length /\ -(xs.length:Int)<=i/\i<xs.length:=by
  unfold aU at h
  cases e:fI xs.length i with
  | none=>rw [e] at h;cases h
  | some j =>
    rw [e] at h
    obtain ⟨h1,h2,h3,h4⟩:=sC e
    exact ⟨j,h1,h,h2,h3,h4⟩
theorem e7 {α:Type} {xs:List α} {j:Nat} {v : α} (h:xs[j]?=some v):aU xs (j:Int)=some v:=by
  have hj:j<xs.length:=(List.getElem?_eq_some_iff.mp h).1
  have e:fI xs.length (j:Int)=some j:=by
    unfold fI
    rw [if_pos (by omega),if_pos (by omega)];simp
  unfold aU;rw [e];exact h
def wW (b:Expr):Prop:=∀ o i,subscripted b false o i=operate [o,i] (getItem o i)
def qK (X:Cx) (r:R2):Prop :=
  ∀ (value slice:Expr) (pins:List (Addr×Obj)) (s:Shared) (σ:St) (H:Hp) (x y:V) (v u:Value) (Q:VK),Inv X pins σ H s->RelV x v->RelV y u->r x y H Q ->
    subscripted slice false v u=operate [v,u] (getItem v u)->wpAny (model X.prog X.w) X.A (subscriptTail value slice v u) (EP X pins σ Q) X.xe s
def JL (X:Cx) (id:String) (r:V->List V->Hp->VK->Prop):Prop :=
  ∀ (pins:List (Addr×Obj)) (s:Shared) (σ:St) (H:Hp) (x:V) (xs:List V) (v:Value) (us:List Value) (Q:VK),Inv X pins σ H s->RelV x v->Vals xs us->r x xs H Q ->
    wpAny (model X.prog X.w) X.A (call (.builtin id) (v::us)) (EP X pins σ Q) X.xe s
section
variable {X:Cx} {a b:Expr} {ta tb:TE} {pos:Pos}
theorem Hh {r:R2} (hr:qK X r) (ha:PE X a ta) (hb:PE X b tb) (hs:wW b):PE X (.Subscript a b pos) (jz r ta tb):=by
  intro pins s σ H Q I h
  exact Subscript_ (yD ha hb I h fun v u s2 x y H2 I2 rx ry q=>hr a b pins s2 σ H2 x y v u Q I2 rx ry q (hs _ _))
def yH (K:PySem.W.Frag):R2:=fun x y H Q=>∃ p xs i v,x=.ref p/\y=.int i/\bj K H p xs/\aU xs i=some v/\Q v H
def yI (K:PySem.W.Frag):R2:=fun x y H Q=>∃ p xs i v,x=.ref p/\y=.int i/\cB K H p xs/\aU xs i=some v/\Q v H
theorem Qq:qK X (yH X.K):=by
  intro value slice pins s σ H x y v u Q I rx ry h hs
  obtain ⟨p,xs,i,z,rfl,rfl,hq,he,q⟩:=h
  cases rx
  obtain ⟨t,rfl⟩:=ry
  obtain ⟨af,r,pl,hz⟩:=I.list hq
  obtain ⟨j,h1,h2,h3,h4,h5⟩:=Ey he
  obtain ⟨w,ew,lF⟩:=r.get h2
  have hl:=r.length
  have hn:=sN
  have fin:EP X pins σ Q w s:=⟨z,H,I,lF,q⟩
  by_cases h0 : 0<=i
  · have hj:i.toNat=j:=by
      rw [seqIndex_of h0 h5] at h1
      exact Option.some.inj h1
    exact item_listR pl.isList h0 (by omega) (by rw [hj];simpa using ew) fin hs
  · have hj:(i+(af.toArray.size:Int)).toNat=j:=by
      rw [seqIndex_neg (by omega) h4] at h1
      rw [List.size_toArray,<- hl]
      exact Option.some.inj h1
    exact subscriptTail_builtinR (x:=w) pl.isList.typeIs slot_list_getitem.lookup
      (wpAny_getItem_list_neg (Q:=fun r s'=>r=w/\EP X pins σ Q r s') pl.isList (by omega) (by rw [List.size_toArray]<;>omega) (by omega) (by rw [hj];simpa using ew) ⟨rfl,fin⟩) hs
theorem Sl:qK X (yI X.K):=by
  intro value slice pins s σ H x y v u Q I rx ry h hs
  obtain ⟨p,xs,i,z,rfl,rfl,hq,he,q⟩:=h
  cases rx
  obtain ⟨t,rfl⟩:=ry
  obtain ⟨af,r,pl,hz⟩:=I.tuple hq
  obtain ⟨j,h1,h2,h3,h4,h5⟩:=Ey he
  obtain ⟨w,ew,lF⟩:=r.get h2
  have hl:=r.length
  have hn:=sN
  have fin:EP X pins σ Q w s:=⟨z,H,I,lF,q⟩
  exact subscriptTail_builtinR (x:=w) pl.typeIs slot_tuple_getitem.lookup
    (getItem_tuple (j:=j) (Q:=fun r s'=>r=w/\EP X pins σ Q r s') pl (by omega) (by omega) (by rw [List.size_toArray,<- hl];exact h1) (by simpa using ew) ⟨rfl,fin⟩) hs
theorem NV (af:List Value) (n j:Nat) (u:Value):Obj.mapSeq (·.setIfInBounds j u) { cls:=.type "list",data:=.seq af.toArray n } = { cls:=.type "list",data:=.seq (af.set j u).toArray n }:=by
  simp [Obj.mapSeq]
theorem Inv.lst {pins:List (Addr×Obj)} {σ:St} {H:Hp} {s:Shared} {p:Addr} {xs:List V} (I:Inv X pins σ H s) (h:H p=some (.lst xs)) :
    ∃ (af:List Value) (n:Nat),Vals xs af/\s.heap.get? p=some { cls:=.type "list",data:=.seq af.toArray n }/\xs.length<=sizeLine:=by
  obtain ⟨z,af,n,r,e⟩:=I.aF p _ h
  exact ⟨af,n,r,e,z⟩
theorem Inv.Sn {pins:List (Addr×Obj)} {σ:St} {H:Hp} {s:Shared} {p:Addr} {xs ys:List V} {af its':List Value} {n n':Nat} {f:Obj->Obj} (I:Inv X pins σ H s) (h:H p=some (.lst xs))
    (ho:s.heap.get? p=some { cls:=.type "list",data:=.seq af.toArray n }) (hf:f { cls:=.type "list",data:=.seq af.toArray n } = { cls:=.type "list",data:=.seq its'.toArray n' }) (r:Vals ys its') (hz:ys.length<=sizeLine) (t:Nat) :
    Inv X pins σ (upd H p (.lst ys)) { s with heap:=s.heap.update p f,toks:=t }:=by
  have e:(s.heap.update p f).get? p=some { cls:=.type "list",data:=.seq its'.toArray n' }:=by
    rw [Heap.get?_update_self f ho (by rw [hf]<;>rfl),hf]
  refine I.write (x:=p) (e:=p) (by rw [h];trivial) (.inl rfl) (fun b u hb q=>(Heap.get?_update_other _ _ (Ne.symm hb)).trans q) ⟨_,e⟩ ?_
  exact ⟨hz,its',n',r,e⟩
def x3:V->V->V->Hp->(Hp->Prop)->Prop:=fun o i v H Q=>∃ p xs k j,o=.ref p/\i=.int k/\H p=some (.lst xs)/\fI xs.length k=some j/\Q (upd H p (.lst (xs.set j v)))
theorem set_list:HR X x3:=by
  intro pins s σ H o i v ov iv u Q I ro ri rv h
  obtain ⟨p,xs,k,j,rfl,rfl,hp,hj,q⟩:=h
  cases ro
  obtain ⟨t,rfl⟩:=ri
  obtain ⟨af,n,r,ho,hz⟩:=I.lst hp
  obtain ⟨h1,h2,h3,h4⟩:=sC hj
  have hl:=r.length
  have hn:=sN
  have I':Inv X pins σ (upd H p (.lst (xs.set j v))) { s with heap:=s.heap.update p (Obj.mapSeq (·.setIfInBounds j u)) } :=
    I.Sn hp ho (NV af n j u) (r.set rv j) (by rw [List.length_set];exact hz) s.toks
  by_cases h0 : 0<=k
  · have hk:k.toNat=j:=by
      rw [seqIndex_of h0 h4] at h1
      exact Option.some.inj h1
    exact PySem.W.ki_setAt ho h0 (by omega) (by rw [List.size_toArray,<- hl];exact h4) (by rw [hk];exact ⟨_,I',q⟩)
  · have hk:(k+(af.toArray.size:Int)).toNat=j:=by
      rw [seqIndex_neg (by omega) h3] at h1
      rw [List.size_toArray,<- hl]
      exact Option.some.inj h1
    exact PySem.W.ki_setBack ho (by omega) (by rw [List.size_toArray,<- hl];exact h3) (by omega) (by rw [hk];exact ⟨_,I',q⟩)
theorem MU (lo hi:Option Int) (n:Nat):(sliceBounds lo hi none n).1=((HT.dN n 0 lo:Nat):Int)/\(sliceBounds lo hi none n).2.1=((HT.dN n n hi:Nat):Int)/\(sliceBounds lo hi none n).2.2=1:=by
  refine ⟨?_,?_,rfl⟩
  · cases lo with
    | none=>simp [sliceBounds,HT.dN]
    | some i =>
      simp only [sliceBounds,HT.dN,Option.getD_none,show (1:Int) > 0 by decide,if_true]
      by_cases h:i<0
      · simp only [h,if_true]<;>omega
      · simp only [h,if_false]<;>omega
  · cases hi with
    | none=>simp [sliceBounds,HT.dN]
    | some i =>
      simp only [sliceBounds,HT.dN,Option.getD_none,show (1:Int) > 0 by decide,if_true]
      by_cases h:i<0
      · simp only [h,if_true]<;>omega
      · simp only [h,if_false]<;>omega
theorem Mr (af:List Value) (lo hi:Option Int):slicePick af.toArray lo hi none=((af.drop (HT.dN af.length 0 lo)).take (HT.dN af.length af.length hi-HT.dN af.length 0 lo)).toArray:=by
  obtain ⟨h1,h2,h3⟩:=MU lo hi af.toArray.size
  unfold slicePick
  rw [h1,h2,h3]
  simp only [sliceRange_one,pick_run,List.size_toArray]<;>rfl
def HX (K:PySem.W.Frag):V->Option Int->Option Int->Hp->VK->Prop:=fun x lo hi H Q=>∃ a xs,x=.ref a/\bj K H a xs/\∀ p,H p=none->Q (.ref p) (upd H p (.lst (ot xs lo hi)))
theorem Qr:JI X (HX X.K):=by
  intro pins s σ H x v vl vu lo hi sl Q I rx hs pl pu h
  obtain ⟨a,xs,rfl,hx,q⟩:=h
  cases rx
  obtain ⟨af,r,ht,hz⟩:=I.list hx
  have hlen:=r.length
  refine ⟨"list",_,slot_list_getitem.lookup,ht.isList.typeIs,?_⟩
  refine wpAny_getItem_list_slice ht.isList hs pl pu .none (by simp) ?_ (by rw [List.size_toArray]<;>omega)
  rw [Mr,<- hlen]
  refine ⟨.ref s.heap.objs.size,_,I.laid (t':=s.toks) (o:=.lst (ot xs lo hi)) (fun b ob q=>Heap.get?_push_of_some _ q) (Nat.le_refl _) ?_,rfl,q _ (I.aF.fresh (Nat.le_refl _))⟩
  exact ⟨Nat.le_trans (Nk xs lo hi) hz,_,0,(r.drop (HT.dN xs.length 0 lo)).take (HT.dN xs.length xs.length hi-HT.dN xs.length 0 lo),Heap.get?_push_size _ rfl⟩
def eE:V->Bool
  | .aN=>true
  | .bl _=>true
  | .int _=>true
  | .str _=>true
  | _=>false
def fm:V->V->Bool
  | .aN,.aN=>true
  | .bl a,.bl b=>a==b
  | .bl a,.int b=>(if a then 1 else 0)==b
  | .int a,.bl b=>a==(if b then 1 else 0)
  | .int a,.int b=>a==b
  | .str a,.str b=>a==b
  | _,_=>false
theorem Fs {A:Around} {s:Shared} {y x:V} {u v:Value} (ry:RelV y u) (rx:RelV x v) (fy:eE y=true) (fx:eE x=true):SeqAt.EqAt A s u v (fm y x):=by
  cases y with
  | aN =>
    cases ry
    cases x with
    | aN=>cases rx;exact SeqAt.EqAt.same _
    | bl b=>cases rx;exact SeqAt.EqAt.none_bool b
    | int b=>obtain ⟨t,rfl⟩:=rx;exact SeqAt.EqAt.none_int b t
    | str b=>obtain ⟨t,rfl⟩:=rx;exact SeqAt.EqAt.none_str b t
    | _=>exact absurd (show false=true from fx) Bool.false_ne_true
  | bl a =>
    cases ry
    cases x with
    | aN=>cases rx;exact SeqAt.EqAt.bool_none a
    | bl b=>cases rx;exact SeqAt.EqAt.bool_bool a b
    | int b=>obtain ⟨t,rfl⟩:=rx;exact SeqAt.EqAt.bool_int a b t
    | str b=>obtain ⟨t,rfl⟩:=rx;exact SeqAt.EqAt.bool_str a b t
    | _=>exact absurd (show false=true from fx) Bool.false_ne_true
  | int a =>
    obtain ⟨t',rfl⟩:=ry
    cases x with
    | aN=>cases rx;exact SeqAt.EqAt.int_none a t'
    | bl b=>cases rx;exact SeqAt.EqAt.int_bool a t' b
    | int b=>obtain ⟨t,rfl⟩:=rx;exact SeqAt.EqAt.int_int a t' b t
    | str b=>obtain ⟨t,rfl⟩:=rx;exact SeqAt.EqAt.int_str a t' b t
    | _=>exact absurd (show false=true from fx) Bool.false_ne_true
  | str a =>
    obtain ⟨t',rfl⟩:=ry
    cases x with
    | aN=>cases rx;exact SeqAt.EqAt.str_none a t'
    | bl b=>cases rx;exact SeqAt.EqAt.str_bool a t' b
    | int b=>obtain ⟨t,rfl⟩:=rx;exact SeqAt.EqAt.str_int a t' b t
    | str b=>obtain ⟨t,rfl⟩:=rx;exact SeqAt.EqAt.str_str a t' b t
    | _=>exact absurd (show false=true from fx) Bool.false_ne_true
  | _=>exact absurd (show false=true from fy) Bool.false_ne_true
def eJ (x:V) (u:Value):Bool:=match u with
  | .none=>fm .aN x
  | .bool b=>fm (.bl b) x
  | .int i _=>fm (.int i) x
  | .str z _=>fm (.str z) x
  | _=>false
theorem xD {x y:V} {u:Value} (r:RelV y u) (f:eE y=true):eJ x u=fm y x:=by
  cases y with
  | aN=>cases r;rfl
  | bl b=>cases r;rfl
  | int i=>obtain ⟨t,rfl⟩:=r;rfl
  | str z=>obtain ⟨t,rfl⟩:=r;rfl
  | _=>exact absurd (show false=true from f) Bool.false_ne_true
theorem pJ {x:V}:∀ {xs:List V} {us:List Value},Vals xs us->xs.all eE=true->us.any (eJ x)=xs.any fun y=>fm y x
  | _,_,.nil,_=>rfl
  | y::xs,u::us,.cons r t,f=>by
    rw [List.all_cons,Bool.and_eq_true] at f
    rw [List.any_cons,List.any_cons,xD r f.1,pJ t f.2]
theorem ni {A:Around} {s:Shared} {x:V} {v:Value} (rx:RelV x v) (fx:eE x=true):∀ {xs:List V} {us:List Value},Vals xs us->xs.all eE=true->∀ u ∈ us,SeqAt.EqAt A s u v (eJ x u)
  | _,_,.nil,_=>fun u hu=>by cases hu
  | y::xs,u::us,.cons r t,f=>fun u' hu=>by
    rw [List.all_cons,Bool.and_eq_true] at f
    rcases List.mem_cons.mp hu with rfl | hu
    · rw [xD r f.1];exact Fs r rx f.1 fx
    · exact ni rx fx t f.2 u' hu
def uf (x:V) (xs:List V):Bool:=xs.any fun y=>fm y x
def qL (K:PySem.W.Frag) (neg:Bool):R2:=fun x y H Q=>∃ p xs,y=.ref p/\(bj K H p xs\/cB K H p xs)/\eE x=true/\xs.all eE=true/\Q (.bl (if neg then !uf x xs else uf x xs)) H
theorem OD:cD X (compareOp .In) (qL X.K false):=by
  intro pins s σ H x y v u Q I rx ry h
  obtain ⟨p,xs,rfl,hq,fx,fs,q⟩:=h
  cases ry
  rcases hq with hq | hq
  · obtain ⟨af,r,pl,hz⟩:=I.list hq
    refine SeqAt.in_listAt (eJ x) pl.isList (fun w hw=>ni rx fx r fs w (by simpa using hw)) ⟨.bl _,H,I,rfl,?_⟩
    rw [show af.toArray.any (eJ x)=af.any (eJ x) by simp,pJ r fs]
    exact q
  · obtain ⟨af,r,pl,hz⟩:=I.tuple hq
    refine SeqAt.in_tupleAt (eJ x) pl (fun w hw=>ni rx fx r fs w (by simpa using hw)) ⟨.bl _,H,I,rfl,?_⟩
    rw [show af.toArray.any (eJ x)=af.any (eJ x) by simp,pJ r fs]
    exact q
theorem MV:cD X (compareOp .NotIn) (qL X.K true):=by
  intro pins s σ H x y v u Q I rx ry h
  obtain ⟨p,xs,rfl,hq,fx,fs,q⟩:=h
  cases ry
  rcases hq with hq | hq
  · obtain ⟨af,r,pl,hz⟩:=I.list hq
    refine SeqAt.notIn_listAt (eJ x) pl.isList (fun w hw=>ni rx fx r fs w (by simpa using hw)) ⟨.bl _,H,I,rfl,?_⟩
    rw [show af.toArray.any (eJ x)=af.any (eJ x) by simp,pJ r fs]
    exact q
  · obtain ⟨af,r,pl,hz⟩:=I.tuple hq
    refine SeqAt.notIn_tupleAt (eJ x) pl (fun w hw=>ni rx fx r fs w (by simpa using hw)) ⟨.bl _,H,I,rfl,?_⟩
    rw [show af.toArray.any (eJ x)=af.any (eJ x) by simp,pJ r fs]
    exact q
theorem MX:eD X (.builtin "len") (fun xs H Q=>∃ p ys,xs=[.ref p]/\(bj X.K H p ys\/cB X.K H p ys)/\Q (.int ys.length) H):=by
  intro pins s σ H xs us Q I r h
  obtain ⟨p,ys,rfl,hq,q⟩:=h
  obtain ⟨u,rfl,rx⟩:=vals1 r
  cases rx
  have hn:=sN
  rcases hq with hq | hq
  · obtain ⟨af,r',pl,hz⟩:=I.list hq
    have hlen:=r'.length
    exact Calls.call_len_list pl.isList (by simp only [List.size_toArray]<;>omega) ⟨.int ys.length,H,I.tok _,⟨s.toks+1,by rw [List.size_toArray,hlen]⟩,q⟩
  · obtain ⟨af,r',pl,hz⟩:=I.tuple hq
    have hlen:=r'.length
    exact len_tuple pl (by simp only [List.size_toArray]<;>omega) ⟨.int ys.length,H,I.tok _,⟨s.toks+1,by rw [List.size_toArray,hlen]⟩,q⟩
theorem MY:eD X (.type "list") (fun xs H Q=>∃ p ys,xs=[.ref p]/\(bj X.K H p ys\/cB X.K H p ys)/\∀ l,H l=none->Q (.ref l) (upd H l (.lst ys))):=by
  intro pins s σ H xs us Q I r h
  obtain ⟨p,ys,rfl,hq,q⟩:=h
  obtain ⟨u,rfl,rx⟩:=vals1 r
  cases rx
  have fin:∀ (af:List Value),Vals ys af->ys.length<=sizeLine->∀ (h':Heap) (c':Nat),(∀ b o',s.heap.get? b=some o'->h'.get? b=some o') ->
      h'.get? s.heap.objs.size=some { cls:=.type "list",dict:=none,data:=.seq af.toArray c',slots:=#[] }->EP X pins σ Q (.ref s.heap.objs.size) { s with heap:=h' }:=fun af r' hz h' c' kp e =>
    ⟨.ref s.heap.objs.size,_,I.laid (t':=s.toks) kp (Nat.le_refl _) (show cP X.prog X.w _ h' _ (.lst ys) from ⟨hz,af,c',r',e⟩),rfl,q _ (I.aF.fresh (Nat.le_refl _))⟩
  rcases hq with hq | hq
  · obtain ⟨af,r',pl,hz⟩:=I.list hq
    have hlen:=r'.length
    obtain ⟨o,ho,hc,n,hd⟩:=pl.isList
    exact call_list_seq p (.inl rfl) ho hc hd (fun h' c' kp e=>fin af r' hz h' c' kp e) (by simp only [List.size_toArray]<;>omega)
  · obtain ⟨af,r',pl,hz⟩:=I.tuple hq
    have hlen:=r'.length
    obtain ⟨o,ho,hc,n,hd⟩:=pl
    exact call_list_seq p (.inr rfl) ho hc hd (fun h' c' kp e=>fin af r' hz h' c' kp e) (by simp only [List.size_toArray]<;>omega)
def JM (K:PySem.W.Frag) (T:String) (x:V) (H:Hp):Prop:=match x with
  | .str _=>T = "str"
  | .int _=>T = "int"
  | .ref p=>(T = "list" /\ ∃ xs,bj K H p xs)\/(T = "tuple" /\ ∃ o,K.lookup p=some o/\o.cls=.type "tuple" /\ o.dict=none) \/
      (T = "dict" /\ ((∃ cJ,H p=some (.dK cJ))\/∃ cJ,H p=some (.dT cJ)))\/(T = "set" /\ ∃ S n,H p=some (.set S n))
  | _=>False
theorem Sq {pins:List (Addr×Obj)} {σ:St} {H:Hp} {s:Shared} {T:String} {x:V} {v:Value} (I:Inv X pins σ H s) (r:RelV x v) (ty:JM X.K T x H) :
    s.TypeIs v T/\∀ a,v=.ref a->∃ ob,s.heap.get? a=some ob/\ob.dict=none:=by
  cases x with
  | str z =>
    obtain ⟨t,rfl⟩:=r
    cases (show T = "str" from ty)
    exact ⟨typeIs_str s z t,fun _ e=>nomatch e⟩
  | int i =>
    obtain ⟨t,rfl⟩:=r
    cases (show T = "int" from ty)
    exact ⟨typeIs_int s i t,fun _ e=>nomatch e⟩
  | ref p =>
    cases r
    rcases ty with ⟨rfl,xs,hq⟩ | ⟨rfl,o,hk,hc,hd⟩ | ⟨rfl,hk⟩ | ⟨rfl,S,n,hk⟩
    · obtain ⟨af,_,pl,_⟩:=I.list hq
      refine ⟨pl.isList.typeIs,fun a e=>?_⟩
      cases e
      obtain ⟨o,n,e,c,hd,_⟩:=pl
      exact ⟨o,e,hd⟩
    · refine ⟨⟨o,I.dH p o hk,hc⟩,fun a e=>?_⟩
      cases e
      exact ⟨o,I.dH _ o hk,hd⟩
    · have z:∃ o,s.heap.get? p=some o/\o.ExactDict:=by
        rcases hk with ⟨cJ,hk⟩ | ⟨cJ,hk⟩
        · obtain ⟨_,_,_,_,o,_,_,e,ex,_⟩:=I.aF p _ hk
          exact ⟨o,e,ex⟩
        · obtain ⟨_,_,_,_,o,_,_,e,ex,_⟩:=I.aF p _ hk
          exact ⟨o,e,ex⟩
      obtain ⟨o,e,ex⟩:=z
      refine ⟨⟨o,e,ex.1⟩,fun a e2=>?_⟩
      cases e2
      exact ⟨o,e,ex.2.1⟩
    · obtain ⟨o,_,_,_,e,ex,_⟩:=I.aF p _ hk
      refine ⟨⟨o,e,ex.1⟩,fun a e2=>?_⟩
      cases e2
      exact ⟨o,e,ex.2.1⟩
  | _=>exact False.elim ty
def lJ (K:PySem.W.Frag) (T:String) (r:V->List V->Hp->VK->Prop) (to:TE) (t:TA):TE:=fun σ H Q=>to σ H fun x H1=>JM K T x H1/\t σ H1 fun xs H2=>r x xs H2 Q
variable {o e:Expr} {es:List Expr} {to:TE} {t:TA} {name:Str} {apos iQ:Pos} {T id:String} {r:V->List V->Hp->VK->Prop}
theorem n8 (pa:PlainAttrs T) (slot:Slot T name id) (zf:typeOf (.builtin id)=pure (.type "method_descriptor")) (hm:JL X id r) (ho:PE X o to) (ha:PA X (e::es) t)
    (fP:attributeBase o name X.env (eval o X.env)=eval o X.env:=by rfl)
    (fT:((backTo iQ (starEach (e::es) X.env)).all (fun x=>!x.1)&&(backToKw iQ (keywordEach [] X.env)).all (fun x=>x.1.isSome)
      && decide ((e::es).length+([]:List Keyword).length+(if ([]:List Keyword).isEmpty then 0 else 1)<30))=true:=by rfl)
    (hline:(apos.endLine==iQ.line)=true:=by rfl) (hs:starEach (e::es) X.env=(false,eval e X.env)::starEach es X.env:=by rfl) (xE:(backTo iQ (starEach es X.env)).any (·.1)=false:=by rfl) :
    PE X (.Call (.Attribute o name apos) (e::es) [] iQ) (lJ X.K T r to t):=by
  intro pins s σ H Q I h
  refine wpAny_Call_method_late fP fT hline rfl (aD (ho pins s σ H _ I h) fun v s1 ⟨x,H1,I1,r1,ty,q1⟩=>?_)
  obtain ⟨h1,h2⟩:=Sq I1 r1 ty
  refine ⟨T,id,pa,slot,zf,h1,h2,?_⟩
  have hA:=ha iQ pins s1 σ H1 _ I1 q1
  rw [hs] at hA ⊢
  refine Calls.callWith_builtin (by show (false || (backTo iQ (starEach es X.env)).any (·.1))=false;rw [xE]<;>rfl) (Calls.evalArgs_plain ?_)
  exact aD hA fun us s2 ⟨vs,H2,I2,r2,q2⟩=>hm pins s2 σ H2 x vs v us Q I2 r1 r2 q2
end
end L2
namespace L2
open PySem PySem.Spec PyProof.Rows
def qM (X:Cx) (id:String) (r:V->List V->Hp->VK->Prop):Prop :=
  ∀ (pins:List (Addr×Obj)) (s:Shared) (σ:St) (H:Hp) (x:V) (xs:List V) (v:Value) (us:List Value) (Q:VK),Inv X pins σ H s->RelV x v->Vals xs us->r x xs H Q ->
    wpAny (model X.prog X.w) X.A (call (.builtin id) (v::us)) (EP X pins σ Q) X.xe s
theorem Vals.one:∀ {x:V} {us:List Value},Vals [x] us->∃ u,us=[u]/\RelV x u
  | _,_,.cons r .nil=>⟨_,rfl,r⟩
theorem Vals.eraseIdx:∀ {xs:List V} {us:List Value} (i:Nat),Vals xs us->Vals (xs.eraseIdx i) (us.eraseIdx i)
  | _,_,_,.nil=>.nil
  | _,_,0,.cons _ t=>t
  | _,_,i+1,.cons r t=>.cons r (Vals.eraseIdx i t)
theorem Dl {α:Type}:∀ (l:List α) (i:Nat),(l.eraseIdx i).length<=l.length
  | [],_=>Nat.le_refl _
  | _::_,0=>Nat.le_succ _
  | _::r,i+1=>Nat.succ_le_succ (Dl r i)
section
variable {X:Cx} {pins:List (Addr×Obj)} {σ:St} {H:Hp} {s:Shared} {l b:Addr} {xs ys zs:List V}
theorem Inv.yJ {af its':List Value} {n:Nat} {f:Array Value->Array Value} {t':Nat} (I:Inv X pins σ H s) (hH:H l=some (.lst xs))
    (e:s.heap.get? l=some { cls:=.type "list",data:=.seq af.toArray n }) (hf:f af.toArray=its'.toArray) (hv:Vals ys its') (hz:ys.length<=sizeLine) :
    Inv X pins σ (upd H l (.lst ys)) { s with heap:=s.heap.update l (Obj.mapSeq f),toks:=t' }:=by
  have q:=PySem.IsL.update e f
  rw [hf] at q
  refine I.write (x:=l) (e:=l) (by rw [hH];exact trivial) (.inl rfl) (fun b' u hb hu=>(Heap.get?_update_other s.heap (Obj.mapSeq f) (Ne.symm hb)).trans hu) ⟨_,q⟩ ?_
  exact ⟨hz,its',_,hv,q⟩
theorem Inv.yK {af:List Value} {t':Nat} (I:Inv X pins σ H s) (hv:Vals ys af) (hz:ys.length<=sizeLine) :
    Inv X pins σ (upd H s.heap.objs.size (.lst ys)) { s with heap:=s.heap.push { cls:=.type "list",data:=.seq af.toArray },toks:=t' } :=
  I.laid (fun _ _ q=>Heap.get?_push_of_some _ q) (Nat.le_refl _) ⟨hz,af,0,hv,Heap.get?_push_size _ rfl⟩
theorem Inv.fresh (I:Inv X pins σ H s):H s.heap.objs.size=none:=I.aF.fresh (Nat.le_refl _)
theorem Inv.tQ (I:Inv X pins σ H s) (hH:H l=some (.lst xs)):xs.length<=sizeLine/\∃ (af:List Value) (n:Nat),Vals xs af/\xs.length=af.length/\s.heap.get? l=some { cls:=.type "list",data:=.seq af.toArray n }:=by
  obtain ⟨z,af,n,r,e⟩:=I.aF l _ hH
  exact ⟨z,af,n,r,r.length,e⟩
theorem Ph {n:Nat} (h:n<=sizeLine):Builtin.List.listTooLong n=false:=by
  unfold Builtin.List.listTooLong
  exact decide_eq_false (by omega)
end
section
variable {X:Cx}
def wX:V->List V->Hp->VK->Prop:=fun x vs H Q=>∃ l xs y,x=.ref l/\vs=[y]/\H l=some (.lst xs)/\xs.length<sizeLine/\Q .aN (upd H l (.lst (xs++[y])))
theorem rR:qM X "list.append" wX:=by
  intro pins s σ H x vs v us Q I rx rv h
  obtain ⟨l,xs,y,rfl,rfl,hH,hz,q⟩:=h
  cases rx
  obtain ⟨u,rfl,ru⟩:=rv.one
  obtain ⟨z,af,n,r,hl,e⟩:=I.tQ hH
  refine call_meets F.slot_list_append ⟨_,e,rfl⟩ F.entry_list_append (F.args_list_append_2 _ _) (PySem.list_append l af.toArray n u (by rw [List.size_toArray];omega)) ⟨e,?_⟩
  refine ⟨.aN,_,I.yJ (its':=af++[u]) hH e (by simp) (r.append (.cons ru .nil)) ?_,rfl,q⟩
  rw [List.length_append,List.length_singleton]
  omega
def wY:V->List V->Hp->VK->Prop:=fun x vs H Q=>∃ l b xs zs,x=.ref l/\vs=[.ref b]/\H l=some (.lst xs)/\H b=some (.lst zs)/\xs.length+zs.length<=sizeLine/\Q .aN (upd H l (.lst (xs++zs)))
theorem Dm:qM X "list.extend" wY:=by
  intro pins s σ H x vs v us Q I rx rv h
  obtain ⟨l,b,xs,zs,rfl,rfl,hH,hB,hz,q⟩:=h
  cases rx
  obtain ⟨u,rfl,ru⟩:=rv.one
  cases ru
  obtain ⟨z,af,n,r,hl,e⟩:=I.tQ hH
  obtain ⟨z2,jZ,n2,r2,ug,e2⟩:=I.tQ hB
  have bS:af.toArray.size+jZ.toArray.size<=sizeLine:=by rw [List.size_toArray,List.size_toArray];omega
  have Tt:¬ (!af.toArray.isEmpty&&Builtin.List.listTooLong (af.toArray.size+jZ.toArray.size))=true:=by
    rw [Ph bS,Bool.and_false]
    exact Bool.false_ne_true
  refine call_meets F.slot_list_extend ⟨_,e,rfl⟩ F.entry_list_extend (F.args_list_extend_2 _ _)
    (AutoSeq1.list_extend_list_list_0 l af.toArray n b jZ.toArray n2 Tt (by rw [List.size_toArray];omega) (by omega)) ⟨e,e2,?_⟩
  refine ⟨.aN,_,I.yJ (its':=af++jZ) hH e (by simp) (r.append r2) ?_,rfl,q⟩
  rw [List.length_append]
  omega
def Ft:V->List V->Hp->VK->Prop:=fun x vs H Q=>∃ l xs i k y,x=.ref l/\vs=[.int i]/\H l=some (.lst xs) /\ -(2 ^ 63)<=i/\i<2 ^ 63/\seqIndex? i xs.length=some k/\xs[k]?=some y/\Q y (upd H l (.lst (xs.eraseIdx k)))
theorem Pj:qM X "list.pop" Ft:=by
  intro pins s σ H x vs v us Q I rx rv h
  obtain ⟨l,xs,i,k,y,rfl,rfl,hH,h1,h2,hk,hy,q⟩:=h
  cases rx
  obtain ⟨u,rfl,ru⟩:=rv.one
  obtain ⟨t,rfl⟩:=ru
  obtain ⟨z,af,n,r,hl,e⟩:=I.tQ hH
  obtain ⟨w,hw,lF⟩:=r.get hy
  refine call_meets F.slot_list_pop ⟨_,e,rfl⟩ F.entry_list_pop (F.args_list_pop_2 _ _)
    (MeetsSeq.list_pop_at l af.toArray n i t k w (fitsIndex_both h1 h2) (by rw [List.size_toArray,<- hl];exact hk) (by rw [<- Array.getElem?_toList];exact hw) (by rw [List.size_toArray];omega)) ⟨e,?_⟩
  refine ⟨y,_,I.yJ (its':=af.eraseIdx k) hH e ?_ (r.eraseIdx k) ?_,lF,q⟩
  · show af.toArray.eraseIdxIfInBounds k=(af.eraseIdx k).toArray
    rw [List.eraseIdxIfInBounds_toArray]
  · have:=Dl xs k
    omega
end
end L2
namespace JN
open PySem PySem.W PySem.Calls PyProof.Rows
theorem LX {P:Params} {h:Heap}:∀ (ns:List Int) (vs:List Value),WellAll P h vs (ns.map WData.int)->IntsAre vs ns:=by
  intro ns
  induction ns with
  | nil =>
    intro vs w
    rw [List.map_nil] at w
    cases w
    exact .nil
  | cons n ns ih =>
    intro vs w
    rw [List.map_cons] at w
    cases w with
    | cons a b =>
      cases a
      exact .cons _ _ (ih _ b)
theorem OG {l:OpenLaw} {n:Nat} (hn:l.most=some n) {P:Params} {h:Heap} {args:List WData} {vals:List Value}
    (tR:l.row.toRowW.claim.pre args=true) (zg:WellAll P h vals args) :
    ∃ a vs ns,vals=[Value.ref a]/\args=[WData.list (ns.map WData.int)]/\h.get? a=some { cls:=.type "list",data:=.seq vs.toArray }/\IntsAre vs ns/\ns.length<=n:=by
  have ZU:WShape.hasAll [] args [.list .int]=true:=(pre_splitW tR).1
  have hc:l.pre.holds [] { args:=args }=true:=(pre_splitW tR).2
  obtain ⟨d,r,rfl,h1,h2⟩:=hasAllW_cons ZU
  obtain rfl:=hasAllW_nil h2
  obtain ⟨xs,rfl,h3⟩:=hasW_list h1
  obtain ⟨ns,rfl⟩:=items_int h3
  have hlen:ns.length<=n:=by
    unfold OpenLaw.pre at hc
    have h4:(WTm.not (.lt (.lit (.int (n:Int))) (.len (.arg 0)))).holds [] { args:=[.list (ns.map .int)] }=true:=by
      have h4:=(holds_andW hc).1
      rw [hn] at h4
      exact h4
    have h5:=condW_of h4 (w_not (w_lt w_lit (w_len_list (w_arg rfl))))
    rw [List.length_map] at h5
    refine Nat.le_of_not_lt fun q=>?_
    have q':(n:Int)<((ns.length:Nat):Int):=by omega
    first
      | (rw [decide_eq_true q'] at h5;exact absurd h5 (by decide))
      | (simp at h5;omega)
  cases zg with
  | cons w1 w2 =>
    cases w2
    cases w1 with
    | list ho fU=>exact ⟨_,_,ns,rfl,rfl,ho,LX ns _ fU,hlen⟩
theorem OH (l:OpenLaw) (args:List WData):l.row.toRowW.claim.post args (.bool true) args=true :=
  postW_of (r:=l.row.toRowW) (X:=(true==true))
    (show WShape.has [] (.bool true) .bool=true by first | rfl | decide | simp [WShape.has,WShape.arms,WShape.armsAll])
    (show (WTm.eq .res (.lit (.bool true))).value [] { args:=args,res:=some (.bool true),after:=args }=some (.bool (true==true)) from w_eq_bool (w_res rfl) w_lit) rfl
theorem Nm {l:OpenLaw} {n:Nat} {q:Program} {loose:List Str} {XP:(Str->Option Value)->Heap->Prop} {YP:World->Heap->Prop} {d:DefRec}
    (hn:l.most=some n) (qN:d.params.defaults=[])
    (call:∀ (w:World) (cQ bp:Shared) (mg mb:Str->Option Value) (fa:Addr) (o:Obj) (pm cd doc:Value) (a:Addr) (vs:List Value) (ns:List Int),
      Ground q loose [] XP w cQ mg mb bp.heap->YP w bp.heap ->
      bp.heap.get? fa=some o->o.data=.func (docDef d.name d.params d.body d.scope pm cd doc)->bp.heap.CodeRec cd d.name->mg d.name=some (.ref fa) ->
      bp.heap.get? a=some { cls:=.type "list",data:=.seq vs.toArray }->IntsAre vs ns->ns.length<=n->bp.gens = #[] ->
      codeAny (model l.prog w) callerA (.call (.ref fa) ⟨[.ref a],[]⟩) (fun r s'=>r=.ok (.ret (.bool true))/\OldK bp.heap s'.heap/\s'.os=bp.os/\AllBare s'.gens) bp) :
    WalkO q loose XP YP l.row.toRowW d [] (fun f vs=>PySem.call f vs):=by
  intro w cQ bp mg mb G Y fa o pm cd doc dV kV ho hd ik hD qO hg args vals as tR aan hrd zg hlo
  obtain rfl:dV=.none:=Dflts.none hD qN
  obtain rfl:kV=.none:=Dflts.noKw hD
  obtain ⟨a,vs,ns,rfl,rfl,yL,hints,hlen⟩:=OG hn tR zg
  refine enter_call (codeAny_mono (call w cQ bp mg mb fa o pm cd doc a vs ns G Y ho (fd_plain hd) ik qO yL hints hlen hg) fun r s' hq=>?_)
  obtain ⟨rfl,h2,h3,h4⟩:=hq
  exact ⟨.inl ⟨.bool true,.bool true,[],rfl,fun _=>rfl,.bool true,OH l _,fun _=>⟨List.Pairwise.nil,fun _ hm=>(nomatch hm)⟩⟩,h2,h3,h4⟩
end JN
namespace L2
open PySem PySem.Spec PyProof.Rows
theorem vT:∀ {vs:List Value} {ns:List Int},IntsAre vs ns->Vals (ns.map V.int) vs
  | _,_,.nil=>.nil
  | _,_,.cons n t h=>.cons ⟨t,rfl⟩ (vT h)
def yM (H:Hp):Prop:=∀ b,H b=none\/∃ o xs,H b=some (.d8 o (.lst xs))
theorem Pk {P:Program} {w:World} {K:PySem.W.Frag} {mg mb:Str->Option Value} {CX:fH} {k:Nat} {fa a:Addr} {fd:FuncData} {x:Str} {sp:Sp} {bp:Shared} {vs:List Value} {ns:List Int}
    (KX:K.In bp.heap) (iu:bp.heap.Ns mainGlobals mg) (hb:bp.heap.Ns builtinsNs mb) (uh:∀ x:Str,x ≠ "__name__" -> mb x=bootBuiltins x) (Ul:bp.heap.NoLimit) (hg:bp.gens = #[])
    (ha:bp.heap.get? a=some { cls:=.type "list",data:=.seq vs.toArray }) (hi:IntsAre vs ns) (hl:ns.length<=sizeLine) (hr:dq k callerA)
    (F:∀ base:Heap,K.In base->base.Ns mainGlobals mg->aP P w K mg base CX k fa fd [x] sp) (Tu:∀ (s:Shared) (u:Value),BindsTo s fd ⟨[u],[]⟩ [(x,u)])
    (kh:∀ H:Hp,yM H->bj K H a (ns.map V.int)->sp [.ref a] H (fun v _=>v=.bl true) fun _ _ _=>False)
    (zh:∀ H e s',CX [] H bp (fun _ _ _=>False) e s'->False) :
    codeAny (model P w) callerA (.call (.ref fa) ⟨[.ref a],[]⟩) (fun r s'=>r=.ok (.ret (.bool true))/\OldK bp.heap s'.heap/\s'.os=bp.os/\AllBare s'.gens) bp:=by
  have rv:=vT hi
  have Um:=hi.length
  have core:∀ H:Hp,yM H->bj K H a (ns.map V.int)->cA P w H bp.heap->(∀ b,H b ≠ none->b=a)->(H a ≠ none->K.lookup a=none) ->
      codeAny (model P w) callerA (.call (.ref fa) ⟨[.ref a],[]⟩) (fun r s'=>r=.ok (.ret (.bool true))/\OldK bp.heap s'.heap/\s'.os=bp.os/\AllBare s'.gens) bp:=by
    intro H hO hS aF hA hK
    have Ez:∀ {b:Addr} {o:Obj},bp.heap.get? b=some o->H b=none->(jn bp.heap H).get? b=some o:=fun e n=>O8 e n
    have qJ:∀ {b:Addr} {o:Obj} {es:Array DictEntry} {ep:Nat},bp.heap.get? b=some o->o.data=.dict es ep->H b=none:=fun {b o es ep} e d=>by
      cases q:H b with
      | none=>rfl
      | some u =>
        have e':b=a:=hA b (by rw [q];simp)
        subst e'
        rw [ha] at e;cases e
        have d':Data.seq vs.toArray _=Data.dict es ep:=d
        cases d'
    have ui:∀ {b:Addr} {m:Str->Option Value},bp.heap.Ns b m->(jn bp.heap H).Ns b m:=fun {b m} ⟨o,es,ep,e,d,r⟩=>⟨o,es,ep,Ez e (qJ e d),d,r⟩
    have JO:K.In (jn bp.heap H):=fun b o e=>Ez (KX b o e) (by
      cases q:H b with
      | none=>rfl
      | some u =>
        have e':b=a:=hA b (by rw [q];simp)
        subst e'
        rw [hK (by rw [q];simp)] at e;cases e)
    have hM:Mod K mg (jn bp.heap H):=⟨JO,ui iu,⟨mb,ui hb,uh⟩,let ⟨mc,h1,h2⟩:=Ul;⟨mc,ui h1,h2⟩⟩
    have e0:tP P w K mg (jn bp.heap H) callerA [] bp H:=⟨rfl,hM,fun b o e=>Qe e,Nat.le_of_eq (Ov _ _),trivial,fun b hb=>absurd (show b ∈ ([]:List Addr) from hb) (by simp),aF,.of_eq hg⟩
    refine codeAny_mono ((F _ JO (ui iu)).run callerA [] bp H ⟨[.ref a],[]⟩ [.ref a] [.ref a] _ _ hr e0 (Tu bp (.ref a)) (.cons rfl .nil) (kh H hO hS)) fun r s' h=>?_
    cases r with
    | error e=>exact (zh H e s' h).elim
    | ok fl =>
      cases fl with
      | next=>exact False.elim h
      | brk=>exact False.elim h
      | cont=>exact False.elim h
      | ret u =>
        obtain ⟨v,H',os,bare,un,Uo,r',q⟩:=h
        have q':v=.bl true:=q
        subst q'
        obtain rfl:u=Value.bool true:=r'
        refine ⟨rfl,OldK.of_keep fun b o e=>?_,os,bare⟩
        cases q:H b with
        | none=>exact un.keep b o e q (by intro z;exact absurd (show b ∈ ([]:List Addr) from z) (by simp)) (by simp)
        | some u =>
          rcases hO b with z | ⟨ob,xs,z⟩
          · rw [q] at z;cases z
          · have z2:=un.hG b ob _ z
            obtain ⟨e1,_⟩:=aF b _ z
            obtain ⟨e2,_⟩:=Uo b _ z2
            rw [e] at e1;cases e1
            exact e2
  cases hk:K.lookup a with
  | some o =>
    have e:=KX a o hk
    rw [ha] at e
    cases e
    refine core (fun _=>none) (fun _=>.inl rfl) (.inr ⟨_,vs.toArray,_,hk,rfl,rfl,rfl,by rw [List.size_toArray,Um];exact hl,by simpa using rv⟩) (fun b u z=>by have z':(none:Option HO)=some u:=z;cases z') (fun b z=>absurd rfl z) fun z=>absurd rfl z
  | none =>
    refine core (fun b=>if b=a then some (.d8 { cls:=.type "list",data:=.seq vs.toArray } (.lst (ns.map V.int))) else none) (fun b=>?_) (.inl (.inr ⟨{ cls:=.type "list",data:=.seq vs.toArray },if_pos rfl⟩)) (fun b u z=>?_) (fun b z=>?_) fun _=>hk
    · by_cases hb:b=a
      · exact .inr ⟨_,_,if_pos hb⟩
      · exact .inl (if_neg hb)
    · by_cases hb:b=a
      · have z':=(if_pos hb).symm.trans z
        cases z'
        subst hb
        exact ⟨ha,by rw [List.length_map];exact hl,vs,_,rv,ha⟩
      · have z':=(if_neg hb).symm.trans z
        cases z'
    · by_cases hb:b=a
      · exact hb
      · exact absurd (if_neg hb) z
end L2
namespace L2
open PySem PySem.Spec PyProof.Rows
theorem Qs {l:PySem.W.OpenLaw} {n k:Nat} {q:Program} {loose:List Str} {XP:(Str->Option Value)->Heap->Prop} {YP:World->Heap->Prop} {d:DefRec} {K:Params->PySem.W.Frag} {CX:World->fH} {sp:World->Sp} {x:Str}
    (hn:l.most=some n) (ZV:n<=sizeLine) (qN:d.params.defaults=[]) (hr:dq k callerA)
    (hY:∀ (w:World) (h:Heap),YP w h->(K w.params).In h)
    (F:∀ (w:World) (mg:Str->Option Value) (fa:Addr) (h:Heap),(K w.params).In h->h.Ns mainGlobals mg->mg d.name=some (.ref fa) ->
      ∃ fd:FuncData,(∀ (s:Shared) (u:Value),BindsTo s fd ⟨[u],[]⟩ [(x,u)]) /\
        ∀ base:Heap,(K w.params).In base->base.Ns mainGlobals mg->aP l.prog w (K w.params) mg base (CX w) k fa fd [x] (sp w))
    (kh:∀ (w:World) (H:Hp) (a:Addr) (ns:List Int),ns.length<=n->yM H->bj (K w.params) H a (ns.map V.int)->sp w [.ref a] H (fun v _=>v=.bl true) fun _ _ _=>False)
    (zh:∀ (w:World) (H:Hp) (s:Shared) (e:Value) (s':Shared),CX w [] H s (fun _ _ _=>False) e s'->False) :
    PySem.W.WalkO q loose XP YP l.row.toRowW d [] (fun f vs=>PySem.call f vs):=by
  refine JN.Nm hn qN fun w cQ bp mg mb fa o pm cd doc a vs ns G Y ho hd ik qO yL hints hlen hg=>?_
  have KX:=hY w _ Y
  obtain ⟨fd,hb,hF⟩:=F w mg fa _ KX G.T.g qO
  exact Pk KX G.T.g G.T.b G.T.builtins G.T.nolimit hg yL hints (Nat.le_trans hlen ZV) hr hF hb (fun H hO hS=>kh w H a ns hlen hO hS) fun H e s'=>zh w H bp e s'
end L2
namespace L2
open PySem PySem.Spec PyProof.Rows
def aV (s:Stmt):Arguments:=match s with
  | .FunctionDef _ a _ _ _ _ _ _ _ _=>a
  | _=>{ posonlyargs:=[],args:=[],vararg:=none,kwonlyargs:=[],kw_defaults:=[],kwarg:=none,defaults:=[] }
def aT (s:Stmt):List Stmt:=match s with
  | .FunctionDef _ _ b _ _ _ _ _ _ _=>b
  | _=>[]
def aw (s:Stmt):Scope:=match s with
  | .FunctionDef _ _ _ _ _ _ sc _ _ _=>sc
  | _=>{ kind:=.function,names:=[],isGenerator:=false,isCoroutine:=false }
abbrev aj:fH:=fun _ _ _ _ _ _=>False
abbrev E0:XK:=fun _ _ _=>False
theorem Hi {X:Cx}:Passes aj X E0:=fun _ _ _ _ _ _ _ h=>h.elim
structure bh (K:PySem.W.Frag) (x qual:Str) (st:Stmt) (f:Addr) (fd:FuncData):Prop where
  ex:∃ (oc:Value) (od:Option Addr) (kV doc pm:Value) (an:Option Addr) (bE ct:Value) (fZ:Array (Option Value)),
    fd=PySem.W.fnOf x qual (aV st) (aT st) (aw st) .none kV doc pm an bE ct/\K.lookup f=some ⟨oc,od,.func fd,fZ⟩/\PySem.W.codeIn K bE qual=true
  kp:PySem.W.keepIn K (.ref f)=true
section
variable {P:Program} {w:World} {K:PySem.W.Frag} {mg:Str->Option Value} {base:Heap}
theorem bh.binds {x qual:Str} {st:Stmt} {f:Addr} {fd:FuncData} {ps:List Str} (F:bh K x qual st f fd)
    (h:∀ (kV doc pm:Value) (an:Option Addr) (bE ct:Value) (us:List Value),us.length=ps.length->bindArgs (PySem.W.fnOf x qual (aV st) (aT st) (aw st) .none kV doc pm an bE ct) ⟨us,[]⟩=pure (ps.zip us)):Binds K fd ps []:=by
  obtain ⟨oc,od,kV,doc,pm,an,bE,ct,fZ,rfl,lk,ik⟩:=F.ex
  exact .all (h kV doc pm an bE ct)
theorem bt {x qual:Str} {st:Stmt} {f:Addr} {oc:Value} {od an:Option Addr} {fZ:Array (Option Value)} {kV doc pm bE ct:Value} (l:K.lookup f=some ⟨oc,od,.func (PySem.W.fnOf x qual (aV st) (aT st) (aw st) .none kV doc pm an bE ct),fZ⟩)
    (c:PySem.W.codeIn K bE qual=true) (k:PySem.W.keepIn K (.ref f)=true):bh K x qual st f (PySem.W.fnOf x qual (aV st) (aT st) (aw st) .none kV doc pm an bE ct):=⟨⟨oc,od,kV,doc,pm,an,bE,ct,fZ,rfl,l,c⟩,k⟩
end
section
variable {X:Cx}
theorem pv (i:Nat) {x:Str} {pos:Pos} (hN:X.N[i]?=some x:=by rfl) (hv:ig X.env.scope x:=by first | exact Or.inl rfl | exact Or.inr (Or.inl rfl) | exact Or.inr (Or.inr rfl)) (hd:(x==("__debug__" : Str))=false:=by decide)
    (ik:(x==("__classdict__" : Str))=false:=by decide):PE X (.Name x pos) (fR i):=kL hN hv hd ik
end
theorem j4 {A B:Prop} (h:B):if false=true then A else B:=by
  rw [if_neg Bool.false_ne_true]
  exact h
theorem j5 {A B:Prop} (h:A):if true=true then A else B:=by
  rw [if_pos rfl]
  exact h
def av (H H':Hp):Prop:=∀ b o,H b=some o->H' b=some o
theorem av.refl (H:Hp):av H H:=fun _ _ h=>h
theorem av.trans {H H1 H2:Hp} (a:av H H1) (b:av H1 H2):av H H2:=fun c o h=>b c o (a c o h)
theorem av.free {H H':Hp} (e:av H H') {l:Addr} (h:H' l=Option.none):H l=Option.none:=by
  cases q:H l with
  | none=>rfl
  | some o =>
    rw [e l o q] at h
    cases h
theorem av.seq {K:PySem.W.Frag} {H H':Hp} {a:Addr} {xs:List V} (e:av H H') (h:bj K H a xs):bj K H' a xs:=by
  rcases h with (h | ⟨o,h⟩) | h
  · exact .inl (.inl (e _ _ h))
  · exact .inl (.inr ⟨o,e _ _ h⟩)
  · exact .inr h
end L2
namespace L2
open PySem PySem.Spec PyProof.Rows
abbrev cu:Value->Shared->Prop:=fun _ _=>False
theorem zi {α:Type} {M:Model} {A:Around} {m:Sem α} {Q : α->Shared->Prop} {E:Value->Shared->Prop} {s:Shared} (h:wpAny M A m Q cu s):wpAny M A m Q E s :=
  wpAny_mono h (fun _ _ q=>q) fun _ _ z=>z.elim
abbrev jc (ifs:List Expr) (env:Env):Sem Bool :=
  forIn ifs true fun c r=>if r=true then do let ok <- isTrue c env (eval c env);pure (ForInStep.yield ok) else pure (ForInStep.yield r)
theorem Fu {P:Program} {w:World} {A:Around} {R:Result->Shared->Prop} {s:Shared} {elt tg iter:Expr} {ifs:List Expr} {sc:Scope} {pos:Pos} {it acc:Value} {env:Env} (I:Nat->Shared->Prop)
    (turn:∀ n s,I n s->wpAny (model P w) A (pyNext it) (fun r s1=>match r with
      | none=>R (.ok .next) s1
      | some v=>wpAny (model P w) A (letOwnedTupleGo tg it v) (fun _ s2=>wpAny (model P w) A (assign tg env v) (fun _ s3 =>
          wpAny (model P w) A (jc ifs env) (fun ok s4=>if ok=true then wpAny (model P w) A (eval elt env) (fun x s5 =>
              wpAny (model P w) A (call (.builtin "list.append") [acc,x]) (fun _ s6=>∃ m,m<n/\I m s6) cu s5) cu s4
            else ∃ m,m<n/\I m s4) cu s3) cu s2) cu s1) cu s)
    (n:Nat) (h:I n s):codeAny (model P w) A (.compLoop (.ListComp elt [⟨tg,iter,ifs,0⟩] sc pos) 0 it acc env) R s:=by
  refine codeAny_loop rfl I (fun n s hI=>?_) n h
  show wpAny (model P w) A ((compTurn (.ListComp elt [⟨tg,iter,ifs,0⟩] sc pos) 0 it acc env).onRaise (fun x=>do noteFrame x env;theTreesLotGoes x)) _ _ s
  refine wpAny_noted (zi ?_)
  rw [compTurn_list]
  refine wpAny_bind (wpAny_standAt (wpAny_bind (aD (turn n s hI) fun r s1 h1=>?_)))
  cases r with
  | none=>exact wpAny_pure h1
  | some v =>
    refine wpAny_bind (aD h1 fun _ s2 h2=>wpAny_bind (aD h2 fun _ s3 h3=>wpAny_bind (aD h3 fun ok s4 h4=>?_)))
    cases ok with
    | false=>exact wpAny_pure ⟨rfl,h4⟩
    | true=>exact wpAny_bind (wpAny_bind (aD h4 fun x s5 h5=>wpAny_bind (aD h5 fun _ s6 h6=>wpAny_pure (wpAny_pure ⟨rfl,h6⟩))))
theorem pK:∀ (names:List (Str×NameKind)) (n:Nat) (acc:List (Str×Addr)) (y:Str),(∃ c,acc.lookup y=some c)->∃ c,(cellsFrom n names acc).lookup y=some c
  | [],_,_,_,h=>h
  | (name,kind)::r,n,acc,y,⟨c,h⟩=>by
    unfold cellsFrom
    split
    · refine pK r _ _ y ?_
      rw [List.lookup_cons]
      split
      · exact ⟨_,rfl⟩
      · exact ⟨c,h⟩
    · exact pK r _ _ y ⟨c,h⟩
theorem sO:∀ (names:List (Str×NameKind)) (n:Nat) (acc:List (Str×Addr)) (y:Str),(y,NameKind.cell) ∈ names->∃ c,(cellsFrom n names acc).lookup y=some c
  | [],_,_,_,h=>nomatch h
  | (name,kind)::r,n,acc,y,h=>by
    unfold cellsFrom
    rcases List.mem_cons.mp h with e | h
    · cases e
      rw [if_pos (by decide)]
      exact pK r _ _ _ ⟨n,by rw [List.lookup_cons_self]⟩
    · split
      · exact sO r _ _ y h
      · exact sO r _ _ y h
theorem pd:∀ (names:List (Str×NameKind)) (n:Nat) (acc:List (Str×Addr)) (y:Str) (c:Addr),(cellsFrom n names acc).lookup y=some c->acc.lookup y=some c\/(n<=c/\(y,NameKind.cell) ∈ names)
  | [],_,_,_,_,h=>.inl h
  | (name,kind)::r,n,acc,y,c,h=>by
    unfold cellsFrom at h
    split at h
    · rename_i hk
      rcases pd r _ _ y c h with q | ⟨q1,q2⟩
      · rw [List.lookup_cons] at q
        split at q
        · rename_i hy
          cases q
          rw [beq_iff_eq.mp hy,<- beq_iff_eq.mp hk]
          exact .inr ⟨Nat.le_refl _,.head _⟩
        · exact .inl q
      · exact .inr ⟨Nat.le_of_succ_le q1,.tail _ q2⟩
    · rcases pd r _ _ y c h with q | ⟨q1,q2⟩
      · exact .inl q
      · exact .inr ⟨q1,.tail _ q2⟩
theorem xF:∀ (names:List (Str×NameKind)) (n:Nat) (acc:List (Str×Addr)) (y:Str),(y,NameKind.cell) ∉ names->(cellsFrom n names acc).lookup y=acc.lookup y
  | [],_,_,_,_=>rfl
  | (name,kind)::r,n,acc,y,h=>by
    unfold cellsFrom
    have hr:(y,NameKind.cell) ∉ r:=fun z=>h (.tail _ z)
    split
    · rename_i hk
      rw [xF r _ _ y hr,List.lookup_cons]
      split
      · rename_i hy
        exact absurd (show (y,NameKind.cell) ∈ (name,kind)::r by rw [beq_iff_eq.mp hy,<- beq_iff_eq.mp hk];exact .head _) h
      · rfl
    · exact xF r _ _ y hr
theorem xG:∀ (names:List (Str×NameKind)) (n:Nat) (acc:List (Str×Addr)),(∀ y c,acc.lookup y=some c->c<n)->(∀ y z c,acc.lookup y=some c->acc.lookup z=some c->y=z) ->
    ∀ y z c,(cellsFrom n names acc).lookup y=some c->(cellsFrom n names acc).lookup z=some c->y=z
  | [],_,_,_,h=>h
  | (name,kind)::r,n,acc,h1,h2=>by
    unfold cellsFrom
    split
    · refine xG r _ _ (fun y c e=>?_) fun y z c e e'=>?_
      · rw [List.lookup_cons] at e
        split at e
        · cases e;exact Nat.lt_succ_self _
        · exact Nat.lt_succ_of_lt (h1 y c e)
      · rw [List.lookup_cons] at e e'
        split at e
        · rename_i hy
          cases e
          split at e'
          · rename_i hz
            rw [beq_iff_eq.mp hy,beq_iff_eq.mp hz]
          · exact absurd (h1 z _ e') (Nat.lt_irrefl _)
        · split at e'
          · cases e'
            exact absurd (h1 y _ e) (Nat.lt_irrefl _)
          · exact h2 y z c e e'
    · exact xG r _ _ h1 h2
theorem sD:∀ (names:List (Str×NameKind)) (h:Heap) (acc:List (Str×Addr)) (y:Str) (c:Addr),(cellsFrom h.objs.size names acc).lookup y=some c->acc.lookup y=some c\/(pushCells h names).IsCell c none
  | [],_,_,_,_,e=>.inl e
  | (name,kind)::r,h,acc,y,c,e=>by
    unfold cellsFrom at e
    unfold pushCells
    split
    · rename_i hk
      rw [if_pos hk] at e
      rw [show h.objs.size+1=(h.push { cls:=.type "cell",data:=.cell none }).objs.size from (Heap.size_push ..).symm] at e
      rcases sD r _ _ y c e with q | q
      · rw [List.lookup_cons] at q
        split at q
        · cases q
          exact .inr (Heap.IsCell.keeps ⟨_,Heap.get?_push_size _ rfl,rfl⟩ (pushCells_keeps r _))
        · exact .inl q
      · exact .inr q
    · rename_i hk
      rw [if_neg hk] at e
      exact sD r _ _ y c e
theorem C0 {M:Model} {A:Around} {E:Value->Shared->Prop} {s:Shared} {scope:Scope} {globals:Addr} {cl:List (Str×Addr)} {qual:Str} {func:Option Addr} {code:Value} {env:Env} {builtins:Addr} {Q:Env->Shared->Prop}
    (hQ:Q (newEnv scope s.heap.objs.size globals (cellsFrom (s.heap.objs.size+1) scope.names cl) qual func code (some env) builtins) { s with heap:=pushCells (s.heap.push { cls:=.type "dict",data:=.dict #[] }) scope.names }) :
    wpAny M A (newFunctionEnv scope globals cl [] qual func code (some env) builtins) Q E s:=by
  simp only [newFunctionEnv,Option.isSome_some,if_true]
  refine wpAny_bind (wpAny_alloc ?_)
  refine wpAny_bind (wpAny_layCells _ (fun name kind cells=>by cases ZW:kind==NameKind.cell<;>simp [ZW]) _ _ _ _ ?_)
  rw [show ({ s with heap:=s.heap.push { cls:=.type "dict",data:=.dict #[] } }:Shared).heap.objs.size=s.heap.objs.size+1 from Heap.size_push ..]
  rw [List.forIn_nil]
  exact wpAny_bind (wpAny_pure (wpAny_pure hQ))
def cH (X:Cx) (own:List Str) (fr:List Nat) (sc:Scope) (cl:List (Str×Addr)) (C:Addr) (s:Shared) (H:Hp) (ex:List Addr) (pn:List (Addr×Obj)):Cx where
  prog:=X.prog
  w:=X.w
  K:=X.K
  mg:=X.mg
  base:=X.base
  A:=X.A
  N:=own++fr.map fun j=>X.N.getD j ""
  cQ:=s
  qq:=H
  env:=compEnvC sc (cellsFrom (C+1) sc.names cl) C X.env
  outer:=X.stack
  stack:=X.stack
  ex:=ex
  fn:=fun y=>(cl.lookup y).isNone
  calm:=X.calm
  pn:=pn
  xe:=cu
def pL (own:List Str) (fr:List Nat) (σ:St):St:=own.map (fun _=>none)++fr.map fun j=>(σ[j]?).join
structure gU (X:Cx) (sc:Scope) (cl:List (Str×Addr)) (fr:List Nat):Prop where
  HY:closureFor sc X.env=pure cl
  kind:sc.kind=.function
  cells:∀ y,(y,NameKind.cell) ∈ sc.names->cl.lookup y=none
  names:∀ y ∈ sc.names,y.2=.local->sc.names.lookup y.1=some .local
  sub:∀ y c,cl.lookup y=some c->X.env.cells.lookup y=some c
  has:∀ y,((relabel sc X.env).names.lookup y=some .cell\/(relabel sc X.env).names.lookup y=some .free)->(∃ c,cl.lookup y=some c)\/(y,NameKind.cell) ∈ sc.names
  ZX:∀ j ∈ fr,∃ y,X.N[j]?=some y/\((relabel sc X.env).names.lookup y=some .cell\/(relabel sc X.env).names.lookup y=some .free)/\ig X.env.scope y/\X.env.scope.names.lookup y ≠ some .local/\∃ c,cl.lookup y=some c
def zj (wi:TI) (g:TG) (tt:TT) (te:TE) (own:List Str) (fr:List Nat):TE:=fun σ H Q=>wi σ H fun J H1=>∀ acc,H1 acc=none ->
  ∃ W:Nat->Nat->List V->St->Hp->Prop,(∃ m,W 0 m [] (pL own fr σ) (upd H1 acc (.lst [])))/\∀ i m ys aJ H2,W i m ys aJ H2->H2 acc=some (.lst ys)/\ys.length<sizeLine /\
    ((J.stop i H2/\Q (.ref acc) H2)\/(J.go i H2/\∃ N:List V->St->Hp->Prop,(∀ zs dI H3,N zs dI H3->∃ m',m'<m/\W (i+1) m' zs dI H3) /\
      ∀ x H3,J.t9 i H2 x H3->g x aJ H3 fun dI H4=>tt dI H4 fun b H5=>if b=true then te dI H5 (fun y H6=>H6 acc=some (.lst ys)/\N (ys++[y]) dI (upd H6 acc (.lst (ys++[y])))) else N ys dI H5))
theorem Qt {N:List Str} {j:Nat} {y:Str} (h:N[j]?=some y):N.getD j "" = y:=by rw [List.getD_eq_getElem?_getD,h];rfl
theorem lcInv {X:Cx} {pins:List (Addr×Obj)} {σ:St} {H:Hp} {s:Shared} {sc:Scope} {cl:List (Str×Addr)} {own:List Str} {fr:List Nat} {fp:List Addr} {h4:Heap} {tk:Nat}
    (L:gU X sc cl fr) (I:Inv X pins σ H s) (uj:∀ b ∈ fp,fS X pins H b) (bx:∀ b ∈ fp,b<s.heap.objs.size) (iu:h4.Ns s.heap.objs.size fun _=>none)
    (kp:∀ b o,s.heap.get? b=some o->h4.get? b=some o) (lK:∀ y c,(cellsFrom (s.heap.objs.size+1) sc.names cl).lookup y=some c->cl.lookup y=some c\/h4.IsCell c none):Inv (cH X own fr sc cl s.heap.objs.size s H fp (X.pn++pins)) [] (pL own fr σ) H { s with heap:=h4,toks:=tk }:=by
  have ZY:∀ {b:Addr} {o:Obj},s.heap.get? b=some o->b ≠ s.heap.objs.size:=fun e=>Nat.ne_of_lt (Heap.lt_size e)
  have hex:∀ b ∈ (cH X own fr sc cl s.heap.objs.size s H fp (X.pn++pins)).ex,b ∈ fp:=fun b z=>z
  have lz:∀ b,b ≠ X.env.locals->b ∉ X.fs->b ∉ cU X.stack:=fun b h1 h2 z=>(List.mem_cons.mp (I.pV b z)).elim h1 h2
  have Fv:∀ y c,cl.lookup y=some c->∃ v,s.heap.IsCell c v:=fun y c e=>I.cell y c (L.sub y c e)
  have split:∀ y c,(cellsFrom (s.heap.objs.size+1) sc.names cl).lookup y=some c->cl.lookup y=some c\/s.heap.objs.size+1<=c:=fun y c e=>(pd _ _ _ y c e).imp id And.left
  refine ⟨⟨I.ok.mod,L.kind,I.ok.glob,I.ok.blt,Nat.le_refl _,xG _ _ _ (fun y c e=>by obtain ⟨v,q⟩:=Fv y c e;exact Nat.lt_succ_of_lt q.lt) (fun y z c h1 h2=>I.ok.inj y z c (L.sub y c h1) (L.sub z c h2)),fun y hy=>(L.has y hy).elim (pK _ _ _ y) (sO _ _ _ y),fun y c hy e=>?_,I.ok.hd,I.ok.frames,.inl rfl,
      fun b hb=>⟨Nat.ne_of_lt (bx b (hex b hb)),fun y c e=>(split y c e).elim (fun q=>(uj b (hex b hb)).2.2.2.2.1 y c (L.sub y c q)) fun q=>Nat.ne_of_gt (Nat.lt_of_lt_of_le (bx b (hex b hb)) (Nat.le_of_succ_le q))⟩,I.bs,Nat.le_trans I.ok.lA I.sz,fun b o e z=>?_,fun b z=>?_,I.stack,I.Eh⟩,
    rfl,I.bare,Un.kept kp,⟨_,iu,fun i y v h1 h2 h3=>?_⟩,fun y c e=>?_,I.aF.fresh (Nat.le_refl _),fun y c e=>(split y c e).elim (fun q=>I.iL y c (L.sub y c q)) fun q=>I.aF.fresh (Nat.le_of_succ_le q),fun p hp=>?_,I.aF.kept kp,?_⟩
  · have cf:(cl.lookup y).isNone=true:=hy
    rcases split y c e with q | q
    · rw [q] at cf
      cases cf
    · exact Nat.le_of_succ_le q
  · rcases (uj b (hex b z)).2.2.2.1 with q | q
    · exact I.ok.qu b o e q
    · exact absurd (Nat.lt_of_lt_of_le (Heap.lt_size (I.ok.bs b o e).1) q) (Nat.lt_irrefl _)
  · exact lz b (uj b (hex b z)).2.1 (uj b (hex b z)).2.2.1
  · have jB:(own++fr.map fun j=>X.N.getD j "")[i]?=some y:=h1
    have jC:(own.map (fun _=>none)++fr.map fun j=>(σ[j]?).join)[i]?=some (some v):=h2
    by_cases hi:i<own.length
    · rw [List.getElem?_append_left (by simpa using hi),List.getElem?_map] at jC
      cases q:own[i]? with
      | none=>rw [q] at jC;cases jC
      | some z=>rw [q] at jC;cases jC
    · rw [List.getElem?_append_right (by omega),List.getElem?_map] at jB
      rw [List.getElem?_append_right (by simpa using hi),List.getElem?_map,List.length_map] at jC
      cases q:fr[i-own.length]? with
      | none=>rw [q] at jB;cases jB
      | some j =>
        rw [q] at jB jC
        obtain ⟨y',n1,n2,n3,n4,c',e'⟩:=L.ZX j (List.mem_of_getElem? q)
        have ey:y'=y:=by
          have this:X.N.getD j "" = y:=Option.some.inj jB
          rw [Qt n1] at this
          exact this
        subst ey
        have ev : σ[j]?=some (some v):=by
          have z:(σ[j]?).join=some v:=Option.some.inj jC
          cases q2 : σ[j]? with
          | none=>rw [q2] at z;cases z
          | some o=>rw [q2] at z;exact congrArg some z
        obtain ⟨m,_,hl⟩:=I.loc
        obtain ⟨u,r,l⟩:=hl j y' v n1 ev n3
        refine ⟨u,r,.inr ⟨n2,?_⟩⟩
        rcases l with ⟨k,_⟩ | ⟨_,c,e,z⟩
        · exact absurd k n4
        · have:=L.sub y' c' e'
          rw [e] at this
          cases this
          obtain ⟨o,ho,hd⟩:=z
          exact ⟨_,(xF _ _ _ y' fun z=>by rw [L.cells y' z] at e';cases e').trans e',o,kp _ o ho,hd⟩
  · rcases lK y c e with q | q
    · obtain ⟨v,o,ho,hd⟩:=Fv y c q
      exact ⟨v,o,kp c o ho,hd⟩
    · exact ⟨none,q⟩
  · have qP:p ∈ X.pn++pins:=by
      have z:p ∈ (X.pn++pins)++[]:=hp
      simpa using z
    obtain ⟨e,n,ne,nf,d⟩:=I.pin p qP
    exact ⟨kp _ _ e,n,ZY e,lz _ ne nf,d⟩
  · show (own.map (fun _=>(none:Option V))++fr.map fun j=>(σ[j]?).join).length=(own++fr.map fun j=>X.N.getD j "").length
    simp
theorem Tv {X:Cx} {elt tg iter:Expr} {ifs:List Expr} {sc:Scope} {cl:List (Str×Addr)} {own:List Str} {fr:List Nat} {pos:Pos} {wi:TI} {g:TG} {tt:TT} {te:TE}
    (L:gU X sc cl fr) (hc:X.calm=true) (hi:PI X tg iter wi)
    (hg:∀ C s H ex pn,PG (cH X own fr sc cl C s H ex pn) tg g)
    (ht:∀ C s H ex pn (pins:List (Addr×Obj)) (s1:Shared) (aJ:St) (H1:Hp) (Q:Bool->Hp->Prop),Inv (cH X own fr sc cl C s H ex pn) pins aJ H1 s1->tt aJ H1 Q ->
      wpAny (model X.prog X.w) X.A (jc ifs (compEnvC sc (cellsFrom (C+1) sc.names cl) C X.env)) (TP (cH X own fr sc cl C s H ex pn) pins aJ Q) cu s1)
    (he:∀ C s H ex pn,PE (cH X own fr sc cl C s H ex pn) elt te) (hs:∀ x,foldedSetIterable iter X.env x=pure x:=by intro _;rfl) :
    PE X (.ListComp elt [⟨tg,iter,ifs,0⟩] sc pos) (zj wi g tt te own fr):=by
  intro pins s σ H Q I h
  rw [eval_ListComp]
  refine wpAny_comprehension_free (use:=none) rfl hs L.HY L.kind L.names (aD (hi pins s σ H _ I h) fun v s1 h1=>aD h1 fun ua s2 h2=>?_)
  obtain ⟨it,fp,tn,J,H2,e,I2,T,aK,f2,h2⟩:=h2
  subst e
  refine wpAny_newObj_type ?_
  have I3:Inv X pins σ (upd H2 s2.heap.objs.size (.lst [])) { s2 with heap:=s2.heap.push { cls:=.type "list",data:=.seq ([]:List Value).toArray } }:=I2.yK (t':=s2.toks) .nil (Nat.zero_le _)
  have n2:H2 s2.heap.objs.size=none:=I2.fresh
  obtain ⟨W,⟨m0,w0⟩,turn⟩:=h2 _ n2
  have zk:∀ b ∈ fp,b<s2.heap.objs.size:=fun b hb=>by
    obtain ⟨o,eo,_⟩:=T.obj 0 _ aK b hb
    exact Heap.lt_size eo
  have cS:∀ b ∈ fp,fS X pins (upd H2 s2.heap.objs.size (.lst [])) b:=fun b hb=>⟨by rw [bO (Nat.ne_of_lt (zk b hb))];exact (f2 b hb).1,(f2 b hb).2⟩
  generalize gf:({ s2 with heap:=s2.heap.push { cls:=.type "list",data:=.seq ([]:List Value).toArray } }:Shared)=s3 at I3
  have dJ:tn 0 s3.heap:=by
    rw [<- gf]
    exact T.keep 0 _ _ aK fun b hb o eo=>Heap.get?_push_of_some _ eo
  have lL:∀ b ∈ fp,b<s3.heap.objs.size:=fun b hb=>by
    obtain ⟨o,eo,_⟩:=T.obj 0 _ dJ b hb
    exact Heap.lt_size eo
  generalize zm:upd H2 s2.heap.objs.size (.lst [])=H3 at I3 cS w0
  generalize s2.heap.objs.size=acc at turn w0 zm ⊢
  refine C0 ?_
  have iu:(pushCells (s3.heap.push { cls:=.type "dict",data:=.dict #[] }) sc.names).Ns s3.heap.objs.size fun _=>none:=(Heap.Ns.new s3.heap (.type "dict")).keeps (pushCells_keeps _ _)
  have kp:∀ b o,s3.heap.get? b=some o->(pushCells (s3.heap.push { cls:=.type "dict",data:=.dict #[] }) sc.names).get? b=some o:=fun b o eo=>pushCells_keeps _ _ b o (Heap.get?_push_of_some _ eo)
  have lK:∀ y c,(cellsFrom (s3.heap.objs.size+1) sc.names cl).lookup y=some c->cl.lookup y=some c\/(pushCells (s3.heap.push { cls:=.type "dict",data:=.dict #[] }) sc.names).IsCell c none:=fun y c e =>
    sD sc.names (s3.heap.push { cls:=.type "dict",data:=.dict #[] }) cl y c (by rw [Heap.size_push];exact e)
  generalize ZZ:pushCells (s3.heap.push { cls:=.type "dict",data:=.dict #[] }) sc.names=h4 at iu kp lK
  have I4:=lcInv (own:=own) (tk:=s3.toks) L I3 cS lL iu kp lK
  have qQ:tn 0 h4:=T.keep 0 _ _ dJ fun b hb o eo=>kp b o eo
  have stat:∀ {H':Hp},(∀ b ∈ fp,H' b=none)->∀ b ∈ fp,fS (cH X own fr sc cl s3.heap.objs.size s3 H3 fp (X.pn++pins)) [] H' b:=fun {H'} hn b hb =>
    ⟨hn b hb,Nat.ne_of_lt (lL b hb),fun z=>(List.mem_cons.mp (I3.pV b z)).elim (cS b hb).2.1 (cS b hb).2.2.1,.inl hb,fun y c e=>(pd _ _ _ y c e).elim (fun q=>(cS b hb).2.2.2.2.1 y c (L.sub y c q)) fun q=>Nat.ne_of_gt (Nat.lt_of_lt_of_le (lL b hb) (Nat.le_of_succ_le q.1)),fun p hp=>(cS b hb).2.2.2.2.2 p (by
      have z:p ∈ (X.pn++pins)++[]:=hp
      simpa using z)⟩
  have loop:codeAny (model X.prog X.w) X.A (.compLoop (.ListComp elt [⟨tg,iter,ifs,0⟩] sc pos) 0 (.ref it) (.ref acc) (compEnvC sc (cellsFrom (s3.heap.objs.size+1) sc.names cl) s3.heap.objs.size X.env))
      (compPost (model X.prog X.w) X.A X.xe none (EP X pins σ Q) (.ref acc) s3.heap.objs.size) { s3 with heap:=h4,toks:=s3.toks }:=by
    refine Fu (fun n s'=>∃ i ys aJ H1,Inv (cH X own fr sc cl s3.heap.objs.size s3 H3 fp (X.pn++pins)) [] aJ H1 s'/\tn i s'.heap/\(∀ b ∈ fp,H1 b=none)/\W i n ys aJ H1) ?_ m0 ⟨0,[],_,H3,I4,qQ,fun b hb=>(cS b hb).1,w0⟩
    rintro n s5 ⟨i,ys,jD,H5,I5,jy,lH,w5⟩
    obtain ⟨jq,hlen,hh⟩:=turn i n ys jD H5 w5
    rcases hh with ⟨stop,qn⟩ | ⟨go,N,hN,step⟩
    · refine aD (T.done (cH X own fr sc cl s3.heap.objs.size s3 H3 fp (X.pn++pins)) rfl rfl rfl hc i [] s5 jD H5 cu I5 (stat lH) jy stop) fun r s6 ⟨hr,I6⟩=>?_
      subst hr
      obtain ⟨m6,zo,_⟩:=id I6.loc
      refine ⟨m6,zo,fun h7 jE=>⟨.ref acc,H5,?_,rfl,qn⟩⟩
      have old:∀ b o,s3.heap.get? b=some o->b ≠ s3.heap.objs.size:=fun b o eo=>Nat.ne_of_lt (Heap.lt_size eo)
      have u6:Un (cU X.stack) fp H3 H5 s3.heap s6.heap:=I6.base
      have u7:Un (cU X.stack) fp H3 H5 s3.heap h7 :=
        ⟨fun b o eo nn hb hx=>(jE.2 b (old b o eo)).trans (u6.keep b o eo nn hb hx),fun b o eo nn hb hx=>by
          obtain ⟨sl,q⟩:=u6.slot b o eo nn hb hx
          exact ⟨sl,(jE.2 b (old b o eo)).trans q⟩,u6.free,fun b o eo hx=>by
          obtain ⟨o',q⟩:=u6.there b o eo hx
          exact ⟨o',(jE.2 b (old b o eo)).trans q⟩,u6.iO,u6.hG,u6.iP⟩
      have fC:H5 s3.heap.objs.size=none:=I6.free
      have yN:cA X.prog X.w H5 h7:=fun b ob eb=>by
        refine (I6.aF b ob eb).jm (fun c w' gO q=>(jE.2 c ?_).trans q) (fun _ q=>q) fun _ _ q=>q
        rintro rfl
        rcases gO with z | z
        · rw [<- z,fC] at eb;cases eb
        · rw [fC] at z;cases z
      exact I3.GR (s':={ s6 with heap:=h7 }) I6.os u7 yN I6.bare fun b hb=>⟨(cS b hb).2.2.2.1,(cS b hb).2.1,(cS b hb).2.2.2.2.1,(cS b hb).2.2.2.2.2⟩
    · refine aD (T.item (cH X own fr sc cl s3.heap.objs.size s3 H3 fp (X.pn++pins)) rfl rfl rfl hc i [] s5 jD H5 cu I5 (stat lH) jy go) fun r s6 ⟨u,hr,h6⟩=>?_
      subst hr
      refine aD h6 fun _ s7 ⟨x,H7,I7,r7,y7,lM,zp⟩=>?_
      have zq:=I7.pinned (stat zp) (T.obj _ _ lM)
      refine aD (hg _ _ _ _ _ _ s7 jD H7 x u _ zq r7 (step x H7 y7)) fun _ s8 ⟨jF,H8,I8,q8⟩=>?_
      have again:∀ {zs:List V} {iw:St} {H9:Hp} {s9:Shared},Inv (cH X own fr sc cl s3.heap.objs.size s3 H3 fp (X.pn++pins)) ([]++nQ fp s7.heap) iw H9 s9->N zs iw H9 ->
          ∃ m,m<n/\∃ i ys aJ H1,Inv (cH X own fr sc cl s3.heap.objs.size s3 H3 fp (X.pn++pins)) [] aJ H1 s9/\tn i s9.heap/\(∀ b ∈ fp,H1 b=none)/\W i m ys aJ H1:=fun {zs iw H9 s9} I9 n9=>by
        obtain ⟨m',hm,w9⟩:=hN zs iw H9 n9
        refine ⟨m',hm,i+1,zs,iw,H9,I9.pB,T.keep _ _ _ lM fun b hb o e=>(I9.pin (b,o) (List.mem_append_right _ (List.mem_append_right _ (mY hb e)))).1,fun b hb=>?_,w9⟩
        obtain ⟨o,e,d⟩:=T.obj _ _ lM b hb
        exact (I9.pin (b,o) (List.mem_append_right _ (List.mem_append_right _ (mY hb e)))).2.1
      refine aD (ht _ _ _ _ _ _ s8 jF H8 _ I8 q8) fun ok s9 ⟨H9,I9,q9⟩=>?_
      cases ok with
      | false=>exact again I9 (by simpa using q9)
      | true =>
        refine aD (he _ _ _ _ _ _ s9 jF H9 _ I9 q9) fun z zr ⟨y,zt,zu,zv,lN,zx⟩=>?_
        refine aD (rR _ zr jF zt (.ref acc) [y] (.ref acc) [z] (fun _ H'=>N (ys++[y]) jF H') zu rfl (.cons zv .nil) ⟨acc,ys,y,rfl,rfl,lN,hlen,zx⟩) fun _ Z0 ⟨_,Z1,zy,_,zC⟩=>again zy zC
  rw [<- gf] at loop ⊢
  exact codeAny_compStart_list loop (zi (T.self _ 0 _ _ _ qQ (by rw [gf];rw [gf] at loop;exact loop)))
end L2
namespace L2
open PySem PySem.Spec PyProof.Rows
theorem Qu {n:Int} {k:Nat} (h:n.natAbs<2 ^ k) (hk : 0<k):n.natAbs.log2<k:=by
  by_cases z:n.natAbs=0
  · rw [z]
    show Nat.log2 0<k
    rw [Nat.log2_zero]
    exact hk
  · exact (Nat.log2_lt z).mpr h
section
variable {X:Cx}
def Hj (i j:Int):Prop:=i.natAbs<2 ^ 8000/\j.natAbs<2 ^ 8000
theorem Qv:cD X (binaryOp .Mult) (rI Hj fun i j=>.int (i*j)):=ud fun _ _ _ _ _ _ _ hc q =>
  mul_int q (IntMulOk.of_le (intBits_le_iff.mpr hc.1) (intBits_le_iff.mpr hc.2) (by decide))
def tv (_ j:Int):Prop:=0<j/\j.natAbs<2 ^ 8000
theorem Pl:cD X (binaryOp .FloorDiv) (rI tv fun i j=>.int (i / j)):=ud fun i j _ _ _ _ _ hc q=>by
  have h1:(0:Int)<j:=hc.1
  refine floordiv_int (by omega) (by rw [Int.fdiv_eq_ediv_of_nonneg i (by omega)];exact q) (.inl (PyProof.noPylong_of_log2 ?_))
  exact Nat.lt_trans (Qu hc.2 (by decide)) (by decide)
theorem NW {hi c:Int} (h0 : 0<=hi) (h1:hi<2 ^ 30) (c0 : 0<c) (c1:c<2 ^ 30):Builtin.Range.small 0 hi c=true:=by
  unfold Builtin.Range.small
  rw [rangeSize_pos (by omega) h0]
  have a0 : 0<=(hi+c-1) / c:=Int.ediv_nonneg (by omega) (by omega)
  have a1:(hi+c-1) / c*c<=hi+c-1:=Int.ediv_mul_le _ (by omega)
  have a2:(hi+c-1) / c<=hi+c-1:=Int.ediv_le_self _ (by omega)
  have a3:(0:Int)<=(hi+c-1) / c*c:=Int.mul_nonneg a0 (by omega)
  have cc:c > 0:=c0
  simp only [Builtin.Range.rangeFitsLong,Bool.and_eq_true,Bool.or_eq_true,decide_eq_true_eq,beq_iff_eq,cc,if_true]
  generalize (hi+c-1) / c*c=p at *
  generalize (hi+c-1) / c=q at *
  omega
end
end L2
namespace L2
open PySem PySem.Spec PyProof.Rows
inductive Dv where
  | fl (v:V)
  | lst (ds:List Dv)
  | tup (ds:List Dv)
mutual
def bV:Dv->Dv->Bool
  | .fl x,.fl y=>fm x y
  | .lst a,.lst b=>eW a b
  | .tup a,.tup b=>eW a b
  | _,_=>false
def eW:List Dv->List Dv->Bool
  | [],[] => true
  | x::r,y::q=>bV x y&&eW r q
  | _,_=>false
end
mutual
def cW:Dv->Nat
  | .fl _=>0
  | .lst a=>cR a+1
  | .tup a=>cR a+1
def cR:List Dv->Nat
  | [] => 0
  | x::r=>max (cW x) (cR r)
end
mutual
def Hv (K:PySem.W.Frag) (H:Hp):Dv->V->Prop
  | .fl v,x=>x=v/\eE v=true
  | .lst ds,x=>∃ a xs,x=.ref a/\bj K H a xs/\aX K H ds xs
  | .tup ds,x=>∃ a xs,x=.ref a/\cB K H a xs/\aX K H ds xs
def aX (K:PySem.W.Frag) (H:Hp):List Dv->List V->Prop
  | [],xs=>xs=[]
  | d::ds,xs=>∃ x r,xs=x::r/\Hv K H d x/\aX K H ds r
end
theorem DJ {v:V} (h:eE v=true):fm v v=true:=by
  cases v<;>first | rfl | (simp [fm];done) | (exact absurd h (by decide)) | (cases h)
section
variable {X:Cx} {pins:List (Addr×Obj)} {σ:St} {H:Hp} {s:Shared}
theorem DK (I:Inv X pins σ H s) {a:Addr} {xs ys:List V} (h1:bj X.K H a xs) (h2:cB X.K H a ys):False:=by
  obtain ⟨i1,_,p1,_⟩:=I.list h1
  obtain ⟨i2,_,p2,_⟩:=I.tuple h2
  exact SeqAt.ne_of_list_tuple p1.isList p2 rfl
mutual
theorem wZ (I:Inv X pins σ H s):∀ (d e:Dv) (x:V),Hv X.K H d x->Hv X.K H e x->bV d e=true
  | .fl v,.fl w,x,h1,h2=>by
    obtain ⟨rfl,f⟩:=h1
    obtain ⟨rfl,_⟩:=h2
    exact DJ f
  | .fl v,.lst es,x,h1,h2=>by
    obtain ⟨rfl,f⟩:=h1
    obtain ⟨a,xs,rfl,_⟩:=h2
    cases f
  | .fl v,.tup es,x,h1,h2=>by
    obtain ⟨rfl,f⟩:=h1
    obtain ⟨a,xs,rfl,_⟩:=h2
    cases f
  | .lst ds,.fl v,x,h2,h1=>by
    obtain ⟨rfl,f⟩:=h1
    obtain ⟨a,xs,rfl,_⟩:=h2
    cases f
  | .tup ds,.fl v,x,h2,h1=>by
    obtain ⟨rfl,f⟩:=h1
    obtain ⟨a,xs,rfl,_⟩:=h2
    cases f
  | .lst ds,.lst es,x,h1,h2=>by
    obtain ⟨a,xs,rfl,q,r⟩:=h1
    obtain ⟨b,ys,e,q',r'⟩:=h2
    cases e
    have:=I.DH q q'
    subst this
    exact wu I ds es xs r r'
  | .tup ds,.tup es,x,h1,h2=>by
    obtain ⟨a,xs,rfl,q,r⟩:=h1
    obtain ⟨b,ys,e,q',r'⟩:=h2
    cases e
    have:=I.Ox q q'
    subst this
    exact wu I ds es xs r r'
  | .lst ds,.tup es,x,h1,h2=>by
    obtain ⟨a,xs,rfl,q,r⟩:=h1
    obtain ⟨b,ys,e,q',r'⟩:=h2
    cases e
    exact (DK I q q').elim
  | .tup ds,.lst es,x,h1,h2=>by
    obtain ⟨a,xs,rfl,q,r⟩:=h1
    obtain ⟨b,ys,e,q',r'⟩:=h2
    cases e
    exact (DK I q' q).elim
theorem wu (I:Inv X pins σ H s):∀ (ds es:List Dv) (xs:List V),aX X.K H ds xs->aX X.K H es xs->eW ds es=true
  | [],[],_,_,_=>rfl
  | [],e::es,xs,h1,h2=>by
    obtain rfl:xs=[]:=h1
    obtain ⟨x,r,z,_⟩:=h2
    cases z
  | d::ds,[],xs,h1,h2=>by
    obtain rfl:xs=[]:=h2
    obtain ⟨x,r,z,_⟩:=h1
    cases z
  | d::ds,e::es,xs,h1,h2=>by
    obtain ⟨x,r,rfl,a,b⟩:=h1
    obtain ⟨x',r',z,a',b'⟩:=h2
    cases z
    show (bV d e&&eW ds es)=true
    rw [wZ I d e x a a',wu I ds es r b b']
    rfl
end
theorem aX.length {K:PySem.W.Frag} {H:Hp}:∀ {ds:List Dv} {xs:List V},aX K H ds xs->ds.length=xs.length
  | [],xs,h=>by
    obtain rfl:xs=[]:=h
    rfl
  | d::ds,xs,h=>by
    obtain ⟨x,r,rfl,_,b⟩:=h
    rw [List.length_cons,List.length_cons,aX.length b]
theorem ky:∀ {ds es:List Dv},ds.length ≠ es.length->eW ds es=false
  | [],[],h=>absurd rfl h
  | [],_::_,_=>rfl
  | _::_,[],_=>rfl
  | d::ds,e::es,h=>by
    show (bV d e&&eW ds es)=false
    rw [ky (ds:=ds) (es:=es) (by simpa using h),Bool.and_false]
def gF (ds es:List Dv) (j:Nat):Bool:=match ds[j]?,es[j]? with
  | some d,some e=>bV d e
  | _,_=>false
theorem kv:∀ {ds es:List Dv},ds.length=es.length->(List.range ds.length).all (gF ds es)=eW ds es
  | [],[],_=>rfl
  | [],_::_,h=>by cases h
  | _::_,[],h=>by cases h
  | d::ds,e::es,h=>by
    rw [List.length_cons,List.range_succ_eq_map,List.all_cons,List.all_map]
    show (bV d e&&(List.range ds.length).all (gF (d::ds) (e::es) ∘ Nat.succ))=(bV d e&&eW ds es)
    congr 1
    exact kv (ds:=ds) (es:=es) (by simpa using h)
mutual
theorem Sr (I:Inv X pins σ H s):∀ (d e:Dv) (A:Around) (x y:V) (u v:Value),A.units+cW d<cLine->Hv X.K H d x->Hv X.K H e y->RelV x u->RelV y v->SeqAt.EqAt A s u v (bV d e)
  | .fl a,.fl b,A,x,y,u,v,hu,h1,h2,rx,ry=>by
    obtain ⟨rfl,f1⟩:=h1
    obtain ⟨rfl,f2⟩:=h2
    exact Fs rx ry f1 f2
  | .fl a,.lst es,A,x,y,u,v,hu,h1,h2,rx,ry=>by
    obtain ⟨rfl,f1⟩:=h1
    obtain ⟨b,ys,rfl,q,r⟩:=h2
    cases ry
    obtain ⟨af,_,pl,_⟩:=I.list q
    have aQ:A.units<cLine:=hu
    cases x with
    | aN=>cases rx;exact SeqAt.EqAt.none_list pl.isList aQ
    | bl c=>cases rx;exact SeqAt.EqAt.bool_list c pl.isList aQ
    | int c=>obtain ⟨t,rfl⟩:=rx;exact SeqAt.EqAt.int_list c t pl.isList aQ
    | str c=>obtain ⟨t,rfl⟩:=rx;exact SeqAt.EqAt.str_list c t pl.isList aQ
    | _=>cases f1
  | .fl a,.tup es,A,x,y,u,v,hu,h1,h2,rx,ry=>by
    obtain ⟨rfl,f1⟩:=h1
    obtain ⟨b,ys,rfl,q,r⟩:=h2
    cases ry
    obtain ⟨af,_,pl,_⟩:=I.tuple q
    have aQ:A.units<cLine:=hu
    cases x with
    | aN=>cases rx;exact SeqAt.EqAt.none_tuple pl aQ
    | bl c=>cases rx;exact SeqAt.EqAt.bool_tuple c pl aQ
    | int c=>obtain ⟨t,rfl⟩:=rx;exact SeqAt.EqAt.int_tuple c t pl aQ
    | str c=>obtain ⟨t,rfl⟩:=rx;exact SeqAt.EqAt.str_tuple c t pl aQ
    | _=>cases f1
  | .lst ds,.fl b,A,x,y,u,v,hu,h1,h2,rx,ry=>by
    obtain ⟨rfl,f2⟩:=h2
    obtain ⟨a,xs,rfl,q,r⟩:=h1
    cases rx
    obtain ⟨af,_,pl,_⟩:=I.list q
    have aQ:A.units<cLine:=Nat.lt_of_le_of_lt (Nat.le_add_right _ _) hu
    cases y with
    | aN=>cases ry;exact SeqAt.EqAt.list_none pl.isList aQ
    | bl c=>cases ry;exact SeqAt.EqAt.list_bool c pl.isList aQ
    | int c=>obtain ⟨t,rfl⟩:=ry;exact SeqAt.EqAt.list_int c t pl.isList aQ
    | str c=>obtain ⟨t,rfl⟩:=ry;exact SeqAt.EqAt.list_str c t pl.isList aQ
    | _=>cases f2
  | .tup ds,.fl b,A,x,y,u,v,hu,h1,h2,rx,ry=>by
    obtain ⟨rfl,f2⟩:=h2
    obtain ⟨a,xs,rfl,q,r⟩:=h1
    cases rx
    obtain ⟨af,_,pl,_⟩:=I.tuple q
    have aQ:A.units<cLine:=Nat.lt_of_le_of_lt (Nat.le_add_right _ _) hu
    cases y with
    | aN=>cases ry;exact SeqAt.EqAt.tuple_none pl aQ
    | bl c=>cases ry;exact SeqAt.EqAt.tuple_bool c pl aQ
    | int c=>obtain ⟨t,rfl⟩:=ry;exact SeqAt.EqAt.tuple_int c t pl aQ
    | str c=>obtain ⟨t,rfl⟩:=ry;exact SeqAt.EqAt.tuple_str c t pl aQ
    | _=>cases f2
  | .lst ds,.tup es,A,x,y,u,v,hu,h1,h2,rx,ry=>by
    obtain ⟨a,xs,rfl,q,r⟩:=h1
    obtain ⟨b,ys,rfl,q',r'⟩:=h2
    cases rx
    cases ry
    obtain ⟨_,_,p1,_⟩:=I.list q
    obtain ⟨_,_,p2,_⟩:=I.tuple q'
    exact SeqAt.EqAt.list_tuple p1.isList p2 (Nat.lt_of_le_of_lt (Nat.le_add_right _ _) hu)
  | .tup ds,.lst es,A,x,y,u,v,hu,h1,h2,rx,ry=>by
    obtain ⟨a,xs,rfl,q,r⟩:=h1
    obtain ⟨b,ys,rfl,q',r'⟩:=h2
    cases rx
    cases ry
    obtain ⟨_,_,p1,_⟩:=I.tuple q
    obtain ⟨_,_,p2,_⟩:=I.list q'
    exact SeqAt.EqAt.tuple_list p1 p2.isList (Nat.lt_of_le_of_lt (Nat.le_add_right _ _) hu)
  | .lst ds,.lst es,A,x,y,u,v,hu,h1,h2,rx,ry=>by
    obtain ⟨a,xs,rfl,q,r⟩:=id h1
    obtain ⟨b,ys,rfl,q',r'⟩:=id h2
    cases rx
    cases ry
    by_cases cg:a=b
    · subst cg
      rw [wZ I _ _ _ h1 h2]
      exact SeqAt.EqAt.same _
    obtain ⟨i1,v1,p1,_⟩:=I.list q
    obtain ⟨i2,v2,p2,_⟩:=I.list q'
    have aQ:A.units<cLine:=Nat.lt_of_le_of_lt (Nat.le_add_right _ _) hu
    have l1:=r.length
    have l2:=r'.length
    have m1:=v1.length
    have m2:=v2.length
    refine .of_refs cg ?_
    show SeqAt.RcAt A s (.ref a) (.ref b) (eW ds es)
    by_cases hl:ds.length=es.length
    · have z:=SeqAt.RcAt.lists (e:=gF ds es) p1.isList p2.isList (by simp;omega) aQ (fun j g1 g2=>kH I ds es A.in1 xs ys i1 i2 (by show A.units+1+cR ds<cLine;have:A.units+(cR ds+1)<cLine:=hu;omega) r r' v1 v2 j (by simpa using g1) (by simpa using g2))
      rw [List.size_toArray,<- m1,<- l1,kv hl] at z
      exact z
    · rw [ky hl]
      exact .lists_lengths p1.isList p2.isList (by simp;omega) aQ
  | .tup ds,.tup es,A,x,y,u,v,hu,h1,h2,rx,ry=>by
    obtain ⟨a,xs,rfl,q,r⟩:=id h1
    obtain ⟨b,ys,rfl,q',r'⟩:=id h2
    cases rx
    cases ry
    by_cases cg:a=b
    · subst cg
      rw [wZ I _ _ _ h1 h2]
      exact SeqAt.EqAt.same _
    obtain ⟨i1,v1,p1,_⟩:=I.tuple q
    obtain ⟨i2,v2,p2,_⟩:=I.tuple q'
    have aQ:A.units<cLine:=Nat.lt_of_le_of_lt (Nat.le_add_right _ _) hu
    have l1:=r.length
    have l2:=r'.length
    have m1:=v1.length
    have m2:=v2.length
    refine .of_refs cg ?_
    show SeqAt.RcAt A s (.ref a) (.ref b) (eW ds es)
    have z:=SeqAt.RcAt.tuples (e:=gF ds es) p1 p2 aQ (fun j g1 g2=>kH I ds es A.in1 xs ys i1 i2 (by show A.units+1+cR ds<cLine;have:A.units+(cR ds+1)<cLine:=hu;omega) r r' v1 v2 j (by simpa using g1) (by simpa using g2))
    have zz:((List.range (min i1.toArray.size i2.toArray.size)).all (gF ds es)&&i1.toArray.size==i2.toArray.size)=eW ds es:=by
      rw [List.size_toArray,List.size_toArray,<- m1,<- m2,<- l1,<- l2]
      by_cases hl:ds.length=es.length
      · rw [hl,Nat.min_self,<- hl,kv hl];simp [hl]
      · rw [ky hl,beq_eq_false_iff_ne.mpr hl,Bool.and_false]
    rw [zz] at z
    exact z
theorem kH (I:Inv X pins σ H s):∀ (ds es:List Dv) (A:Around) (xs ys:List V) (us vs:List Value),A.units+cR ds<cLine->aX X.K H ds xs->aX X.K H es ys->Vals xs us->Vals ys vs ->
    ∀ (j:Nat) (h1:j<us.length) (h2:j<vs.length),SeqAt.EqAt A s us[j] vs[j] (gF ds es j)
  | [],es,A,xs,ys,us,vs,hu,h1,h2,r1,r2,j,g1,g2=>by
    obtain rfl:xs=[]:=h1
    cases r1
    exact absurd g1 (Nat.not_lt_zero _)
  | d::ds,[],A,xs,ys,us,vs,hu,h1,h2,r1,r2,j,g1,g2=>by
    obtain rfl:ys=[]:=h2
    cases r2
    exact absurd g2 (Nat.not_lt_zero _)
  | d::ds,e::es,A,xs,ys,us,vs,hu,h1,h2,r1,r2,j,g1,g2=>by
    obtain ⟨x,r,rfl,a,b⟩:=h1
    obtain ⟨y,q,rfl,a',b'⟩:=h2
    cases r1 with
    | cons c1 t1=>cases r2 with
      | cons c2 t2 =>
        have hm:cR (d::ds)=max (cW d) (cR ds):=rfl
        rw [hm] at hu
        cases j with
        | zero=>exact Sr I d e A x y _ _ (Nat.lt_of_le_of_lt (Nat.add_le_add_left (Nat.le_max_left _ _) _) hu) a a' c1 c2
        | succ j=>exact kH I ds es A r q _ _ (Nat.lt_of_le_of_lt (Nat.add_le_add_left (Nat.le_max_right _ _) _) hu) b b' t1 t2 j (by simpa using g1) (by simpa using g2)
end
def qw (K:PySem.W.Frag) (neg:Bool):R2:=fun x y H Q=>∃ d e,((∃ ds es,d=.lst ds/\e=.lst es)\/∃ ds es,d=.tup ds/\e=.tup es)/\Hv K H d x/\Hv K H e y/\cW d<=50/\Q (.bl (if neg then !bV d e else bV d e)) H
theorem Fw (hr:X.A.units+64<cLine):cD X (compareOp .Eq) (qw X.K false):=by
  intro pins s σ H x y v u Q I rx ry h
  obtain ⟨d,e,hk,h1,h2,hd,q⟩:=h
  have aQ:X.A.units<cLine:=by omega
  rcases hk with ⟨ds,es,rfl,rfl⟩ | ⟨ds,es,rfl,rfl⟩
  · obtain ⟨a,xs,rfl,q1,r⟩:=h1
    obtain ⟨b,ys,rfl,q2,r'⟩:=h2
    cases rx
    cases ry
    obtain ⟨i1,v1,p1,_⟩:=I.list q1
    obtain ⟨i2,v2,p2,_⟩:=I.list q2
    have l1:=r.length
    have l2:=r'.length
    have m1:=v1.length
    have m2:=v2.length
    have qF:cR ds+1<=50:=hd
    by_cases hl:ds.length=es.length
    · refine SeqAt.eq_listAt (e:=gF ds es) p1.isList p2.isList (by simp;omega) aQ (fun j g1 g2=>kH I ds es X.A.in1 xs ys i1 i2 (by show X.A.units+1+cR ds<cLine;omega) r r' v1 v2 j (by simpa using g1) (by simpa using g2)) ?_
      rw [List.size_toArray,<- m1,<- l1,kv hl]
      exact ⟨.bl _,H,I,rfl,q⟩
    · refine SeqAt.eq_list_lengthsAt p1.isList p2.isList (by simp;omega) aQ ⟨.bl _,H,I,rfl,?_⟩
      have z:bV (.lst ds) (.lst es)=false:=ky hl
      rw [z] at q
      exact q
  · obtain ⟨a,xs,rfl,q1,r⟩:=h1
    obtain ⟨b,ys,rfl,q2,r'⟩:=h2
    cases rx
    cases ry
    obtain ⟨i1,v1,p1,_⟩:=I.tuple q1
    obtain ⟨i2,v2,p2,_⟩:=I.tuple q2
    have l1:=r.length
    have l2:=r'.length
    have m1:=v1.length
    have m2:=v2.length
    have qF:cR ds+1<=50:=hd
    refine SeqAt.eq_tupleAt (e:=gF ds es) p1 p2 aQ (fun j g1 g2=>kH I ds es X.A.in1 xs ys i1 i2 (by show X.A.units+1+cR ds<cLine;omega) r r' v1 v2 j (by simpa using g1) (by simpa using g2)) ⟨.bl _,H,I,rfl,?_⟩
    have zz:((List.range (min i1.toArray.size i2.toArray.size)).all (gF ds es)&&i1.toArray.size==i2.toArray.size)=eW ds es:=by
      rw [List.size_toArray,List.size_toArray,<- m1,<- m2,<- l1,<- l2]
      by_cases hl:ds.length=es.length
      · rw [hl,Nat.min_self,<- hl,kv hl];simp [hl]
      · rw [ky hl,beq_eq_false_iff_ne.mpr hl,Bool.and_false]
    rw [zz]
    exact q
theorem Ss (hr:X.A.units+64<cLine):cD X (compareOp .NotEq) (qw X.K true):=by
  intro pins s σ H x y v u Q I rx ry h
  obtain ⟨d,e,hk,h1,h2,hd,q⟩:=h
  have aQ:X.A.units<cLine:=by omega
  rcases hk with ⟨ds,es,rfl,rfl⟩ | ⟨ds,es,rfl,rfl⟩
  · obtain ⟨a,xs,rfl,q1,r⟩:=h1
    obtain ⟨b,ys,rfl,q2,r'⟩:=h2
    cases rx
    cases ry
    obtain ⟨i1,v1,p1,_⟩:=I.list q1
    obtain ⟨i2,v2,p2,_⟩:=I.list q2
    have l1:=r.length
    have l2:=r'.length
    have m1:=v1.length
    have m2:=v2.length
    have qF:cR ds+1<=50:=hd
    by_cases hl:ds.length=es.length
    · refine SeqAt.RcNeAt.lists (e:=gF ds es) p1.isList p2.isList (by simp;omega) aQ (fun j g1 g2=>kH I ds es X.A.in1 xs ys i1 i2 (by show X.A.units+1+cR ds<cLine;omega) r r' v1 v2 j (by simpa using g1) (by simpa using g2)) _ _ _ _ ?_
      rw [List.size_toArray,<- m1,<- l1,kv hl]
      exact ⟨.bl _,H,I,rfl,q⟩
    · refine SeqAt.RcNeAt.lists_lengths p1.isList p2.isList (by simp;omega) aQ _ _ _ _ ⟨.bl _,H,I,rfl,?_⟩
      have z:bV (.lst ds) (.lst es)=false:=ky hl
      rw [z] at q
      exact q
  · obtain ⟨a,xs,rfl,q1,r⟩:=h1
    obtain ⟨b,ys,rfl,q2,r'⟩:=h2
    cases rx
    cases ry
    obtain ⟨i1,v1,p1,_⟩:=I.tuple q1
    obtain ⟨i2,v2,p2,_⟩:=I.tuple q2
    have l1:=r.length
    have l2:=r'.length
    have m1:=v1.length
    have m2:=v2.length
    have qF:cR ds+1<=50:=hd
    refine SeqAt.RcNeAt.tuples (e:=gF ds es) p1 p2 aQ (fun j g1 g2=>kH I ds es X.A.in1 xs ys i1 i2 (by show X.A.units+1+cR ds<cLine;omega) r r' v1 v2 j (by simpa using g1) (by simpa using g2)) _ _ _ _ ⟨.bl _,H,I,rfl,?_⟩
    have zz:((List.range (min i1.toArray.size i2.toArray.size)).all (gF ds es)&&i1.toArray.size==i2.toArray.size)=eW ds es:=by
      rw [List.size_toArray,List.size_toArray,<- m1,<- m2,<- l1,<- l2]
      by_cases hl:ds.length=es.length
      · rw [hl,Nat.min_self,<- hl,kv hl];simp [hl]
      · rw [ky hl,beq_eq_false_iff_ne.mpr hl,Bool.and_false]
    rw [zz]
    exact q
end
end L2
namespace L2
open PySem PySem.Spec PyProof.Rows
structure ou (K:PySem.W.Frag) (x qual:Str) (st:Stmt) (dV:Value) (f:Addr) (fd:FuncData):Prop where
  ex:∃ (oc:Value) (od:Option Addr) (kV doc pm:Value) (an:Option Addr) (bE ct:Value) (fZ:Array (Option Value)),
    fd=PySem.W.fnOf x qual (aV st) (aT st) (aw st) dV kV doc pm an bE ct/\K.lookup f=some ⟨oc,od,.func fd,fZ⟩/\PySem.W.codeIn K bE qual=true
  kp:PySem.W.keepIn K (.ref f)=true
structure Kn (P:Program) (w:World) (K:PySem.W.Frag) (mg:Str->Option Value) (base:Heap) (CX:fH) (k:Nat) (x:Str) (f:Addr) (fd:FuncData) (ps:List Str) (sp:Sp):Prop where
  ok:aP P w K mg base CX k f fd ps sp
  JP:mg x=some (.ref f)
  kp:PySem.W.keepIn K (.ref f)=true
  bd:Binds K fd ps []
section
variable {P:Program} {w:World} {K:PySem.W.Frag} {mg:Str->Option Value} {base:Heap}
theorem ou.ok {x qual:Str} {st:Stmt} {dV:Value} {f:Addr} {fd:FuncData} {N ps:List Str} {k:Nat} {sp:Sp} (F:ou K x qual st dV f fd) (S:bf N ps (aw st)) (len:∀ vs H Q E,sp vs H Q E->vs.length=ps.length)
    (xZ:∀ (bE:Value) (A:Around) (outer:List Env) (s:Shared) (H:Hp) (vs:List V) (Q:VK) (E:XK),dq k (A.deeper (envOfC qual (aw st) s.heap.objs.size f bE))->sp vs H Q E ->
      ∃ t,eI (jo aj P w K mg base N qual (aw st) f bE A outer s H E).qH (aT st) t/\t { nx:=fun _ H'=>Q .aN H',rt:=Q } (start N vs) H):aP P w K mg base aj (k+1) f fd ps sp:=by
  obtain ⟨oc,od,kV,doc,pm,an,bE,ct,fZ,rfl,lk,ik⟩:=F.ex
  refine Tp lk ik S len fun A outer s H vs Q E hr kh=>?_
  obtain ⟨t,h,q⟩:=xZ bE A outer s H vs Q E hr kh
  exact ⟨t,h.qH,q⟩
theorem Qw {x qual:Str} {st:Stmt} {dV:Value} {f:Addr} {oc:Value} {od an:Option Addr} {fZ:Array (Option Value)} {kV doc pm bE ct:Value} (l:K.lookup f=some ⟨oc,od,.func (PySem.W.fnOf x qual (aV st) (aT st) (aw st) dV kV doc pm an bE ct),fZ⟩)
    (c:PySem.W.codeIn K bE qual=true) (k:PySem.W.keepIn K (.ref f)=true):ou K x qual st dV f (PySem.W.fnOf x qual (aV st) (aT st) (aw st) dV kV doc pm an bE ct):=⟨⟨oc,od,kV,doc,pm,an,bE,ct,fZ,rfl,l,c⟩,k⟩
end
section
variable {X:Cx} {CX:fH} {k:Nat} {f:Addr} {fd:FuncData} {ps:List Str} {sp:Sp} {E:XK} {x:Str} {p pos:Pos} {e:Expr} {es:List Expr} {t:TA}
theorem Tw (F:Kn X.prog X.w X.K X.mg X.base aj k x f fd ps sp) (hr:dq k X.A) (hg:Gl X x) (ha:PA X (e::es) t) (fk:(x==("__debug__" : Str))=false:=by decide)
    (he:starEach (e::es) X.env=(false,eval e X.env)::starEach es X.env:=by rfl) (eZ:(backTo pos (starEach es X.env)).any (·.1)=false:=by rfl) :
    PE X (.Call (.Name x p) (e::es) [] pos) (tu sp [] E0 t):=Eu F.ok hr hg F.JP F.kp F.bd .nil Hi ha fk he eZ
end
def Hk (K:PySem.W.Frag):R2:=fun x y H Q=>∃ l b xs zs,x=.ref l/\y=.ref b/\bj K H l xs/\bj K H b zs/\xs.length+zs.length<=sizeLine/\∀ p,H p=none->Q (.ref p) (upd H p (.lst (xs++zs)))
end L2
namespace L2
open PySem PySem.Spec PyProof.Rows
section
variable {Y:Cx} {c:Expr} {tt:TT}
theorem Tx (pins:List (Addr×Obj)) (s1:Shared) (aJ:St) (H1:Hp) (Q:Bool->Hp->Prop) (I:Inv Y pins aJ H1 s1) (h:Q true H1):wpAny (model Y.prog Y.w) Y.A (jc [] Y.env) (TP Y pins aJ Q) cu s1 :=
  wpAny_pure ⟨H1,I,h⟩
theorem Tz (ht:PT Y c tt) (hx:Y.xe=cu) (pins:List (Addr×Obj)) (s1:Shared) (aJ:St) (H1:Hp) (Q:Bool->Hp->Prop) (I:Inv Y pins aJ H1 s1) (h:tt aJ H1 Q):wpAny (model Y.prog Y.w) Y.A (jc [c] Y.env) (TP Y pins aJ Q) cu s1:=by
  have z:=ht pins s1 aJ H1 Q I h
  rw [hx] at z
  unfold jc
  rw [List.forIn_cons]
  simp only [if_true]
  refine wpAny_bind (wpAny_bind (aD z fun b s2 q=>wpAny_pure ?_))
  exact wpAny_pure q
end
def Qx:TT:=fun _ H Q=>Q true H
section
variable {X:Cx}
theorem Qy:cD X (binaryOp .Add) (Hk X.K):=by
  intro pins s σ H x y v u Q I rx ry h
  obtain ⟨l,b,xs,zs,rfl,rfl,hH,hB,hz,q⟩:=h
  cases rx
  cases ry
  obtain ⟨af,r,⟨⟨cl,dd,da,sl⟩,n,e,c1,c2,d1⟩,z⟩:=I.list hH
  obtain ⟨jZ,r2,⟨⟨cl2,Z2,da2,zD⟩,n2,e2,c3,c4,d2⟩,z2⟩:=I.list hB
  simp only at c1 d1 c3 d2
  subst c1 d1 c3 d2
  have l1:=r.length
  have l2:=r2.length
  refine concat_meets ⟨_,e,rfl⟩ ⟨_,e2,rfl⟩ noFill_list_add seq_list_add PySem.F.slot_list_add PySem.F.entry_list_add (PySem.F.args_list_add_2 _ _) (list_addW l b af.toArray jZ.toArray n n2 dd Z2 sl zD (by simp;omega)) ⟨e,e2,?_⟩
  have ea:af.toArray++jZ.toArray=(af++jZ).toArray:=by simp
  rw [ea]
  exact ⟨.ref _,_,I.yK (t':=s.toks) (r.append r2) (by rw [List.length_append];omega),rfl,q _ I.fresh⟩
end
end L2
namespace L2
open PySem
theorem Ms:bootBuiltins "isinstance" = some (.builtin "isinstance"):=by decide +kernel
theorem Su:bootBuiltins "abs" = some (.builtin "abs"):=by decide +kernel
theorem Fx:bootBuiltins "len" = some (.builtin "len"):=by decide +kernel
theorem vU:bootBuiltins "sorted" = some (.builtin "sorted"):=by decide +kernel
theorem Sv:bootBuiltins "any" = some (.builtin "any"):=by decide +kernel
theorem Sw:bootBuiltins "int" = some (.type "int"):=by decide +kernel
theorem Qz:bootBuiltins "bool" = some (.type "bool"):=by decide +kernel
theorem w4:bootBuiltins "list" = some (.type "list"):=by decide +kernel
theorem Pm:bootBuiltins "tuple" = some (.type "tuple"):=by decide +kernel
theorem MZ:bootBuiltins "enumerate" = some (.type "enumerate"):=by decide +kernel
end L2
namespace L2
open PySem PySem.Spec PyProof.Rows
def eG (cells:List (Str×Addr)):List (Str×NameKind)->List (Str×Addr)->List (Str×Addr)
  | [],cs=>cs
  | (n,k)::r,cs=>eG cells r (if k==.free then (n,(cells.lookup n).getD 0)::cs else cs)
theorem EA {sc:Scope} {env:Env} (h:∀ p ∈ sc.names,p.2=.free->∃ c,env.cells.lookup p.1=some c):closureFor sc env=pure (eG env.cells sc.names []):=by
  have key:∀ (names:List (Str×NameKind)) (cs:List (Str×Addr)),(∀ p ∈ names,p.2=.free->∃ c,env.cells.lookup p.1=some c) ->
      (forIn names cs fun x t=>match x with
        | (name,kind)=>if (kind==NameKind.free)=true then do
              let a <- cellOf env name
              pure (ForInStep.yield ((name,a)::t))
            else pure (ForInStep.yield t))=(pure (eG env.cells names cs):Sem (List (Str×Addr))):=by
    intro names
    induction names with
    | nil=>intro cs _;rfl
    | cons p r ih =>
      intro cs hp
      obtain ⟨n,k⟩:=p
      rw [List.forIn_cons]
      cases hk:k==NameKind.free with
      | true =>
        obtain ⟨c,hc⟩:=hp (n,k) (.head _) (beq_iff_eq.mp hk)
        have gO:env.cells.lookup n=some c:=hc
        have e1:cellOf env n=pure c:=by unfold cellOf;rw [gO]
        have e2:eG env.cells ((n,k)::r) cs=eG env.cells r ((n,c)::cs):=by
          show eG env.cells r (if (k==NameKind.free)=true then _ else _)=_
          rw [hk,gO,if_pos rfl]
          rfl
        rw [e2,<- ih ((n,c)::cs) fun q hq=>hp q (.tail _ hq)]
        simp only [hk,if_true,e1]
        rfl
      | false =>
        have e2:eG env.cells ((n,k)::r) cs=eG env.cells r cs:=by
          show eG env.cells r (if (k==NameKind.free)=true then _ else _)=_
          rw [hk,if_neg (by decide)]
        rw [e2,<- ih cs fun q hq=>hp q (.tail _ hq)]
        simp only [hk,Bool.false_eq_true,if_false]
        rfl
  simp only [closureFor]
  rw [key sc.names [] h]
  rfl
theorem vV {cells:List (Str×Addr)}:∀ (names:List (Str×NameKind)) (cs:List (Str×Addr)),(∀ p ∈ names,p.2=.free->∃ c,cells.lookup p.1=some c)->(∀ y c,cs.lookup y=some c->cells.lookup y=some c) ->
    ∀ y c,(eG cells names cs).lookup y=some c->cells.lookup y=some c
  | [],_,_,h=>h
  | (n,k)::r,cs,hp,h=>by
    refine vV r _ (fun q hq=>hp q (.tail _ hq)) fun y c e=>?_
    split at e
    · rename_i hk
      obtain ⟨c0,hc⟩:=hp (n,k) (.head _) (beq_iff_eq.mp hk)
      have gO:cells.lookup n=some c0:=hc
      rw [List.lookup_cons] at e
      split at e
      · rename_i hy
        have:y=n:=beq_iff_eq.mp hy
        subst this
        rw [gO] at e
        cases e
        exact gO
      · exact h y c e
    · exact h y c e
theorem C6 {cells:List (Str×Addr)}:∀ (names:List (Str×NameKind)) (cs:List (Str×Addr)) (y:Str),(∃ c,cs.lookup y=some c)->∃ c,(eG cells names cs).lookup y=some c
  | [],_,_,h=>h
  | (n,k)::r,cs,y,⟨c,h⟩=>by
    refine C6 r _ y ?_
    split
    · rw [List.lookup_cons]
      split
      · exact ⟨_,rfl⟩
      · exact ⟨c,h⟩
    · exact ⟨c,h⟩
theorem nc {cells:List (Str×Addr)}:∀ (names:List (Str×NameKind)) (cs:List (Str×Addr)) (y:Str),(y,NameKind.free) ∈ names->∃ c,(eG cells names cs).lookup y=some c
  | [],_,_,h=>nomatch h
  | (n,k)::r,cs,y,h=>by
    rcases List.mem_cons.mp h with e | h
    · have e1:y=n:=congrArg (·.1) e
      have e2:NameKind.free=k:=congrArg (·.2) e
      subst e1 e2
      refine C6 r _ _ ?_
      rw [if_pos (by decide),List.lookup_cons_self]
      exact ⟨_,rfl⟩
    · exact nc r _ y h
theorem mem_of_lookup {κ β:Type} [BEq κ] [LawfulBEq κ] {l:List (κ × β)} {y : κ} {k : β} (h:l.lookup y=some k):(y,k) ∈ l:=by
  induction l with
  | nil=>cases h
  | cons p r ih =>
    obtain ⟨n,b⟩:=p
    rw [List.lookup_cons] at h
    split at h
    · rename_i hy
      have:y=n:=beq_iff_eq.mp hy
      subst this
      cases h
      exact .head _
    · exact .tail _ (ih h)
section
variable {CX:fH} {P:Program} {w:World} {K:PySem.W.Frag} {mg:Str->Option Value} {base:Heap} {N:List Str} {qual:Str} {bP:Scope} {f:Addr} {cd:Value} {A:Around} {outer:List Env} {s:Shared} {H:Hp} {E:XK} {XE:Value->Shared->Prop}
structure QA (N:List Str) (bP sc:Scope) (fr:List Nat):Prop where
  kind:sc.kind=.function
  Hl:bP.kind=.function
  Sx:∀ y ∈ sc.names,y.2 ≠ .cell
  loc:∀ y ∈ sc.names,y.2=.local->sc.names.lookup y.1=some .local
  lO:∀ y ∈ sc.names,y.2=.free->bP.names.lookup y.1=some .cell
  cU:∀ j ∈ fr,sc.names.lookup (N.getD j "")=some .free/\j<N.length
theorem me {env:Env}:∀ {names:List (Str×NameKind)} {y:Str} {k:NameKind},(names.map fun (n,k)=>if (k==NameKind.free&&env.scope.kind==.function&&env.kindOf n==some .cell) then (n,NameKind.cell) else (n,k)).lookup y=some k ->
    ∃ k0,names.lookup y=some k0/\(k=k0\/(k=.cell/\k0=.free))
  | [],_,_,h=>by cases h
  | (n,k0)::r,y,k,h=>by
    rw [List.map_cons] at h
    simp only at h
    split at h
    · rename_i hc
      rw [List.lookup_cons] at h ⊢
      split at h
      · cases h
        simp only [Bool.and_eq_true,beq_iff_eq] at hc
        exact ⟨k0,rfl,.inr ⟨rfl,hc.1.1⟩⟩
      · exact me h
    · rw [List.lookup_cons] at h ⊢
      split at h
      · cases h
        exact ⟨k0,rfl,.inl rfl⟩
      · exact me h
theorem o5 {env:Env}:∀ {names:List (Str×NameKind)} {y:Str},names.lookup y=some .free ->
    (names.map fun (n,k)=>if (k==NameKind.free&&env.scope.kind==.function&&env.kindOf n==some .cell) then (n,NameKind.cell) else (n,k)).lookup y=some .cell \/
    (names.map fun (n,k)=>if (k==NameKind.free&&env.scope.kind==.function&&env.kindOf n==some .cell) then (n,NameKind.cell) else (n,k)).lookup y=some .free
  | [],_,h=>by cases h
  | (n,k0)::r,y,h=>by
    rw [List.map_cons]
    rw [List.lookup_cons] at h
    simp only
    split at h
    · rename_i hy
      cases h
      split
      · left;rw [List.lookup_cons,hy]
      · right;rw [List.lookup_cons,hy]
    · rename_i hy
      split
      · rw [List.lookup_cons,hy];exact o5 h
      · rw [List.lookup_cons,hy];exact o5 h
structure Pn (N:List Str) (bP sc:Scope) (fr:List Nat):Prop where
  kind:sc.kind=.function
  Hl:bP.kind=.function
  own:∀ y ∈ sc.names,y.2=.cell->∀ z ∈ sc.names,z.2=.free->z.1 ≠ y.1
  loc:∀ y ∈ sc.names,y.2=.local->sc.names.lookup y.1=some .local
  lO:∀ y ∈ sc.names,y.2=.free->bP.names.lookup y.1=some .cell
  cU:∀ j ∈ fr,sc.names.lookup (N.getD j "")=some .free/\j<N.length
theorem vO {cells:List (Str×Addr)}:∀ (names:List (Str×NameKind)) (cs:List (Str×Addr)) (y:Str),(∀ z ∈ names,z.2=.free->z.1 ≠ y)->cs.lookup y=none->(eG cells names cs).lookup y=none
  | [],_,_,_,h=>h
  | (n,k)::r,cs,y,hn,h=>by
    refine vO r _ y (fun z hz=>hn z (.tail _ hz)) ?_
    split
    · rename_i hk
      have oE:n ≠ y:=hn (n,k) (.head _) (beq_iff_eq.mp hk)
      have hb:(y==n)=false:=beq_eq_false_iff_ne.mpr fun e=>oE e.symm
      rw [List.lookup_cons,hb]
      exact h
    · exact h
theorem vv {env:Env}:∀ {names:List (Str×NameKind)} {y:Str},names.lookup y=some .cell ->
    (names.map fun (n,k)=>if (k==NameKind.free&&env.scope.kind==.function&&env.kindOf n==some .cell) then (n,NameKind.cell) else (n,k)).lookup y=some .cell
  | [],_,h=>by cases h
  | (n,k0)::r,y,h=>by
    rw [List.map_cons]
    rw [List.lookup_cons] at h
    simp only
    split at h
    · rename_i hy
      cases h
      rw [if_neg (by intro z;rw [Bool.and_eq_true,Bool.and_eq_true] at z;exact absurd z.1.1 (by decide)),List.lookup_cons,hy]
    · rename_i hy
      split
      · rw [List.lookup_cons,hy];exact vv h
      · rw [List.lookup_cons,hy];exact vv h
theorem HZ {sc:Scope} {fr:List Nat} (L:Pn N bP sc fr):gU ((jo CX P w K mg base N qual bP f cd A outer s H E).gH XE) sc (eG (cellsFrom (s.heap.objs.size+1) bP.names []) sc.names []) fr:=by
  have jW:∀ p ∈ sc.names,p.2=.free->∃ c,(cellsFrom (s.heap.objs.size+1) bP.names []).lookup p.1=some c:=fun p hp e=>wt (L.lO p hp e)
  refine ⟨EA jW,L.kind,fun y hy=>vO _ _ y (L.own _ hy rfl) rfl,L.loc,vV _ _ jW (fun _ _ e=>nomatch e),fun y hy=>?_,fun j hj=>?_⟩
  · have hk:sc.names.lookup y=some .free\/sc.names.lookup y=some .cell:=by
      rcases hy with hy | hy
      · obtain ⟨k0,h1,h2⟩:=me hy
        rcases h2 with h2 | ⟨_,h2⟩
        · rw [<- h2] at h1;exact .inr h1
        · rw [h2] at h1;exact .inl h1
      · obtain ⟨k0,h1,h2⟩:=me hy
        rcases h2 with h2 | ⟨h2,_⟩
        · rw [<- h2] at h1;exact .inl h1
        · cases h2
    exact hk.imp (fun q=>nc _ _ y (mem_of_lookup q)) mem_of_lookup
  · obtain ⟨h1,h2⟩:=L.cU j hj
    have hm:=mem_of_lookup h1
    have h3:=L.lO _ hm rfl
    refine ⟨N.getD j "",?_,?_,.inr (.inl h3),?_,nc _ _ _ hm⟩
    · show N[j]?=some (N.getD j "")
      rw [List.getD_eq_getElem?_getD,List.getElem?_eq_getElem h2]
      rfl
    · exact o5 h1
    · intro z
      have z':bP.names.lookup (N.getD j "")=some .local:=z
      have qR:bP.names.lookup (N.getD j "")=some .cell:=h3
      rw [qR] at z'
      cases z'
theorem lcs {sc:Scope} {fr:List Nat} (L:QA N bP sc fr):gU ((jo CX P w K mg base N qual bP f cd A outer s H E).gH XE) sc (eG (cellsFrom (s.heap.objs.size+1) bP.names []) sc.names []) fr :=
  HZ ⟨L.kind,L.Hl,fun y hy e=>absurd e (L.Sx y hy),L.loc,L.lO,L.cU⟩
end
structure DL (N:List Str) (bP sc:Scope) (fr:List Nat):Prop where
  kind:sc.kind=.function
  own:∀ y ∈ sc.names,y.2=.cell->∀ z ∈ sc.names,z.2=.free->z.1 ≠ y.1
  loc:∀ y ∈ sc.names,y.2=.local->sc.names.lookup y.1=some .local
  lO:∀ y ∈ sc.names,y.2=.free->bP.names.lookup y.1=some .cell\/bP.names.lookup y.1=some .free
  cU:∀ j ∈ fr,sc.names.lookup (N.getD j "")=some .free/\j<N.length
theorem Up {X:Cx} {jr:List Str} {jG:List Nat} {bP:Scope} {ki:List (Str×Addr)} {C:Addr} {s:Shared} {H:Hp} {ex:List Addr} {pn:List (Addr×Obj)} {sc:Scope} {fr:List Nat}
    (L:DL (jr++jG.map fun j=>X.N.getD j "") bP sc fr) (oG:∀ y,(y,NameKind.free) ∈ bP.names->∃ c,ki.lookup y=some c) :
    gU (cH X jr jG bP ki C s H ex pn) sc (eG (cellsFrom (C+1) bP.names ki) sc.names []) fr:=by
  have jW:∀ p ∈ sc.names,p.2=.free->∃ c,(cellsFrom (C+1) bP.names ki).lookup p.1=some c:=fun p hp e=>by
    rcases L.lO p hp e with q | q
    · exact sO _ _ _ _ (mem_of_lookup q)
    · exact pK _ _ _ _ (oG _ (mem_of_lookup q))
  refine ⟨EA jW,L.kind,fun y hy=>vO _ _ y (L.own _ hy rfl) rfl,L.loc,vV _ _ jW (fun _ _ e=>nomatch e),fun y hy=>?_,fun j hj=>?_⟩
  · have hk:sc.names.lookup y=some .free\/sc.names.lookup y=some .cell:=by
      rcases hy with hy | hy
      · obtain ⟨k0,h1,h2⟩:=me hy
        rcases h2 with h2 | ⟨_,h2⟩
        · rw [<- h2] at h1;exact .inr h1
        · rw [h2] at h1;exact .inl h1
      · obtain ⟨k0,h1,h2⟩:=me hy
        rcases h2 with h2 | ⟨h2,_⟩
        · rw [<- h2] at h1;exact .inl h1
        · cases h2
    exact hk.imp (fun q=>nc _ _ y (mem_of_lookup q)) mem_of_lookup
  · obtain ⟨h1,h2⟩:=L.cU j hj
    have hm:=mem_of_lookup h1
    have hv:(relabel bP X.env).names.lookup ((jr++jG.map fun j=>X.N.getD j "").getD j "")=some .cell\/(relabel bP X.env).names.lookup ((jr++jG.map fun j=>X.N.getD j "").getD j "")=some .free:=by
      rcases L.lO _ hm rfl with q | q
      · exact .inl (vv q)
      · exact o5 q
    refine ⟨_,?_,o5 h1,.inr hv,fun z=>?_,nc _ _ _ hm⟩
    · show (jr++jG.map fun j=>X.N.getD j "")[j]?=some _
      rw [List.getD_eq_getElem?_getD,List.getElem?_eq_getElem h2]
      rfl
    · have z':(relabel bP X.env).names.lookup ((jr++jG.map fun j=>X.N.getD j "").getD j "")=some .local:=z
      rcases hv with q | q<;>rw [q] at z'<;>cases z'
section
variable {X:Cx} {K:PySem.W.Frag}
theorem QB (h:X.K=K):qK X (yI K):=h ▸ Sl
theorem Pq (h:X.K=K):qK X (yH K):=h ▸ Qq
theorem OI (h:X.K=K):eD X (.builtin "len") (fun xs H Q=>∃ p ys,xs=[.ref p]/\(bj K H p ys\/cB K H p ys)/\Q (.int ys.length) H):=h ▸ MX
end
end L2
namespace L2
open PySem PySem.Spec PyProof.Rows
theorem av.tup {K:PySem.W.Frag} {H H':Hp} {a:Addr} {xs:List V} (e:av H H') (h:cB K H a xs):cB K H' a xs:=by
  rcases h with (h | ⟨o,h⟩) | h
  · exact .inl (.inl (e _ _ h))
  · exact .inl (.inr ⟨o,e _ _ h⟩)
  · exact .inr h
theorem av.upd {H H':Hp} {p:Addr} {o:HO} (e:av H H') (hp:H p=none):av H (L2.upd H' p o):=fun b u h=>by
  rw [bO (gR h hp)];exact e b u h
theorem av.new {H:Hp} {p:Addr} {o:HO} (hp:H p=none):av H (L2.upd H p o):=(av.refl H).upd hp
theorem rY {a:Int} (h0 : 0<=a) (h:a<2 ^ 60):a.natAbs<2 ^ 8000:=by
  have big:(2:Nat) ^ 60<2 ^ 8000:=Nat.pow_lt_pow_right (by decide) (by decide)
  omega
section
variable {P:Program} {w:World} {K:PySem.W.Frag} {mg:Str->Option Value} {base:Heap}
theorem bh.d {x qual:Str} {st:Stmt} {f:Addr} {fd:FuncData} (F:bh K x qual st f fd):ou K x qual st .none f fd:=⟨F.ex,F.kp⟩
end
end L2
namespace L2
open PySem PySem.Spec PyProof.Rows
section
variable {X:Cx} {tg:Expr}
theorem Pr {bs:List Bool} {af:List Value} (r:Vals (bs.map V.bl) af):PyProof.Rows.LSm.BoolsAre af bs:=by
  induction bs generalizing af with
  | nil=>cases r;exact .nil
  | cons y ys ih =>
    cases r with
    | cons r1 rr =>
      cases r1
      exact .cons _ (ih rr)
end
end L2
namespace L2
open PySem PySem.Spec PyProof.Rows
inductive Tr where
  | fz (d:Dv)
  | ow (ts:List Tr)
  | tp (ts:List Tr)
mutual
def Ow (K:PySem.W.Frag) (G H:Hp):Tr->V->List Addr->Prop
  | .fz d,v,fp=>fp=[]/\Hv K G d v
  | .ow ts,v,fp=>∃ a vs fq,v=.ref a/\H a=some (.lst vs)/\aS K G H ts vs fq/\fp=a::fq
  | .tp ts,v,fp=>∃ a vs fq,v=.ref a/\H a=some (.tup vs)/\aS K G H ts vs fq/\fp=a::fq
def aS (K:PySem.W.Frag) (G H:Hp):List Tr->List V->List Addr->Prop
  | [],vs,fp=>vs=[]/\fp=[]
  | t::ts,vs,fp=>∃ v r f1 f2,vs=v::r/\fp=f1++f2/\Ow K G H t v f1/\aS K G H ts r f2
end
mutual
def er:Tr->Dv
  | .fz d=>d
  | .ow ts=>.lst (eK ts)
  | .tp ts=>.tup (eK ts)
def eK:List Tr->List Dv
  | [] => []
  | t::ts=>er t::eK ts
end
theorem nB:∀ ts:List Tr,eK ts=ts.map er
  | [] => rfl
  | t::ts=>by rw [eK,nB ts];rfl
mutual
theorem Hv.mono {K:PySem.W.Frag} {G G':Hp} (e:av G G'):∀ {d:Dv} {v:V},Hv K G d v->Hv K G' d v
  | .fl _,_,h=>h
  | .lst ds,_,⟨a,xs,h1,h2,h3⟩=>⟨a,xs,h1,e.seq h2,aX.mono e h3⟩
  | .tup ds,_,⟨a,xs,h1,h2,h3⟩=>⟨a,xs,h1,e.tup h2,aX.mono e h3⟩
theorem aX.mono {K:PySem.W.Frag} {G G':Hp} (e:av G G'):∀ {ds:List Dv} {vs:List V},aX K G ds vs->aX K G' ds vs
  | [],_,h=>h
  | _::_,_,⟨x,r,h1,h2,h3⟩=>⟨x,r,h1,h2.mono e,aX.mono e h3⟩
end
mutual
theorem Ow.mono {K:PySem.W.Frag} {G G' H H':Hp} (e:av G G') (e':av H H'):∀ {t:Tr} {v:V} {fp:List Addr},Ow K G H t v fp->Ow K G' H' t v fp
  | .fz _,_,_,⟨h1,h2⟩=>⟨h1,h2.mono e⟩
  | .ow _,_,_,⟨a,vs,fq,h1,h2,h3,h4⟩=>⟨a,vs,fq,h1,e' _ _ h2,aS.mono e e' h3,h4⟩
  | .tp _,_,_,⟨a,vs,fq,h1,h2,h3,h4⟩=>⟨a,vs,fq,h1,e' _ _ h2,aS.mono e e' h3,h4⟩
theorem aS.mono {K:PySem.W.Frag} {G G' H H':Hp} (e:av G G') (e':av H H'):∀ {ts:List Tr} {vs:List V} {fp:List Addr},aS K G H ts vs fp->aS K G' H' ts vs fp
  | [],_,_,h=>h
  | _::_,_,_,⟨v,r,f1,f2,h1,h2,h3,h4⟩=>⟨v,r,f1,f2,h1,h2,h3.mono e e',aS.mono e e' h4⟩
end
mutual
theorem Ow.frame {K:PySem.W.Frag} {G H:Hp} {a:Addr} {o:HO}:∀ {t:Tr} {v:V} {fp:List Addr},Ow K G H t v fp->a ∉ fp->Ow K G (upd H a o) t v fp
  | .fz _,_,_,h,_=>h
  | .ow _,_,_,⟨b,vs,fq,h1,h2,h3,h4⟩,n=>by
    subst h4
    refine ⟨b,vs,fq,h1,?_,aS.frame h3 fun z=>n (.tail _ z),rfl⟩
    rw [bO fun z=>n (by rw [z];exact .head _)]
    exact h2
  | .tp _,_,_,⟨b,vs,fq,h1,h2,h3,h4⟩,n=>by
    subst h4
    refine ⟨b,vs,fq,h1,?_,aS.frame h3 fun z=>n (.tail _ z),rfl⟩
    rw [bO fun z=>n (by rw [z];exact .head _)]
    exact h2
theorem aS.frame {K:PySem.W.Frag} {G H:Hp} {a:Addr} {o:HO}:∀ {ts:List Tr} {vs:List V} {fp:List Addr},aS K G H ts vs fp->a ∉ fp->aS K G (upd H a o) ts vs fp
  | [],_,_,h,_=>h
  | _::_,_,_,⟨v,r,f1,f2,h1,h2,h3,h4⟩,n=>by
    subst h2
    exact ⟨v,r,f1,f2,h1,rfl,h3.frame fun z=>n (List.mem_append_left _ z),aS.frame h4 fun z=>n (List.mem_append_right _ z)⟩
end
mutual
theorem Ow.there {K:PySem.W.Frag} {G H:Hp}:∀ {t:Tr} {v:V} {fp:List Addr},Ow K G H t v fp->∀ a ∈ fp,∃ o,H a=some o
  | .fz _,_,_,⟨h,_⟩,a,ha=>by subst h;cases ha
  | .ow _,_,_,⟨b,vs,fq,h1,h2,h3,h4⟩,a,ha=>by
    subst h4
    rcases List.mem_cons.mp ha with rfl | ha
    · exact ⟨_,h2⟩
    · exact aS.there h3 a ha
  | .tp _,_,_,⟨b,vs,fq,h1,h2,h3,h4⟩,a,ha=>by
    subst h4
    rcases List.mem_cons.mp ha with rfl | ha
    · exact ⟨_,h2⟩
    · exact aS.there h3 a ha
theorem aS.there {K:PySem.W.Frag} {G H:Hp}:∀ {ts:List Tr} {vs:List V} {fp:List Addr},aS K G H ts vs fp->∀ a ∈ fp,∃ o,H a=some o
  | [],_,_,⟨_,h⟩,a,ha=>by subst h;cases ha
  | _::_,_,_,⟨v,r,f1,f2,h1,h2,h3,h4⟩,a,ha=>by
    subst h2
    rcases List.mem_append.mp ha with ha | ha
    · exact h3.there a ha
    · exact aS.there h4 a ha
end
mutual
theorem Ow.hv {K:PySem.W.Frag} {G H G':Hp} (e:av G G'):∀ {t:Tr} {v:V} {fp:List Addr},Ow K G H t v fp->(∀ a ∈ fp,G' a=H a)->Hv K G' (er t) v
  | .fz _,_,_,⟨_,h⟩,_=>h.mono e
  | .ow _,_,_,⟨b,vs,fq,h1,h2,h3,h4⟩,q=>by
    subst h4
    exact ⟨b,vs,h1,bj.of ((q b (.head _)).trans h2),aS.hv e h3 fun a ha=>q a (.tail _ ha)⟩
  | .tp _,_,_,⟨b,vs,fq,h1,h2,h3,h4⟩,q=>by
    subst h4
    exact ⟨b,vs,h1,cB.of ((q b (.head _)).trans h2),aS.hv e h3 fun a ha=>q a (.tail _ ha)⟩
theorem aS.hv {K:PySem.W.Frag} {G H G':Hp} (e:av G G'):∀ {ts:List Tr} {vs:List V} {fp:List Addr},aS K G H ts vs fp->(∀ a ∈ fp,G' a=H a)->aX K G' (eK ts) vs
  | [],_,_,⟨h,_⟩,_=>h
  | _::_,_,_,⟨v,r,f1,f2,h1,h2,h3,h4⟩,q=>by
    subst h2
    exact ⟨v,r,h1,h3.hv e fun a ha=>q a (List.mem_append_left _ ha),aS.hv e h4 fun a ha=>q a (List.mem_append_right _ ha)⟩
end
theorem aS.length {K:PySem.W.Frag} {G H:Hp}:∀ {ts:List Tr} {vs:List V} {fp:List Addr},aS K G H ts vs fp->ts.length=vs.length
  | [],_,_,⟨h,_⟩=>by subst h;rfl
  | _::_,_,_,⟨v,r,f1,f2,h1,h2,h3,h4⟩=>by subst h1;rw [List.length_cons,List.length_cons,aS.length h4]
theorem aS.append {K:PySem.W.Frag} {G H:Hp}:∀ {ts us:List Tr} {vs ws:List V} {f1 f2:List Addr},aS K G H ts vs f1->aS K G H us ws f2->aS K G H (ts++us) (vs++ws) (f1++f2)
  | [],us,_,ws,_,f2,⟨h,h'⟩,q=>by subst h h';exact q
  | _::_,us,_,ws,_,f2,⟨v,r,g1,g2,h1,h2,h3,h4⟩,q=>by
    subst h1 h2
    exact ⟨v,r++ws,g1,g2++f2,rfl,by rw [List.append_assoc],h3,aS.append h4 q⟩
theorem aX.iz {K:PySem.W.Frag} {G H:Hp}:∀ {ds:List Dv} {vs:List V},aX K G ds vs->aS K G H (ds.map .fz) vs []
  | [],_,h=>⟨h,rfl⟩
  | _::_,_,⟨x,r,h1,h2,h3⟩=>⟨x,r,[],[],h1,rfl,⟨rfl,h2⟩,aX.iz h3⟩
structure Step (G H G' H':Hp):Prop where
  g:av G G'
  h:av H H'
  s:av G' H'
  n:∀ a,G a=none->G' a ≠ none->H a=none
theorem Step.refl {G H:Hp} (s:av G H):Step G H G H:=⟨av.refl _,av.refl _,s,fun a h h'=>absurd h h'⟩
theorem Step.trans {G H G1 H1 G2 H2:Hp} (a:Step G H G1 H1) (b:Step G1 H1 G2 H2):Step G H G2 H2 :=
  ⟨a.g.trans b.g,a.h.trans b.h,b.s,fun x h h'=>by
    cases q:G1 x with
    | none=>exact a.h.free (b.n x q h')
    | some o=>exact a.n x h (by rw [q];exact fun z=>nomatch z)⟩
theorem av.Uq {G H:Hp} {p:Addr} {o:HO} (s:av G H):av (L2.upd G p o) (L2.upd H p o):=fun b u h=>by
  unfold L2.upd at h ⊢
  split
  · rename_i e;rw [if_pos e] at h;exact h
  · rename_i e;rw [if_neg e] at h;exact s b u h
theorem Step.new {G H:Hp} {p:Addr} {o:HO} (s:av G H) (hp:H p=none):Step G H (upd G p o) (upd H p o) :=
  ⟨av.new (s.free hp),av.new hp,s.Uq,fun a h h'=>by
    by_cases e:a=p
    · subst e;exact hp
    · rw [bO e] at h';exact absurd h h'⟩
theorem Step.j6 {G H:Hp} {p:Addr} {o:HO} (s:av G H) (hp:H p=none):Step G H G (upd H p o) :=
  ⟨av.refl _,av.new hp,s.trans (av.new hp),fun a h h'=>absurd h h'⟩
structure Nw (H G':Hp) (fq:List Addr):Prop where
  n:∀ a ∈ fq,H a=none
  g:∀ a ∈ fq,G' a=none
  d:fq.Nodup
theorem Nw.nil {H G:Hp}:Nw H G []:=⟨fun _ h=>(nomatch h),fun _ h=>(nomatch h),.nil⟩
def Kv (K:PySem.W.Frag) (G H:Hp) (t:Tr) (Q:VK):Prop:=∀ v G' H' fq,Step G H G' H'->Ow K G' H' t v fq->Nw H G' fq->Q v H'
theorem Kv.step {K:PySem.W.Frag} {G H G1 H1:Hp} {t:Tr} {Q:VK} (k:Kv K G H t Q) (e:Step G H G1 H1):Kv K G1 H1 t Q:=fun v G' H' fq st o w =>
  k v G' H' fq (e.trans st) o ⟨fun a ha=>e.h.free (w.n a ha),w.g,w.d⟩
def fh (G H:Hp) (fq:List Addr):Hp:=fun a=>if a ∈ fq then H a else G a
theorem jQ {G H:Hp} {fq:List Addr} {a:Addr} (h:a ∈ fq):fh G H fq a=H a:=by unfold fh;rw [if_pos h]
theorem pC {G H:Hp} {fq:List Addr} {a:Addr} (h:a ∉ fq):fh G H fq a=G a:=by unfold fh;rw [if_neg h]
theorem jM {G H:Hp} {fq:List Addr} (h:∀ a ∈ fq,G a=none):av G (fh G H fq):=fun b o e=>by
  by_cases q:b ∈ fq
  · rw [h b q] at e;cases e
  · rw [pC q];exact e
theorem pD {G H:Hp} {fq:List Addr} (s:av G H):av (fh G H fq) H:=fun b o e=>by
  by_cases q:b ∈ fq
  · rw [jQ q] at e;exact e
  · rw [pC q] at e;exact s b o e
theorem Step.d8 {G H G' H':Hp} {fq:List Addr} (e:Step G H G' H') (w:Nw H G' fq):Step G H (fh G' H' fq) H' :=
  ⟨e.g.trans (jM w.g),e.h,pD e.s,fun a h h'=>by
    by_cases q:a ∈ fq
    · exact w.n a q
    · rw [pC q] at h';exact e.n a h h'⟩
structure aY (ι:Type) where
  cx : ι->Cx
  P:Program
  w:World
  K:PySem.W.Frag
  mg:Str->Option Value
  base:Heap
  room:Nat
  hP:∀ i,(cx i).prog=P
  hw:∀ i,(cx i).w=w
  hK:∀ i,(cx i).K=K
  hm:∀ i,(cx i).mg=mg
  hb:∀ i,(cx i).base=base
  hr:∀ i,dq room (cx i).A
  calm:∀ i,(cx i).calm=true
abbrev En:=List (Option Tr)
def bW (K:PySem.W.Frag) (G:Hp) (ρ:En) (σ:St):Prop:=∀ (j:Nat) (d:Dv),ρ[j]?=some (some (Tr.fz d))->∃ v,σ[j]?=some (some v)/\Hv K G d v
theorem bW.mono {K:PySem.W.Frag} {G G':Hp} {ρ:En} {σ:St} (e:av G G') (r:bW K G ρ σ):bW K G' ρ σ:=fun j d h=>by
  obtain ⟨v,h1,h2⟩:=r j d h
  exact ⟨v,h1,h2.mono e⟩
section
variable {ι:Type}
def Ev (F:aY ι) (e:Expr) (ρ:En) (t:Tr):Prop:=∃ τ:TE,(∀ i,PE (F.cx i) e τ)/\∀ σ G H Q,av G H->bW F.K G ρ σ->Kv F.K G H t Q -> τ σ H Q
def Et (F:aY ι) (e:Expr) (ρ:En) (b:Bool):Prop:=∃ τ:TT,(∀ i,PT (F.cx i) e τ)/\∀ σ G H Q,av G H->bW F.K G ρ σ->(∀ G' H',Step G H G' H'->Q b H') -> τ σ H Q
def gg (F:aY ι) (es:List Expr) (ρ:En) (ts:List Tr):Prop:=∃ τ:TA,(∀ i,PA (F.cx i) es τ)/\∀ σ G H Q,av G H->bW F.K G ρ σ ->
  (∀ vs G' H' fq,Step G H G' H'->aS F.K G' H' ts vs fq->Nw H G' fq->Q vs H') -> τ σ H Q
variable {F:aY ι} {e a b:Expr} {es:List Expr} {ρ:En} {t ta tb:Tr} {ts:List Tr}
theorem Ev.use (h:Ev F e ρ t):∃ τ:TE,(∀ i,PE (F.cx i) e τ)/\∀ σ G H (Q:VK),av G H->bW F.K G ρ σ->(∀ v G' H',Step G H G' H'->Hv F.K G' (er t) v->Q v H') -> τ σ H Q:=by
  obtain ⟨τ,p,q⟩:=h
  refine ⟨τ,p,fun σ G H Q s r k=>q σ G H Q s r fun v G' H' fq st o w=>?_⟩
  exact k v (fh G' H' fq) H' (st.d8 w) (o.hv (jM w.g) fun a ha=>jQ ha)
theorem Ev.fz (h:Ev F e ρ t):Ev F e ρ (.fz (er t)):=by
  obtain ⟨τ,p,q⟩:=h.use
  exact ⟨τ,p,fun σ G H Q s r k=>q σ G H Q s r fun v G' H' st hv=>k v G' H' [] st ⟨rfl,hv⟩ .nil⟩
theorem Ev.as {d:Dv} (h:Ev F e ρ t) (ed:er t=d):Ev F e ρ (.fz d):=ed ▸ h.fz
theorem gg.use (h:gg F es ρ ts):∃ τ:TA,(∀ i,PA (F.cx i) es τ)/\∀ σ G H (Q:List V->Hp->Prop),av G H->bW F.K G ρ σ->(∀ vs G' H',Step G H G' H'->aX F.K G' (eK ts) vs->Q vs H') -> τ σ H Q:=by
  obtain ⟨τ,p,q⟩:=h
  refine ⟨τ,p,fun σ G H Q s r k=>q σ G H Q s r fun v G' H' fq st o w=>?_⟩
  exact k v (fh G' H' fq) H' (st.d8 w) (o.hv (jM w.g) fun a ha=>jQ ha)
theorem ao:gg F [] ρ []:=⟨fc,fun i=>eT,fun σ G H Q s r k=>k [] G H [] (.refl s) ⟨rfl,rfl⟩ .nil⟩
theorem Nw.app {H G1 H1 G2:Hp} {f1 f2:List Addr} (w1:Nw H G1 f1) (w2:Nw H1 G2 f2) (hh:av H H1) (th:∀ a ∈ f1,∃ o,H1 a=some o) (hg:∀ a,G1 a=none->G2 a ≠ none->H1 a=none):Nw H G2 (f1++f2) :=
  ⟨fun a ha=>(List.mem_append.mp ha).elim (w1.n a) fun z=>hh.free (w2.n a z),fun a ha=>(List.mem_append.mp ha).elim (fun z=>by
      cases q:G2 a with
      | none=>rfl
      | some o =>
        obtain ⟨u,hu⟩:=th a z
        have:=hg a (w1.g a z) (by rw [q];exact fun z=>nomatch z)
        rw [hu] at this;cases this) (w2.g a),
    List.nodup_append.mpr ⟨w1.d,w2.d,fun a ha b hb e=>by
      subst e
      obtain ⟨u,hu⟩:=th a ha
      rw [w2.n a hb] at hu;cases hu⟩⟩
theorem ah (ha:Ev F e ρ t) (hr:gg F es ρ ts) (hs:∀ i,starEach (e::es) (F.cx i).env=(false,eval e (F.cx i).env)::starEach es (F.cx i).env:=by intro _;rfl):gg F (e::es) ρ (t::ts):=by
  obtain ⟨τ,p,q⟩:=ha
  obtain ⟨bL,p',q'⟩:=hr
  refine ⟨dZ τ bL,fun i=>dw (p i) (p' i) (hs i),fun σ G H Q s r k=>?_⟩
  refine q σ G H _ s r fun v G1 H1 f1 s1 o1 w1=>q' σ G1 H1 _ s1.s (r.mono s1.g) fun vs G2 H2 f2 s2 o2 w2=>?_
  exact k (v::vs) G2 H2 (f1++f2) (s1.trans s2) ⟨v,vs,f1,f2,rfl,rfl,o1.mono s2.g s2.h,o2⟩ (w1.app w2 s1.h (fun a ha=>o1.there a ha) s2.n)
end
end L2
namespace L2
open PySem PySem.Spec PyProof.Rows
abbrev di (n:Int):Dv:=.fl (.int n)
abbrev db (b:Bool):Dv:=.fl (.bl b)
abbrev dn:Dv:=.fl .aN
abbrev ds (x:Str):Dv:=.fl (.str x)
abbrev dis (ns:List Int):Dv:=.lst (ns.map di)
abbrev ti (n:Int):Tr:=.fz (di n)
abbrev tb (b:Bool):Tr:=.fz (db b)
abbrev tn:Tr:=.fz dn
abbrev tx (x:Str):Tr:=.fz (ds x)
theorem Kv.sc {K:PySem.W.Frag} {G H:Hp} {v:V} {Q:VK} (k:Kv K G H (.fz (.fl v)) Q) (s:av G H) (f:eE v=true):Q v H:=k v G H [] (.refl s) ⟨rfl,rfl,f⟩ .nil
theorem Kv.dat {K:PySem.W.Frag} {G H:Hp} {d:Dv} {v:V} {Q:VK} (k:Kv K G H (.fz d) Q) (s:av G H) (h:Hv K G d v):Q v H:=k v G H [] (.refl s) ⟨rfl,h⟩ .nil
theorem Kv.lst {K:PySem.W.Frag} {G H:Hp} {ts:List Tr} {vs:List V} {Q:VK} (k:Kv K G H (.ow ts) Q) (s:av G H) (h:aS K G H ts vs []) {p:Addr} (hp:H p=none):Q (.ref p) (upd H p (.lst vs)) :=
  k (.ref p) G _ [p] (.j6 s hp) ⟨p,vs,[],rfl,fA,h.mono (av.refl _) (av.new hp),rfl⟩ ⟨fun a ha=>by rw [List.mem_singleton.mp ha];exact hp,fun a ha=>by rw [List.mem_singleton.mp ha];exact s.free hp,by simp⟩
theorem aL {K:PySem.W.Frag} {G:Hp} {v x:V} (h:Hv K G (.fl v) x):x=v:=h.1
section
variable {ι:Type} {F:aY ι} {e a b c:Expr} {es:List Expr} {ρ:En} {t ta tb':Tr} {ts:List Tr} {pos:Pos}
theorem ae (j:Nat) {d:Dv} {x:Str} (h : ρ[j]?=some (some (.fz d))) (hN:∀ i,(F.cx i).N[j]?=some x:=by intro _;rfl)
    (hv:∀ i,ig (F.cx i).env.scope x:=by intro _;first | exact Or.inl rfl | exact Or.inr (Or.inl rfl) | exact Or.inr (Or.inr rfl)) (hd:(x==("__debug__" : Str))=false:=by decide) (hc:(x==("__classdict__" : Str))=false:=by decide):Ev F (.Name x pos) ρ (.fz d) :=
  ⟨fR j,fun i=>kL (hN i) (hv i) hd hc,fun σ G H Q s r k=>by
    obtain ⟨v,h1,h2⟩:=r j d h
    exact ⟨v,h1,k.dat s h2⟩⟩
theorem ak {n:Int} {j:Nat}:Ev F (.Constant (.int n) j pos) ρ (ti n):=⟨_,fun i=>RY,fun σ G H Q s r k=>k.sc s rfl⟩
theorem pW {j:Nat}:Ev F (.Constant .none j pos) ρ tn:=⟨_,fun i=>RZ,fun σ G H Q s r k=>k.sc s rfl⟩
theorem Fy {n:Str} {j:Nat}:Ev F (.Constant (.str n) j pos) ρ (tx n):=⟨_,fun i=>Fi,fun σ G H Q s r k=>k.sc s rfl⟩
theorem w8 {x:Str} {v:V} {u:Value} (hm:F.mg x=some u) (r:RelV v u) (f:eE v=true) (hg:∀ i,Gl (F.cx i) x:=by intro _;rfl) (hd:(x==("__debug__" : Str))=false:=by decide):Ev F (.Name x pos) ρ (.fz (.fl v)) :=
  ⟨tC v,fun i=>Qf (hg i) ((F.hm i).symm ▸ hm) r hd,fun σ G H Q s _ k=>k.sc s f⟩
theorem kM {op:Operator} {r:R2} (ho:∀ i,cD (F.cx i) (binaryOp op) r) (ha:Ev F a ρ ta) (hb:Ev F b ρ tb')
    (h:∀ G H x y Q,av G H->Hv F.K G (er ta) x->Hv F.K G (er tb') y->Kv F.K G H t Q->r x y H Q):Ev F (.BinOp a op b pos) ρ t:=by
  obtain ⟨τ,p,q⟩:=ha.use
  obtain ⟨bL,p',q'⟩:=hb.use
  refine ⟨jz r τ bL,fun i=>Tj (ho i) (p i) (p' i),fun σ G H Q s rr k=>?_⟩
  refine q σ G H _ s rr fun x G1 H1 s1 hx=>q' σ G1 H1 _ s1.s (rr.mono s1.g) fun y G2 H2 s2 hy=>?_
  exact h G2 H2 x y Q s2.s (hx.mono s2.g) hy (k.step (s1.trans s2))
theorem gV {i j:Int} (ha:Ev F a ρ (ti i)) (hb:Ev F b ρ (ti j)):Ev F (.BinOp a .Add b pos) ρ (ti (i+j)):=kM (fun _=>Sb) ha hb fun G H x y Q s hx hy k=>⟨i,j,aL hx,aL hy,k.sc s rfl⟩
theorem Sy {i j:Int} (ha:Ev F a ρ (ti i)) (hb:Ev F b ρ (ti j)):Ev F (.BinOp a .Sub b pos) ρ (ti (i-j)):=kM (fun _=>Sd) ha hb fun G H x y Q s hx hy k=>⟨i,j,aL hx,aL hy,k.sc s rfl⟩
theorem eu {i j:Int} (ha:Ev F a ρ (ti i)) (hb:Ev F b ρ (ti j)) (hc:Hj i j):Ev F (.BinOp a .Mult b pos) ρ (ti (i*j)):=kM (fun _=>Qv) ha hb fun G H x y Q s hx hy k=>⟨i,j,aL hx,aL hy,hc,k.sc s rfl⟩
theorem jS {i j:Int} (ha:Ev F a ρ (ti i)) (hb:Ev F b ρ (ti j)) (hc:tv i j):Ev F (.BinOp a .FloorDiv b pos) ρ (ti (i / j)):=kM (fun _=>Pl) ha hb fun G H x y Q s hx hy k=>⟨i,j,aL hx,aL hy,hc,k.sc s rfl⟩
theorem fM {i j:Int} (ha:Ev F a ρ (ti i)) (hb:Ev F b ρ (ti j)) (hc : 0<j):Ev F (.BinOp a .Mod b pos) ρ (ti (i % j)):=kM (fun _=>Sf) ha hb fun G H x y Q s hx hy k=>⟨i,j,aL hx,aL hy,hc,k.sc s rfl⟩
theorem Sz {i:Int} (ha:Ev F a ρ (ti i)):Ev F (.UnaryOp .USub a pos) ρ (ti (-i)):=by
  obtain ⟨τ,p,q⟩:=ha.use
  exact ⟨_,fun i=>Tn Sg (p i),fun σ G H Q s rr k=>q σ G H _ s rr fun x G1 H1 s1 hx=>⟨i,aL hx,(k.step s1).sc s1.s rfl⟩⟩
theorem nR {xs ys:List Dv} (ha:Ev F a ρ ta) (hb:Ev F b ρ tb') (ea:er ta=.lst xs) (eb:er tb'=.lst ys) (hz:xs.length+ys.length<=sizeLine):Ev F (.BinOp a .Add b pos) ρ (.ow ((xs++ys).map .fz)) :=
  kM (r:=Hk F.K) (fun i=>F.hK i ▸ Qy) ha hb fun G H x y Q s hx hy k=>by
    rw [ea] at hx
    rw [eb] at hy
    obtain ⟨l,vs,rfl,h1,h2⟩:=hx
    obtain ⟨l',ws,rfl,h3,h4⟩:=hy
    refine ⟨l,l',vs,ws,rfl,rfl,s.seq h1,s.seq h3,by rw [<- h2.length,<- h4.length];exact hz,fun p hp=>?_⟩
    refine k.lst s ?_ hp
    rw [List.map_append]
    exact h2.iz.append h4.iz
theorem kN {op:CmpOp} {r:R2} {c:Bool} (ho:∀ i,cD (F.cx i) (compareOp op) r) (ha:Ev F a ρ ta) (hb:Ev F b ρ tb')
    (h:∀ G H x y (Q:VK),av G H->Hv F.K G (er ta) x->Hv F.K G (er tb') y->Q (.bl c) H->r x y H Q) (hm:behindInMarks op b=false):Ev F (.Compare a [op] [b] pos) ρ (tb c):=by
  obtain ⟨τ,p,q⟩:=ha.use
  obtain ⟨bL,p',q'⟩:=hb.use
  refine ⟨jz r τ bL,fun i=>Ql (ho i) (p i) (p' i) hm,fun σ G H Q s rr k=>?_⟩
  refine q σ G H _ s rr fun x G1 H1 s1 hx=>q' σ G1 H1 _ s1.s (rr.mono s1.g) fun y G2 H2 s2 hy=>?_
  exact h G2 H2 x y Q s2.s (hx.mono s2.g) hy ((k.step (s1.trans s2)).sc s2.s rfl)
theorem gW {op:CmpOp} {r:R2} {c:Bool} (ho:∀ i,cD (F.cx i) (compareOp op) r) (ha:Ev F a ρ ta) (hb:Ev F b ρ tb')
    (h:∀ G H x y (Q:VK),av G H->Hv F.K G (er ta) x->Hv F.K G (er tb') y->Q (.bl c) H->r x y H Q) (hm:behindInMarks op b=false):Et F (.Compare a [op] [b] pos) ρ c:=by
  obtain ⟨τ,p,q⟩:=ha.use
  obtain ⟨bL,p',q'⟩:=hb.use
  refine ⟨Hf (jz r τ bL),fun i=>Qm (ho i) (p i) (p' i) hm,fun σ G H Q s rr k=>?_⟩
  refine q σ G H _ s rr fun x G1 H1 s1 hx=>q' σ G1 H1 _ s1.s (rr.mono s1.g) fun y G2 H2 s2 hy=>?_
  exact h G2 H2 x y _ s2.s (hx.mono s2.g) hy ⟨c,rfl,k G2 H2 (s1.trans s2)⟩
theorem x4 {i j:Int} (ha:Ev F a ρ (ti i)) (hb:Ev F b ρ (ti j)):Et F (.Compare a [.Lt] [b] pos) ρ (decide (i<j)):=gW (fun _=>Hd) ha hb (fun G H x y Q s hx hy k=>⟨i,j,aL hx,aL hy,k⟩) (eR _)
theorem qf {i j:Int} (ha:Ev F a ρ (ti i)) (hb:Ev F b ρ (ti j)):Et F (.Compare a [.Gt] [b] pos) ρ (decide (j<i)):=gW (fun _=>He) ha hb (fun G H x y Q s hx hy k=>⟨i,j,aL hx,aL hy,k⟩) (eR _)
theorem gY {i j:Int} (ha:Ev F a ρ (ti i)) (hb:Ev F b ρ (ti j)):Et F (.Compare a [.Eq] [b] pos) ρ (decide (i=j)):=gW (fun _=>xY) ha hb (fun G H x y Q s hx hy k=>by
  rw [aL hx,aL hy];exact ⟨rfl,by simpa using k⟩) (eR _)
theorem x5 {i j:Int} (ha:Ev F a ρ (ti i)) (hb:Ev F b ρ (ti j)):Et F (.Compare a [.NotEq] [b] pos) ρ (!decide (i=j)):=gW (fun _=>Hc) ha hb (fun G H x y Q s hx hy k=>by
  rw [aL hx,aL hy];exact ⟨rfl,by simpa using k⟩) (eR _)
theorem tD {i j:Int} (ha:Ev F a ρ (ti i)) (hb:Ev F b ρ (ti j)):Ev F (.Compare a [.Lt] [b] pos) ρ (tb (decide (i<j))):=kN (fun _=>Hd) ha hb (fun G H x y Q s hx hy k=>⟨i,j,aL hx,aL hy,k⟩) (eR _)
theorem TB {i j:Int} (ha:Ev F a ρ (ti i)) (hb:Ev F b ρ (ti j)):Ev F (.Compare a [.Gt] [b] pos) ρ (tb (decide (j<i))):=kN (fun _=>He) ha hb (fun G H x y Q s hx hy k=>⟨i,j,aL hx,aL hy,k⟩) (eR _)
theorem TC {i j:Int} (ha:Ev F a ρ (ti i)) (hb:Ev F b ρ (ti j)):Ev F (.Compare a [.GtE] [b] pos) ρ (tb (decide (j<=i))):=kN (fun _=>To) ha hb (fun G H x y Q s hx hy k=>⟨i,j,aL hx,aL hy,k⟩) (eR _)
theorem x6 {i j:Int} (ha:Ev F a ρ (ti i)) (hb:Ev F b ρ (ti j)):Ev F (.Compare a [.Eq] [b] pos) ρ (tb (decide (i=j))):=kN (fun _=>xY) ha hb (fun G H x y Q s hx hy k=>by
  rw [aL hx,aL hy];exact ⟨rfl,by simpa using k⟩) (eR _)
def xH (d e:Dv):Prop:=(∃ xs ys,d=.lst xs/\e=.lst ys)\/∃ xs ys,d=.tup xs/\e=.tup ys
theorem sP (ha:Ev F a ρ ta) (hb:Ev F b ρ tb') (hk:xH (er ta) (er tb')) (hd:cW (er ta)<=50):Et F (.Compare a [.Eq] [b] pos) ρ (bV (er ta) (er tb')) :=
  gW (r:=qw F.K false) (fun i=>F.hK i ▸ Fw (F.hr i).units) ha hb (fun G H x y Q s hx hy k=>⟨_,_,hk,hx.mono s,hy.mono s,hd,k⟩) (eR _)
theorem jh (ha:Ev F a ρ ta) (hb:Ev F b ρ tb') (hk:xH (er ta) (er tb')) (hd:cW (er ta)<=50):Et F (.Compare a [.NotEq] [b] pos) ρ (!bV (er ta) (er tb')) :=
  gW (r:=qw F.K true) (fun i=>F.hK i ▸ Ss (F.hr i).units) ha hb (fun G H x y Q s hx hy k=>⟨_,_,hk,hx.mono s,hy.mono s,hd,k⟩) (eR _)
theorem SA (ha:Ev F a ρ ta) (hb:Ev F b ρ tb') (hk:xH (er ta) (er tb')) (hd:cW (er ta)<=50):Ev F (.Compare a [.Eq] [b] pos) ρ (tb (bV (er ta) (er tb'))) :=
  kN (r:=qw F.K false) (fun i=>F.hK i ▸ Fw (F.hr i).units) ha hb (fun G H x y Q s hx hy k=>⟨_,_,hk,hx.mono s,hy.mono s,hd,k⟩) (eR _)
theorem kz {K:PySem.W.Frag} {G:Hp}:∀ {ns:List Int} {vs:List V},aX K G (ns.map di) vs->vs=ns.map V.int
  | [],_,h=>h
  | _::_,_,⟨x,r,h1,h2,h3⟩=>by subst h1;rw [aL h2,kz h3];rfl
theorem nj {K:PySem.W.Frag} {G:Hp}:∀ {ns:List Int},aX K G (ns.map di) (ns.map V.int)
  | [] => rfl
  | _::_=>⟨_,_,rfl,⟨rfl,rfl⟩,nj⟩
theorem DM (n:Int):∀ ns:List Int,uf (.int n) (ns.map V.int)=ns.any fun m=>m==n
  | [] => rfl
  | m::ms=>by
    show (fm (.int m) (.int n) || uf (.int n) (ms.map V.int))=_
    rw [DM n ms];rfl
theorem Dn (ns:List Int):(ns.map V.int).all eE=true:=by rw [List.all_map];exact List.all_eq_true.mpr fun _ _=>rfl
theorem M0 (n:Int) (ns:List Int):(ns.any fun m=>m==n)=ns.contains n:=by
  induction ns with
  | nil=>rfl
  | cons m ms ih=>rw [List.any_cons,ih,List.contains_cons];congr 1;exact Bool.beq_comm
theorem Fz {n:Int} {ns:List Int} {neg:Bool} (eb:er tb'=dis ns) {G H:Hp} {x y:V} {Q:VK} (s:av G H) (hx:Hv F.K G (er (ti n)) x) (hy:Hv F.K G (er tb') y) (k:Q (.bl (if neg then !ns.contains n else ns.contains n)) H):qL F.K neg x y H Q:=by
  rw [eb] at hy
  obtain ⟨l,vs,rfl,h1,h2⟩:=hy
  have:=kz h2
  subst this
  rw [aL hx]
  refine ⟨l,_,rfl,.inl (s.seq h1),rfl,Dn ns,?_⟩
  rw [DM,M0]
  exact k
theorem tE {n:Int} {ns:List Int} (ha:Ev F a ρ (ti n)) (hb:Ev F b ρ tb') (eb:er tb'=dis ns) (hm:behindInMarks .In b=false):Et F (.Compare a [.In] [b] pos) ρ (ns.contains n) :=
  gW (r:=qL F.K false) (fun i=>F.hK i ▸ OD) ha hb (fun G H x y Q s hx hy k=>Fz eb s hx hy k) hm
theorem nk {n:Int} {ns:List Int} (ha:Ev F a ρ (ti n)) (hb:Ev F b ρ tb') (eb:er tb'=dis ns) (hm:behindInMarks .NotIn b=false):Et F (.Compare a [.NotIn] [b] pos) ρ (!ns.contains n) :=
  gW (r:=qL F.K true) (fun i=>F.hK i ▸ MV) ha hb (fun G H x y Q s hx hy k=>Fz eb s hx hy k) hm
theorem iJ {c:Bool} (h:Ev F e ρ (tb c)) (he:∀ i whole,isTrue e (F.cx i).env whole=(do let v <- whole;standAt e.pos;holding [v] (truthy v)):=by intro _ _;rfl):Et F e ρ c:=by
  obtain ⟨τ,p,q⟩:=h
  exact ⟨tB τ,fun i=>R0 (p i) (he i),fun σ G H Q s r k=>q σ G H _ s r fun v G' H' fq st o w=>⟨c,aL o.2,k G' H' st⟩⟩
def Ew (F:aY ι) (e:Expr) (ρ:En) (b:Bool):Prop:=∃ τ:TT,(∀ i,PW (F.cx i) e τ)/\∀ σ G H Q,av G H->bW F.K G ρ σ->(∀ G' H',Step G H G' H'->Q b H') -> τ σ H Q
theorem Ew.et {p:Bool} (h:Ew F e ρ p):Et F e ρ p:=let ⟨τ,a,b⟩:=h;⟨τ,fun i=>(a i).pt,b⟩
theorem DN {X:Cx}:PW X e (fun _ _ _=>False):=fun _ _ _ _ _ _ _ h=>h.elim
theorem EB {p:Bool} (h:Et F a ρ p):Ew F (.BoolOp .And [a] pos) ρ p:=let ⟨τ,x,y⟩:=h;⟨τ,fun i=>Qh (x i),y⟩
theorem kO {p:Bool} (h:Et F a ρ p):Ew F (.BoolOp .Or [a] pos) ρ p:=let ⟨τ,x,y⟩:=h;⟨τ,fun i=>R1 (x i),y⟩
theorem FA {p q:Bool} {rest:List Expr} (h:Et F a ρ p) (h2:p=true->Ew F (.BoolOp .And (b::rest) pos) ρ q):Ew F (.BoolOp .And (a::b::rest) pos) ρ (p&&q):=by
  obtain ⟨τ,x,y⟩:=h
  cases p with
  | false=>exact ⟨yv τ _,fun i=>Fj (x i) DN,fun σ G H Q s r k=>y σ G H _ s r fun G' H' st=>j4 (k G' H' st)⟩
  | true =>
    obtain ⟨bL,x',y'⟩:=h2 rfl
    exact ⟨yv τ bL,fun i=>Fj (x i) (x' i),fun σ G H Q s r k=>y σ G H _ s r fun G1 H1 s1=>j5 (y' σ G1 H1 _ s1.s (r.mono s1.g) fun G2 H2 s2=>k G2 H2 (s1.trans s2))⟩
theorem jj {p q:Bool} {rest:List Expr} (h:Et F a ρ p) (h2:p=false->Ew F (.BoolOp .Or (b::rest) pos) ρ q):Ew F (.BoolOp .Or (a::b::rest) pos) ρ (p || q):=by
  obtain ⟨τ,x,y⟩:=h
  cases p with
  | true=>exact ⟨y6 τ _,fun i=>GV (x i) DN,fun σ G H Q s r k=>y σ G H _ s r fun G' H' st=>j5 (k G' H' st)⟩
  | false =>
    obtain ⟨bL,x',y'⟩:=h2 rfl
    exact ⟨y6 τ bL,fun i=>GV (x i) (x' i),fun σ G H Q s r k=>y σ G H _ s r fun G1 H1 s1=>j4 (y' σ G1 H1 _ s1.s (r.mono s1.g) fun G2 H2 s2=>k G2 H2 (s1.trans s2))⟩
theorem pX {p:Bool} (h:Et F a ρ p):Et F (.UnaryOp .Not a pos) ρ (!p):=by
  obtain ⟨τ,x,y⟩:=h
  exact ⟨HQ τ,fun i=>R3 (x i),fun σ G H Q s r k=>y σ G H _ s r k⟩
theorem rZ {X:Cx}:PE X e (fun _ _ _=>False):=fun _ _ _ _ _ _ h=>h.elim
theorem pY {op:BoolOp} {t:Tr} (h:Ev F a ρ t):Ev F (.BoolOp op [a] pos) ρ t:=let ⟨τ,x,y⟩:=h;⟨τ,fun i=>R4 (x i),y⟩
theorem FC {p q:Bool} {rest:List Expr} (h:Ev F a ρ (tb p)) (h2:p=true->Ev F (.BoolOp .And (b::rest) pos) ρ (tb q)):Ev F (.BoolOp .And (a::b::rest) pos) ρ (tb (p&&q)):=by
  obtain ⟨τ,x,y⟩:=h.use
  cases p with
  | false=>exact ⟨xX τ _,fun i=>Fl (x i) rZ,fun σ G H Q s r k=>y σ G H _ s r fun v G' H' st hv=>⟨false,aL hv,j4 ((k.step st).sc st.s rfl)⟩⟩
  | true =>
    obtain ⟨bL,x',y'⟩:=h2 rfl
    exact ⟨xX τ bL,fun i=>Fl (x i) (x' i),fun σ G H Q s r k=>y σ G H _ s r fun v G1 H1 s1 hv=>⟨true,aL hv,j5 (y' σ G1 H1 _ s1.s (r.mono s1.g) (k.step s1))⟩⟩
theorem kU {p q:Bool} {rest:List Expr} (h:Ev F a ρ (tb p)) (h2:p=false->Ev F (.BoolOp .Or (b::rest) pos) ρ (tb q)):Ev F (.BoolOp .Or (a::b::rest) pos) ρ (tb (p || q)):=by
  obtain ⟨τ,x,y⟩:=h.use
  cases p with
  | true=>exact ⟨yw τ _,fun i=>GX (x i) rZ,fun σ G H Q s r k=>y σ G H _ s r fun v G' H' st hv=>⟨true,aL hv,j5 ((k.step st).sc st.s rfl)⟩⟩
  | false =>
    obtain ⟨bL,x',y'⟩:=h2 rfl
    exact ⟨yw τ bL,fun i=>GX (x i) (x' i),fun σ G H Q s r k=>y σ G H _ s r fun v G1 H1 s1 hv=>⟨false,aL hv,j4 (y' σ G1 H1 _ s1.s (r.mono s1.g) (k.step s1))⟩⟩
theorem SD {p:Bool} (h:Ev F a ρ (tb p)):Ev F (.UnaryOp .Not a pos) ρ (tb (!p)):=by
  obtain ⟨τ,x,y⟩:=h.use
  exact ⟨GW τ,fun i=>R5 (x i),fun σ G H Q s r k=>y σ G H _ s r fun v G' H' st hv=>⟨p,aL hv,(k.step st).sc st.s rfl⟩⟩
theorem TF {p:Bool} (hc:Et F c ρ p) (h1:p=true->Ev F a ρ t) (h2:p=false->Ev F b ρ t):Ev F (.IfExp c a b pos) ρ t:=by
  obtain ⟨τ,x,y⟩:=hc
  cases p with
  | true =>
    obtain ⟨bL,x',y'⟩:=h1 rfl
    exact ⟨y8 τ bL _,fun i=>DG (x i) (x' i) rZ,fun σ G H Q s r k=>y σ G H _ s r fun G1 H1 s1=>j5 (y' σ G1 H1 _ s1.s (r.mono s1.g) (k.step s1))⟩
  | false =>
    obtain ⟨bL,x',y'⟩:=h2 rfl
    exact ⟨y8 τ _ bL,fun i=>DG (x i) rZ (x' i),fun σ G H Q s r k=>y σ G H _ s r fun G1 H1 s1=>j4 (y' σ G1 H1 _ s1.s (r.mono s1.g) (k.step s1))⟩
theorem cT (h:gg F es ρ ts) (hz:ts.length<=sizeLine):Ev F (.List es pos) ρ (.ow ts):=by
  obtain ⟨τ,x,y⟩:=h
  refine ⟨HW τ,fun i=>Sh (x i),fun σ G H Q s r k=>y σ G H _ s r fun vs G1 H1 fq s1 o w=>⟨by rw [<- o.length];exact hz,fun p hp=>?_⟩⟩
  have np:p ∉ fq:=fun z=>by
    obtain ⟨u,hu⟩:=o.there p z
    rw [hp] at hu;cases hu
  exact k (.ref p) G1 _ (p::fq) (s1.trans (.j6 s1.s hp)) ⟨p,vs,fq,rfl,fA,o.mono (av.refl _) (av.new hp),rfl⟩
    ⟨fun a ha=>(List.mem_cons.mp ha).elim (fun z=>by rw [z];exact s1.h.free hp) (w.n a),fun a ha=>(List.mem_cons.mp ha).elim (fun z=>by rw [z];exact s1.s.free hp) (w.g a),List.nodup_cons.mpr ⟨np,w.d⟩⟩
theorem sQ {x1} (h:gg F es ρ ts) (hz:ts.length<=sizeLine):Ev F (.Tuple es x1 pos) ρ (.tp ts):=by
  obtain ⟨τ,x,y⟩:=h
  refine ⟨yG τ,fun i=>Fq (x i),fun σ G H Q s r k=>y σ G H _ s r fun vs G1 H1 fq s1 o w=>⟨by rw [<- o.length];exact hz,fun p hp=>?_⟩⟩
  have np:p ∉ fq:=fun z=>by
    obtain ⟨u,hu⟩:=o.there p z
    rw [hp] at hu;cases hu
  exact k (.ref p) G1 _ (p::fq) (s1.trans (.j6 s1.s hp)) ⟨p,vs,fq,rfl,fA,o.mono (av.refl _) (av.new hp),rfl⟩
    ⟨fun a ha=>(List.mem_cons.mp ha).elim (fun z=>by rw [z];exact s1.h.free hp) (w.n a),fun a ha=>(List.mem_cons.mp ha).elim (fun z=>by rw [z];exact s1.s.free hp) (w.g a),List.nodup_cons.mpr ⟨np,w.d⟩⟩
theorem jd {x1} {dd:List Dv} (h:gg F es ρ ts) (ed:eK ts=dd) (hz:ts.length<=sizeLine):Ev F (.Tuple es x1 pos) ρ (.fz (.tup dd)):=ed ▸ (sQ h hz).fz
theorem aX.get {K:PySem.W.Frag} {G:Hp}:∀ {ds:List Dv} {vs:List V} {j:Nat} {d:Dv},aX K G ds vs->ds[j]?=some d->∃ v,vs[j]?=some v/\Hv K G d v
  | _::_,_,0,_,⟨x,r,h1,h2,h3⟩,h=>by cases h;subst h1;exact ⟨x,rfl,h2⟩
  | _::_,_,j+1,d,⟨x,r,h1,h2,h3⟩,h=>by
    subst h1
    obtain ⟨v,q1,q2⟩:=aX.get (j:=j) h3 h
    exact ⟨v,q1,q2⟩
theorem aX.at {K:PySem.W.Frag} {G:Hp} {ds:List Dv} {vs:List V} {k:Int} {d:Dv} (h:aX K G ds vs) (hk:aU ds k=some d):∃ v,aU vs k=some v/\Hv K G d v:=by
  unfold aU at hk ⊢
  rw [<- h.length]
  cases q:fI ds.length k with
  | none=>rw [q] at hk;cases hk
  | some j=>rw [q] at hk;exact h.get hk
theorem cm {xs:List Dv} {k:Int} {d:Dv} (ha:Ev F a ρ ta) (hb:Ev F b ρ (ti k)) (ea:er ta=.lst xs) (hk:aU xs k=some d) (hs:wW b:=by exact fun _ _=>rfl):Ev F (.Subscript a b pos) ρ (.fz d):=by
  obtain ⟨τ,p,q⟩:=ha.use
  obtain ⟨bL,p',q'⟩:=hb.use
  refine ⟨jz (yH F.K) τ bL,fun i=>Hh (Pq (F.hK i)) (p i) (p' i) hs,fun σ G H Q s rr k=>?_⟩
  refine q σ G H _ s rr fun x G1 H1 s1 hx=>q' σ G1 H1 _ s1.s (rr.mono s1.g) fun y G2 H2 s2 hy=>?_
  rw [ea] at hx
  obtain ⟨l,vs,rfl,h1,h2⟩:=hx
  obtain ⟨v,h3,h4⟩:=h2.at hk
  exact ⟨l,vs,_,v,rfl,aL hy,(s2.g.trans s2.s).seq h1,h3,(k.step (s1.trans s2)).dat s2.s (h4.mono s2.g)⟩
theorem aW {xs:List Dv} {k:Int} {d:Dv} (ha:Ev F a ρ ta) (hb:Ev F b ρ (ti k)) (ea:er ta=.tup xs) (hk:aU xs k=some d) (hs:wW b:=by exact fun _ _=>rfl):Ev F (.Subscript a b pos) ρ (.fz d):=by
  obtain ⟨τ,p,q⟩:=ha.use
  obtain ⟨bL,p',q'⟩:=hb.use
  refine ⟨jz (yI F.K) τ bL,fun i=>Hh (QB (F.hK i)) (p i) (p' i) hs,fun σ G H Q s rr k=>?_⟩
  refine q σ G H _ s rr fun x G1 H1 s1 hx=>q' σ G1 H1 _ s1.s (rr.mono s1.g) fun y G2 H2 s2 hy=>?_
  rw [ea] at hx
  obtain ⟨l,vs,rfl,h1,h2⟩:=hx
  obtain ⟨v,h3,h4⟩:=h2.at hk
  exact ⟨l,vs,_,v,rfl,aL hy,(s2.g.trans s2.s).tup h1,h3,(k.step (s1.trans s2)).dat s2.s (h4.mono s2.g)⟩
def cutD {α:Type} (xs:List α) (lo hi:Option Int):List α:=(xs.drop (HT.dN xs.length 0 lo)).take (HT.dN xs.length xs.length hi-HT.dN xs.length 0 lo)
theorem aX.drop {K:PySem.W.Frag} {G:Hp}:∀ {ds:List Dv} {vs:List V} (n:Nat),aX K G ds vs->aX K G (ds.drop n) (vs.drop n)
  | ds,vs,0,h=>h
  | [],_,n+1,h=>by rw [show _=[] from h];exact rfl
  | _::_,_,n+1,⟨x,r,h1,h2,h3⟩=>by subst h1;exact aX.drop n h3
theorem aX.take {K:PySem.W.Frag} {G:Hp}:∀ {ds:List Dv} {vs:List V} (n:Nat),aX K G ds vs->aX K G (ds.take n) (vs.take n)
  | ds,vs,0,h=>by simp only [List.take_zero];exact rfl
  | [],_,n+1,h=>by rw [show _=[] from h];exact rfl
  | _::_,_,n+1,⟨x,r,h1,h2,h3⟩=>by subst h1;exact ⟨x,r.take n,rfl,h2,aX.take n h3⟩
theorem aX.cut {K:PySem.W.Frag} {G:Hp} {ds:List Dv} {vs:List V} (h:aX K G ds vs) (lo hi:Option Int):aX K G (cutD ds lo hi) (ot vs lo hi):=by
  unfold cutD ot
  rw [h.length]
  exact (h.drop _).take _
def Eo (F:aY ι) (e:Option Expr) (ρ:En) (o:Option Int):Prop:=∃ τ:TO,(∀ i,PO (F.cx i) e τ)/\∀ σ G H Q,av G H->bW F.K G ρ σ->(∀ G' H',Step G H G' H'->Q o H') -> τ σ H Q
theorem EC:Eo F none ρ none:=⟨Ex,fun _=>Qo,fun σ G H Q s r k=>k G H (.refl s)⟩
theorem sE {n:Int} (h:Ev F e ρ (ti n)):Eo F (some e) ρ (some n):=by
  obtain ⟨τ,x,y⟩:=h.use
  exact ⟨Hg τ,fun i=>Qp (x i),fun σ G H Q s r k=>y σ G H _ s r fun v G' H' st hv=>⟨n,aL hv,k G' H' st⟩⟩
theorem wy {lo hi:Option Expr} {l u:Option Int} {xs:List Dv} {p2:Pos} (ha:Ev F a ρ ta) (ea:er ta=.lst xs) (hl:Eo F lo ρ l) (hu:Eo F hi ρ u):Ev F (.Subscript a (.Slice lo hi none p2) pos) ρ (.ow ((cutD xs l u).map .fz)):=by
  obtain ⟨τ,p,q⟩:=ha.use
  obtain ⟨Z3,p1,q1⟩:=hl
  obtain ⟨Z4,uk,q2⟩:=hu
  refine ⟨JK (HX F.K) τ Z3 Z4,fun i=>Pg (F.hK i ▸ Qr) (p i) (p1 i) (uk i),fun σ G H Q s rr k=>?_⟩
  refine q σ G H _ s rr fun x G1 H1 s1 hx=>q1 σ G1 H1 _ s1.s (rr.mono s1.g) fun G2 H2 s2=>q2 σ G2 H2 _ s2.s (rr.mono (s1.trans s2).g) fun G3 H3 s3=>?_
  rw [ea] at hx
  obtain ⟨b,vs,rfl,h1,h2⟩:=hx
  have st:=s2.trans s3
  exact ⟨b,vs,rfl,(st.g.trans st.s).seq h1,fun p hp=>(k.step (s1.trans st)).lst st.s ((h2.mono st.g).cut l u).iz hp⟩
theorem pE {id:String} {x:Str} {r:List V->Hp->VK->Prop} (hc:∀ i,eD (F.cx i) (.builtin id) r) (hm:F.mg x=none) (hv:bootBuiltins x=some (.builtin id)) (ha:gg F (e::es) ρ ts)
    (h:∀ G H xs Q,av G H->aX F.K G (eK ts) xs->Kv F.K G H t Q->r xs H Q) {p':Pos} (hg:∀ i,Gl (F.cx i) x:=by intro _;rfl) (hn:x ≠ "__name__" := by decide) (fk:(x==("__debug__" : Str))=false:=by decide)
    (he:∀ i,starEach (e::es) (F.cx i).env=(false,eval e (F.cx i).env)::starEach es (F.cx i).env:=by intro _;rfl) (eZ:∀ i,(backTo pos (starEach es (F.cx i).env)).any (·.1)=false:=by intro _;rfl):Ev F (.Call (.Name x p') (e::es) [] pos) ρ t:=by
  obtain ⟨τ,y,z⟩:=ha.use
  refine ⟨jA r τ,fun i=>rX (hc i) (hg i) ((F.hm i).symm ▸ hm) hv (y i) hn fk (he i) (eZ i),fun σ G H Q s rr k=>z σ G H _ s rr fun vs G1 H1 s1 hx=>?_⟩
  exact h G1 H1 vs Q s1.s hx (k.step s1)
theorem Pt {T:String} {x:Str} {r:List V->Hp->VK->Prop} (hc:∀ i,eD (F.cx i) (.type T) r) (hm:F.mg x=none) (hv:bootBuiltins x=some (.type T)) (ha:gg F (e::es) ρ ts)
    (h:∀ G H xs Q,av G H->aX F.K G (eK ts) xs->Kv F.K G H t Q->r xs H Q) {p':Pos} (hg:∀ i,Gl (F.cx i) x:=by intro _;rfl) (hn:x ≠ "__name__" := by decide) (fk:(x==("__debug__" : Str))=false:=by decide)
    (he:∀ i,starEach (e::es) (F.cx i).env=(false,eval e (F.cx i).env)::starEach es (F.cx i).env:=by intro _;rfl) (eZ:∀ i,(backTo pos (starEach es (F.cx i).env)).any (·.1)=false:=by intro _;rfl):Ev F (.Call (.Name x p') (e::es) [] pos) ρ t:=by
  obtain ⟨τ,y,z⟩:=ha.use
  refine ⟨jA r τ,fun i=>rQ (hc i) (hg i) ((F.hm i).symm ▸ hm) hv (y i) hn fk (he i) (eZ i),fun σ G H Q s rr k=>z σ G H _ s rr fun vs G1 H1 s1 hx=>?_⟩
  exact h G1 H1 vs Q s1.s hx (k.step s1)
theorem jt {K:PySem.W.Frag} {G:Hp} {d:Dv} {xs:List V} (h:aX K G [d] xs):∃ x,xs=[x]/\Hv K G d x:=by
  obtain ⟨x,r,h1,h2,h3⟩:=h
  exact ⟨x,by rw [h1,show r=[] from h3],h2⟩
theorem cL {xs:List Dv} (hm:F.mg "len" = none) (ha:Ev F e ρ ta) (ea:er ta=.lst xs\/er ta=.tup xs) {p':Pos} (hg:∀ i,Gl (F.cx i) "len" := by intro _;rfl)
    (hs:∀ i,starEach [e] (F.cx i).env=[(false,eval e (F.cx i).env)]:=by intro _;rfl):Ev F (.Call (.Name "len" p') [e] [] pos) ρ (ti xs.length) :=
  pE (r:=fun xs H Q=>∃ p ys,xs=[.ref p]/\(bj F.K H p ys\/cB F.K H p ys)/\Q (.int ys.length) H) (fun i=>OI (F.hK i)) hm Fx (ah ha ao hs) (fun G H vs Q s hx k=>by
    obtain ⟨x,rfl,fJ⟩:=jt hx
    replace hx:=fJ
    rcases ea with ea | ea
    · rw [ea] at hx
      obtain ⟨l,ys,rfl,h1,h2⟩:=hx
      exact ⟨l,ys,rfl,.inl (s.seq h1),by rw [<- h2.length];exact k.sc s rfl⟩
    · rw [ea] at hx
      obtain ⟨l,ys,rfl,h1,h2⟩:=hx
      exact ⟨l,ys,rfl,.inr (s.tup h1),by rw [<- h2.length];exact k.sc s rfl⟩) hg (by decide) (by decide) hs (fun _=>rfl)
theorem pM {xs:List Dv} (hm:F.mg "list" = none) (ha:Ev F e ρ ta) (ea:er ta=.lst xs\/er ta=.tup xs) {p':Pos} (hg:∀ i,Gl (F.cx i) "list" := by intro _;rfl)
    (hs:∀ i,starEach [e] (F.cx i).env=[(false,eval e (F.cx i).env)]:=by intro _;rfl):Ev F (.Call (.Name "list" p') [e] [] pos) ρ (.ow (xs.map .fz)) :=
  Pt (r:=fun xs H Q=>∃ p ys,xs=[.ref p]/\(bj F.K H p ys\/cB F.K H p ys)/\∀ l,H l=none->Q (.ref l) (upd H l (.lst ys))) (fun i=>F.hK i ▸ MY) hm w4 (ah ha ao hs) (fun G H vs Q s hx k=>by
    obtain ⟨x,rfl,fJ⟩:=jt hx
    replace hx:=fJ
    rcases ea with ea | ea
    · rw [ea] at hx
      obtain ⟨l,ys,rfl,h1,h2⟩:=hx
      exact ⟨l,ys,rfl,.inl (s.seq h1),fun p hp=>k.lst s h2.iz hp⟩
    · rw [ea] at hx
      obtain ⟨l,ys,rfl,h1,h2⟩:=hx
      exact ⟨l,ys,rfl,.inr (s.tup h1),fun p hp=>k.lst s h2.iz hp⟩) hg (by decide) (by decide) hs (fun _=>rfl)
theorem xI {n:Int} (hm:F.mg "abs" = none) (ha:Ev F e ρ (ti n)) {p':Pos} (hg:∀ i,Gl (F.cx i) "abs" := by intro _;rfl)
    (hs:∀ i,starEach [e] (F.cx i).env=[(false,eval e (F.cx i).env)]:=by intro _;rfl):Ev F (.Call (.Name "abs" p') [e] [] pos) ρ (ti (if n<0 then -n else n)) :=
  pE (fun i=>Pb) hm Su (ah ha ao hs) (fun G H vs Q s hx k=>by
    obtain ⟨x,rfl,fJ⟩:=jt hx
    replace hx:=fJ
    exact ⟨n,by rw [aL hx],k.sc s rfl⟩) hg (by decide) (by decide) hs (fun _=>rfl)
def JQ:Dv->Value
  | .fl .aN=>.type "NoneType"
  | .fl (.bl _)=>.type "bool"
  | .fl (.int _)=>.type "int"
  | .fl (.str _)=>.type "str"
  | .fl _=>.none
  | .lst _=>.type "list"
  | .tup _=>.type "tuple"
def Ia (K:PySem.W.Frag) (d:Dv) (n:String) (b:Bool):List V->Hp->VK->Prop:=fun xs H Q=>∃ x,xs=[x,.ty n]/\Hv K H d x/\PySem.W.kitOne K (JQ d) (.type n)=some b/\Q (.bl b) H
theorem Pu {X:Cx} {d:Dv} {n:String} {b:Bool}:eD X (.builtin "isinstance") (Ia X.K d n b):=by
  intro pins s σ H xs us Q I r h
  obtain ⟨x,rfl,hx,hb,q⟩:=h
  cases r with
  | cons r1 rr=>cases rr with
    | cons r2 rr =>
      cases rr
      cases (show _=Value.type n from r2)
      have fin:∀ tk,EP X pins σ Q (.bool b) { s with toks:=tk }:=fun tk=>⟨.bl b,H,I.tok tk,rfl,q⟩
      cases d with
      | fl v =>
        obtain ⟨rfl,f⟩:=hx
        cases x with
        | aN=>exact rP I r1 .aN hb fin
        | bl y=>exact rP I r1 (.bl y) hb fin
        | int y=>exact rP I r1 (.int y) hb fin
        | str y=>exact rP I r1 (.str y) hb fin
        | gN y=>cases f
        | lu y=>cases f
        | ref y=>cases f
        | ty y=>cases f
      | lst ds =>
        obtain ⟨a,xs,rfl,h1,_⟩:=hx
        cases r1
        obtain ⟨af,_,⟨o,n,h2,h3,_⟩,_⟩:=I.list h1
        exact PySem.W.kia_one PySem.W.kitx_list I.dH ⟨o,h2,h3⟩ hb (fun z=>nomatch z) fin
      | tup ds =>
        obtain ⟨a,xs,rfl,h1,_⟩:=hx
        cases r1
        obtain ⟨af,_,⟨o,h2,h3,_⟩,_⟩:=I.tuple h1
        exact PySem.W.kia_one PySem.W.kitx_tuple I.dH ⟨o,h2,h3⟩ hb (fun z=>nomatch z) fin
theorem sR {x:Str} {n:String} {bo:Bool} (hm:F.mg "isinstance" = none) (lQ:F.mg x=none) (hv:bootBuiltins x=some (.type n)) (ha:Ev F e ρ ta) (hk:PySem.W.kitOne F.K (JQ (er ta)) (.type n)=some bo) {p' p2:Pos} (hg:∀ i,Gl (F.cx i) "isinstance" := by intro _;rfl)
    (iT:∀ i,Gl (F.cx i) x:=by intro _;rfl) (hn:x ≠ "__name__" := by decide) (hd:(x==("__debug__" : Str))=false:=by decide)
    (hs:∀ i,starEach [e,.Name x p2] (F.cx i).env=[(false,eval e (F.cx i).env),(false,eval (.Name x p2) (F.cx i).env)]:=by intro _;rfl):Ev F (.Call (.Name "isinstance" p') [e,.Name x p2] [] pos) ρ (tb bo):=by
  obtain ⟨τ,y,z⟩:=ha.use
  refine ⟨jA (Ia F.K (er ta) n bo) (dZ τ (dZ (tC (.ty n)) fc)),fun i=>rX (F.hK i ▸ Pu) (hg i) ((F.hm i).symm ▸ hm) Ms (dw (y i) (dw (Qg (v:=.ty n) (iT i) ((F.hm i).symm ▸ lQ) hv rfl hn hd) eT rfl) (hs i)) (by decide) (by decide) (hs i) rfl,fun σ G H Q s rr k=>z σ G H _ s rr fun vs G1 H1 s1 hx=>?_⟩
  exact ⟨vs,rfl,hx.mono s1.s,hk,(k.step s1).sc s1.s rfl⟩
def spT (K:PySem.W.Frag) (R:List Dv->Tr->Prop):Sp:=fun vs H Q _=>∃ G ds t,av G H/\aX K G ds vs/\R ds t/\Kv K G H t Q
theorem aM {k:Nat} {f:Addr} {fd:FuncData} {ps:List Str} {R:List Dv->Tr->Prop} {x:Str} (Fn:Kn F.P F.w F.K F.mg F.base aj k x f fd ps (spT F.K R)) (hk:k<=F.room) (ha:gg F (e::es) ρ ts) (hR:R (eK ts) t) {p':Pos} (hg:∀ i,Gl (F.cx i) x:=by intro _;rfl) (fk:(x==("__debug__" : Str))=false:=by decide)
    (he:∀ i,starEach (e::es) (F.cx i).env=(false,eval e (F.cx i).env)::starEach es (F.cx i).env:=by intro _;rfl) (eZ:∀ i,(backTo pos (starEach es (F.cx i).env)).any (·.1)=false:=by intro _;rfl):Ev F (.Call (.Name x p') (e::es) [] pos) ρ t:=by
  obtain ⟨τ,y,z⟩:=ha.use
  refine ⟨tu (spT F.K R) [] E0 τ,fun i=>?_,fun σ G H Q s rr k=>z σ G H _ s rr fun vs G1 H1 s1 hx=>?_⟩
  · have qS:Kn (F.cx i).prog (F.cx i).w (F.cx i).K (F.cx i).mg (F.cx i).base aj k x f fd ps (spT F.K R):=by
      rw [F.hP i,F.hw i,F.hK i,F.hm i,F.hb i]
      exact Fn
    exact Tw qS ((F.hr i).mono hk) (hg i) (y i) fk (he i) (eZ i)
  · show spT F.K R (vs++[]) H1 Q E0
    rw [List.append_nil]
    exact ⟨G1,_,t,s1.s,hx,hR,k.step s1⟩
end
end L2
namespace L2
open PySem PySem.Spec PyProof.Rows
def aZ (K:PySem.W.Frag) (G H:Hp):En->St->List Addr->Prop
  | [],σ,fp=>σ=[]/\fp=[]
  | none :: ρ,σ,fp=>∃ o r,σ=o::r/\aZ K G H ρ r fp
  | some t :: ρ,σ,fp=>∃ v r f1 f2,σ=some v::r/\fp=f1++f2/\Ow K G H t v f1/\aZ K G H ρ r f2
theorem aZ.mono {K:PySem.W.Frag} {G G' H H':Hp} (e:av G G') (e':av H H'):∀ {ρ:En} {σ:St} {fp:List Addr},aZ K G H ρ σ fp->aZ K G' H' ρ σ fp
  | [],_,_,h=>h
  | none::_,_,_,⟨o,r,h1,h2⟩=>⟨o,r,h1,aZ.mono e e' h2⟩
  | some _::_,_,_,⟨v,r,f1,f2,h1,h2,h3,h4⟩=>⟨v,r,f1,f2,h1,h2,h3.mono e e',aZ.mono e e' h4⟩
theorem aZ.frame {K:PySem.W.Frag} {G H:Hp} {a:Addr} {o:HO}:∀ {ρ:En} {σ:St} {fp:List Addr},aZ K G H ρ σ fp->a ∉ fp->aZ K G (upd H a o) ρ σ fp
  | [],_,_,h,_=>h
  | none::_,_,_,⟨o,r,h1,h2⟩,n=>⟨o,r,h1,aZ.frame h2 n⟩
  | some _::_,_,_,⟨v,r,f1,f2,h1,h2,h3,h4⟩,n=>by
    subst h2
    exact ⟨v,r,f1,f2,h1,rfl,h3.frame fun z=>n (List.mem_append_left _ z),aZ.frame h4 fun z=>n (List.mem_append_right _ z)⟩
theorem aZ.there {K:PySem.W.Frag} {G H:Hp}:∀ {ρ:En} {σ:St} {fp:List Addr},aZ K G H ρ σ fp->∀ a ∈ fp,∃ o,H a=some o
  | [],_,_,⟨_,h⟩,a,ha=>by subst h;cases ha
  | none::_,_,_,⟨o,r,h1,h2⟩,a,ha=>aZ.there h2 a ha
  | some _::_,_,_,⟨v,r,f1,f2,h1,h2,h3,h4⟩,a,ha=>by
    subst h2
    rcases List.mem_append.mp ha with ha | ha
    · exact h3.there a ha
    · exact aZ.there h4 a ha
theorem aZ.off {K:PySem.W.Frag} {G H G1 H1:Hp} {ρ:En} {σ:St} {fp:List Addr} (r:aZ K G H ρ σ fp) (s1:Step G H G1 H1) (g:∀ a ∈ fp,G a=none):∀ a ∈ fp,G1 a=none:=fun a ha=>by
  cases q:G1 a with
  | none=>rfl
  | some u =>
    obtain ⟨u',aQ⟩:=r.there a ha
    have:=s1.n a (g a ha) (by rw [q];exact fun z=>nomatch z)
    rw [aQ] at this
    cases this
theorem aZ.oH {K:PySem.W.Frag} {G H:Hp}:∀ {ρ:En} {σ:St} {fp:List Addr},aZ K G H ρ σ fp->bW K G ρ σ
  | [],_,_,_,j,d,h=>by cases j<;>cases h
  | none::_,_,_,⟨o,r,h1,h2⟩,0,d,h=>by cases h
  | none::_,_,_,⟨o,r,h1,h2⟩,j+1,d,h=>by subst h1;exact aZ.oH h2 j d h
  | some _::_,_,_,⟨v,r,f1,f2,h1,h2,h3,h4⟩,0,d,h=>by cases h;subst h1;exact ⟨v,rfl,h3.2⟩
  | some _::_,_,_,⟨v,r,f1,f2,h1,h2,h3,h4⟩,j+1,d,h=>by subst h1;exact aZ.oH h4 j d h
def pk (ρ:En):En:=ρ.map (Option.map fun t=>.fz (er t))
theorem aZ.pk {K:PySem.W.Frag} {G H G':Hp} (e:av G G'):∀ {ρ:En} {σ:St} {fp:List Addr},aZ K G H ρ σ fp->(∀ a ∈ fp,G' a=H a)->bW K G' (pk ρ) σ
  | [],_,_,_,_,j,d,h=>by cases j<;>cases h
  | none::_,_,_,⟨o,r,h1,h2⟩,_,0,d,h=>by cases h
  | none::_,_,_,⟨o,r,h1,h2⟩,q,j+1,d,h=>by subst h1;exact aZ.pk e h2 q j d h
  | some _::_,_,_,⟨v,r,f1,f2,h1,h2,h3,h4⟩,q,0,d,h=>by
    cases h;subst h1 h2;exact ⟨v,rfl,h3.hv e fun a ha=>q a (List.mem_append_left _ ha)⟩
  | some _::_,_,_,⟨v,r,f1,f2,h1,h2,h3,h4⟩,q,j+1,d,h=>by
    subst h1 h2;exact aZ.pk e h4 (fun a ha=>q a (List.mem_append_right _ ha)) j d h
theorem aZ.split {K:PySem.W.Frag} {G H:Hp}:∀ {ρ:En} {σ:St} {fp:List Addr} {j:Nat} {t:Tr},aZ K G H ρ σ fp -> ρ[j]?=some (some t) ->
    ∃ v f fr,σ[j]?=some (some v)/\Ow K G H t v f/\aZ K G H (ρ.set j none) σ fr/\fp.Perm (f++fr)
  | none::_,_,_,0,_,_,h=>by cases h
  | none::_,_,_,j+1,t,⟨o,r,h1,h2⟩,h=>by
    subst h1
    obtain ⟨v,f,fr,q1,q2,q3,q4⟩:=aZ.split (j:=j) h2 h
    exact ⟨v,f,fr,q1,q2,⟨o,r,rfl,q3⟩,q4⟩
  | some _::_,_,_,0,t,⟨v,r,f1,f2,h1,h2,h3,h4⟩,h=>by
    cases h;subst h1 h2
    exact ⟨v,f1,f2,rfl,h3,⟨some v,r,rfl,h4⟩,.refl _⟩
  | some _::_,_,_,j+1,t,⟨v,r,f1,f2,h1,h2,h3,h4⟩,h=>by
    subst h1 h2
    obtain ⟨v',f,fr,q1,q2,q3,q4⟩:=aZ.split (j:=j) h4 h
    refine ⟨v',f,f1++fr,q1,q2,⟨v,r,f1,fr,rfl,rfl,h3,q3⟩,?_⟩
    refine (List.Perm.append_left f1 q4).trans ?_
    rw [<- List.append_assoc,<- List.append_assoc]
    exact List.Perm.append_right fr List.perm_append_comm
theorem aZ.forget {K:PySem.W.Frag} {G H:Hp}:∀ {ρ:En} {σ:St} {fp:List Addr} (j:Nat),aZ K G H ρ σ fp->∃ fr,aZ K G H (ρ.set j none) σ fr/\fr.Sublist fp
  | [],_,_,_,h=>⟨_,h,.refl _⟩
  | none::_,_,_,0,⟨o,r,h1,h2⟩=>⟨_,⟨o,r,h1,h2⟩,.refl _⟩
  | none::_,_,_,j+1,⟨o,r,h1,h2⟩=>by
    obtain ⟨fr,q1,q2⟩:=aZ.forget j h2
    exact ⟨fr,⟨o,r,h1,q1⟩,q2⟩
  | some _::_,_,_,0,⟨v,r,f1,f2,h1,h2,h3,h4⟩=>⟨f2,⟨some v,r,h1,h4⟩,h2 ▸ List.sublist_append_right _ _⟩
  | some _::_,_,_,j+1,⟨v,r,f1,f2,h1,h2,h3,h4⟩=>by
    obtain ⟨fr,q1,q2⟩:=aZ.forget j h4
    exact ⟨f1++fr,⟨v,r,f1,fr,h1,rfl,h3,q1⟩,h2 ▸ List.Sublist.append (.refl _) q2⟩
theorem aZ.put {K:PySem.W.Frag} {G H:Hp}:∀ {ρ:En} {σ:St} {fr:List Addr} {j:Nat} {t:Tr} {v:V} {f:List Addr},aZ K G H ρ σ fr -> ρ[j]?=some none->Ow K G H t v f ->
    ∃ fp,aZ K G H (ρ.set j (some t)) (σ.set j (some v)) fp/\fp.Perm (f++fr)
  | none::_,_,fr,0,t,v,f,⟨o,r,h1,h2⟩,_,w=>by subst h1;exact ⟨_,⟨v,r,f,fr,rfl,rfl,w,h2⟩,.refl _⟩
  | none::_,_,_,j+1,t,v,f,⟨o,r,h1,h2⟩,h,w=>by
    subst h1
    obtain ⟨fp,q1,q2⟩:=aZ.put (j:=j) h2 h w
    exact ⟨fp,⟨o,_,rfl,q1⟩,q2⟩
  | some _::_,_,_,0,_,_,_,_,h,_=>by cases h
  | some _::_,_,_,j+1,t,v,f,⟨v',r,f1,f2,h1,h2,h3,h4⟩,h,w=>by
    subst h1 h2
    obtain ⟨fp,q1,q2⟩:=aZ.put (j:=j) h4 h w
    refine ⟨f1++fp,⟨v',_,f1,fp,rfl,rfl,h3,q1⟩,?_⟩
    refine (List.Perm.append_left f1 q2).trans ?_
    rw [<- List.append_assoc,<- List.append_assoc]
    exact List.Perm.append_right f2 List.perm_append_comm
structure dP (K:PySem.W.Frag) (G0 H0 G H:Hp) (ρ:En) (σ:St) (fp:List Addr):Prop where
  st:Step G0 H0 G H
  own:aZ K G H ρ σ fp
  g:∀ a ∈ fp,G a=none
  n:∀ a ∈ fp,H0 a=none
  d:fp.Nodup
def RS (K:PySem.W.Frag) (G0 H0 G H:Hp) (ρ:En) (σ:St):Prop:=∃ fp,dP K G0 H0 G H ρ σ fp
theorem vD {α:Type} {ρ:List (Option α)} {j:Nat} (h:j < ρ.length):(ρ.set j none)[j]?=some none:=by rw [List.getElem?_set];simp [h]
theorem dP.forget {K:PySem.W.Frag} {G0 H0 G H:Hp} {ρ:En} {σ:St} {fp:List Addr} (r:dP K G0 H0 G H ρ σ fp) (j:Nat):∃ fr,dP K G0 H0 G H (ρ.set j none) σ fr/\fr.Sublist fp:=by
  obtain ⟨fr,q1,q2⟩:=r.own.forget j
  exact ⟨fr,⟨r.st,q1,fun a ha=>r.g a (q2.subset ha),fun a ha=>r.n a (q2.subset ha),r.d.sublist q2⟩,q2⟩
theorem RS.forget {K:PySem.W.Frag} {G0 H0 G H:Hp} {ρ:En} {σ:St} (r:RS K G0 H0 G H ρ σ) (j:Nat):RS K G0 H0 G H (ρ.set j none) σ:=by
  obtain ⟨fp,r⟩:=r
  obtain ⟨fr,q,_⟩:=r.forget j
  exact ⟨fr,q⟩
theorem dP.set {K:PySem.W.Frag} {G0 H0 G H G1 H1:Hp} {ρ:En} {σ:St} {fp fq:List Addr} {j:Nat} {t:Tr} {v:V} (r:dP K G0 H0 G H ρ σ fp) (hj:j < ρ.length) (e:Step G H G1 H1) (o:Ow K G1 H1 t v fq) (w:Nw H G1 fq) :
    RS K G0 H0 G1 H1 (ρ.set j (some t)) (σ.set j (some v)):=by
  obtain ⟨fr,r1,sub⟩:=r.forget j
  have Ur:=r1.own.mono e.g e.h
  obtain ⟨iU,q1,q2⟩:=Ur.put (vD hj) o
  rw [List.set_set] at q1
  have dis:∀ a ∈ fq,∀ b ∈ fr,a ≠ b:=fun a ha b hb z=>by
    subst z
    obtain ⟨u,hu⟩:=r1.own.there a hb
    rw [w.n a ha] at hu;cases hu
  refine ⟨iU,r.st.trans e,q1,fun a ha=>?_,fun a ha=>?_,q2.nodup_iff.mpr (List.nodup_append.mpr ⟨w.d,r1.d,dis⟩)⟩
  · rcases List.mem_append.mp (q2.mem_iff.mp ha) with z | z
    · exact w.g a z
    · cases q:G1 a with
      | none=>rfl
      | some u =>
        obtain ⟨u',aQ⟩:=r1.own.there a z
        have:=e.n a (r1.g a z) (by rw [q];exact fun z=>nomatch z)
        rw [aQ] at this;cases this
  · rcases List.mem_append.mp (q2.mem_iff.mp ha) with z | z
    · exact r.st.h.free (w.n a z)
    · exact r1.n a z
def less (H:Hp) (fp:List Addr):Hp:=fun a=>if a ∈ fp then none else H a
theorem ED {H:Hp} {fp:List Addr} {a:Addr} (h:a ∈ fp):less H fp a=none:=by unfold less;rw [if_pos h]
theorem DP {H:Hp} {fp:List Addr} {a:Addr} (h:a ∉ fp):less H fp a=H a:=by unfold less;rw [if_neg h]
theorem Pw {H:Hp} {fp:List Addr}:av (less H fp) H:=fun b o e=>by
  by_cases q:b ∈ fp
  · rw [ED q] at e;cases e
  · rw [DP q] at e;exact e
theorem Dp {G H:Hp} {fp:List Addr} (s:av G H) (h:∀ a ∈ fp,G a=none):av G (less H fp):=fun b o e=>by
  by_cases q:b ∈ fp
  · rw [h b q] at e;cases e
  · rw [DP q];exact s b o e
theorem dP.rebase {K:PySem.W.Frag} {G0 H0 G H:Hp} {ρ:En} {σ:St} {fp:List Addr} (r:dP K G0 H0 G H ρ σ fp):dP K G (less H fp) G H ρ σ fp :=
  ⟨⟨av.refl _,Pw,r.st.s,fun a h h'=>absurd h h'⟩,r.own,r.g,fun a ha=>ED ha,r.d⟩
theorem dP.base {K:PySem.W.Frag} {G0 H0 G H:Hp} {ρ:En} {σ:St} {fp:List Addr} (r:dP K G0 H0 G H ρ σ fp):Step G0 H0 G (less H fp) :=
  ⟨r.st.g,Dp r.st.h r.n,Dp r.st.s r.g,r.st.n⟩
theorem RS.under {K:PySem.W.Frag} {G0 H0 G1 H1 G H:Hp} {ρ:En} {σ:St} (e:Step G0 H0 G1 H1) (r:RS K G1 H1 G H ρ σ):RS K G0 H0 G H ρ σ:=by
  obtain ⟨fp,r⟩:=r
  exact ⟨fp,e.trans r.st,r.own,r.g,fun a ha=>e.h.free (r.n a ha),r.d⟩
inductive Out where
  | nx (ρ:En)
  | rt (t:Tr)
def tS (K:PySem.W.Frag) (G0 H0:Hp) (D:Ends):Out->Prop
  | .nx ρ => ∀ σ G H,RS K G0 H0 G H ρ σ->D.nx σ H
  | .rt t=>∀ v G H fq,Step G0 H0 G H->Ow K G H t v fq->Nw H0 G fq->D.rt v H
theorem tS.under {K:PySem.W.Frag} {G0 H0 G1 H1:Hp} {D:Ends} {o:Out} (e:Step G0 H0 G1 H1) (p:tS K G0 H0 D o):tS K G1 H1 D o:=by
  cases o with
  | nx ρ => exact fun σ G H r=>p σ G H (r.under e)
  | rt t=>exact fun v G H fq s o w=>p v G H fq (e.trans s) o ⟨fun a ha=>e.h.free (w.n a ha),w.g,w.d⟩
def JR (K:PySem.W.Frag) (τ:TS) (ρ:En) (o:Out):Prop:=∀ D σ G0 H0 G H,RS K G0 H0 G H ρ σ->tS K G0 H0 D o -> τ D σ H
section
variable {ι:Type}
def Rn (F:aY ι) (st:Stmt) (ρ:En) (o:Out):Prop:=∃ τ:TS,(∀ i,PS (F.cx i) st τ)/\JR F.K τ ρ o
def bb (F:aY ι) (cC:List Stmt) (ρ:En) (o:Out):Prop:=∃ τ:TS,(∀ i,eI (F.cx i) cC τ)/\JR F.K τ ρ o
def bH (F:aY ι) (e:Expr) (ρ:En) (t:Tr):Prop:=∃ τ:TE,(∀ i,PE (F.cx i) e τ)/\∀ σ G H fp Q,av G H->aZ F.K G H ρ σ fp->(∀ a ∈ fp,G a=none)->Kv F.K G H t Q -> τ σ H Q
def cX (F:aY ι) (e:Expr) (ρ:En) (b:Bool):Prop:=∃ τ:TT,(∀ i,PT (F.cx i) e τ)/\∀ σ G H fp Q,av G H->aZ F.K G H ρ σ fp->(∀ a ∈ fp,G a=none)->(∀ G' H',Step G H G' H'->Q b H') -> τ σ H Q
variable {F:aY ι} {e a b c:Expr} {es:List Expr} {ρ ρ1:En} {t:Tr} {ts:List Tr} {pos:Pos} {o:Out} {st:Stmt} {cC A B:List Stmt}
theorem Ev.s (h:Ev F e ρ t):bH F e ρ t:=let ⟨τ,x,y⟩:=h;⟨τ,x,fun σ G H fp Q s r _ k=>y σ G H Q s r.oH k⟩
theorem Et.s {p:Bool} (h:Et F e ρ p):cX F e ρ p:=let ⟨τ,x,y⟩:=h;⟨τ,x,fun σ G H fp Q s r _ k=>y σ G H Q s r.oH k⟩
mutual
def Cl:Tr->Prop
  | .fz (.fl _)=>True
  | .fz _=>False
  | .ow ts=>qy ts
  | .tp ts=>qy ts
def qy:List Tr->Prop
  | [] => True
  | t::ts=>Cl t/\qy ts
end
mutual
theorem Ow.cl {K:PySem.W.Frag} {G G' H:Hp}:∀ {t:Tr} {v:V} {fp:List Addr},Cl t->Ow K G H t v fp->Ow K G' H t v fp
  | .fz (.fl _),_,_,_,h=>h
  | .fz (.lst _),_,_,c,_=>c.elim
  | .fz (.tup _),_,_,c,_=>c.elim
  | .ow _,_,_,c,⟨b,vs,fq,h1,h2,h3,h4⟩=>⟨b,vs,fq,h1,h2,aS.cl c h3,h4⟩
  | .tp _,_,_,c,⟨b,vs,fq,h1,h2,h3,h4⟩=>⟨b,vs,fq,h1,h2,aS.cl c h3,h4⟩
theorem aS.cl {K:PySem.W.Frag} {G G' H:Hp}:∀ {ts:List Tr} {vs:List V} {fp:List Addr},qy ts->aS K G H ts vs fp->aS K G' H ts vs fp
  | [],_,_,_,h=>h
  | _::_,_,_,⟨c1,c2⟩,⟨v,r,f1,f2,h1,h2,h3,h4⟩=>⟨v,r,f1,f2,h1,h2,h3.cl c1,aS.cl c2 h4⟩
end
theorem sF:∀ ns:List Int,qy (ns.map fun n=>Tr.fz (di n))
  | [] => True.intro
  | _::ns=>⟨True.intro,sF ns⟩
theorem Ev.pk (h:Ev F e (pk ρ) t) (c:Cl t):bH F e ρ t:=by
  obtain ⟨τ,x,y⟩:=h
  refine ⟨τ,x,fun σ G H fp Q s r hg k=>?_⟩
  refine y σ (fh G H fp) H Q (pD s) (r.pk (jM hg) fun a ha=>jQ ha) fun v G' H' fq st o w=>?_
  refine k v G H' fq ⟨av.refl _,st.h,s.trans st.h,fun a h h'=>absurd h h'⟩ (o.cl c) ⟨w.n,fun a ha=>s.free (w.n a ha),w.d⟩
theorem Et.pk {p:Bool} (h:Et F e (pk ρ) p):cX F e ρ p:=by
  obtain ⟨τ,x,y⟩:=h
  refine ⟨τ,x,fun σ G H fp Q s r hg k=>?_⟩
  refine y σ (fh G H fp) H Q (pD s) (r.pk (jM hg) fun a ha=>jQ ha) fun G' H' st=>?_
  exact k G H' ⟨av.refl _,st.h,s.trans st.h,fun a h h'=>absurd h h'⟩
theorem nC:bb F [] ρ (.nx ρ):=⟨GY,fun _=>Qi,fun D σ G0 H0 G H r k=>k σ G H r⟩
theorem az (h1:Rn F st ρ (.nx ρ1)) (h2:bb F cC ρ1 o):bb F (st::cC) ρ o:=by
  obtain ⟨τ,x,y⟩:=h1
  obtain ⟨bL,x',y'⟩:=h2
  exact ⟨yx τ bL,fun i=>DI (x i) (x' i),fun D σ G0 H0 G H r k=>y _ σ G0 H0 G H r fun aJ G1 H1 r1=>y' D aJ G0 H0 G1 H1 r1 k⟩
theorem EE (h1:Rn F st ρ (.rt t)):bb F (st::cC) ρ (.rt t):=by
  obtain ⟨τ,x,y⟩:=h1
  exact ⟨yx τ sM,fun i=>DI (x i) vS,fun D σ G0 H0 G H r k=>y _ σ G0 H0 G H r k⟩
theorem aE (h1:Rn F st ρ o):bb F [st] ρ o:=by
  obtain ⟨τ,x,y⟩:=h1
  exact ⟨τ,fun i=>Qj (x i),y⟩
theorem aO (j:Nat) {x:Str} {pos':Pos} (he:bH F e ρ t) (hN:∀ i,(F.cx i).N.Nodup) (hj:Nat.blt j ρ.length=true:=by rfl) (hi:∀ i,(F.cx i).N[j]?=some x:=by intro _;rfl) (hx:∀ i,Loc (F.cx i).env.scope x:=by intro _;first | exact Or.inl rfl | exact Or.inr rfl)
    (hs:∀ i,swapsWith e (some (.Name x pos')) pos.line (F.cx i).env=pure false:=by intro _;rfl) (hf:∀ i,(F.cx i).fn x=true\/(F.cx i).env.scope.names.lookup x=some .local:=by intro _;first | exact .inl rfl | exact .inr rfl) :
    Rn F (.Assign [.Name x pos'] e pos) ρ (.nx (ρ.set j (some t))):=by
  obtain ⟨τ,y,z⟩:=he
  refine ⟨qv τ (iM j),fun i=>R8 (hN i) (hi i) (hx i) (y i) (hs i) (hf i),fun D σ G0 H0 G H r k=>?_⟩
  obtain ⟨fp,r⟩:=r
  exact z σ G H fp _ r.st.s r.own r.g fun v G1 H1 fq s1 o w=>k _ G1 H1 (r.set (Nat.le_of_ble_eq_true hj) s1 o w)
theorem bF (he:bH F e ρ t):Rn F (.Return (some e) pos) ρ (.rt t):=by
  obtain ⟨τ,y,z⟩:=he
  refine ⟨tL τ,fun i=>xB (y i),fun D σ G0 H0 G H r k=>?_⟩
  obtain ⟨fp,r⟩:=r
  exact z σ G H fp _ r.st.s r.own r.g fun v G1 H1 fq s1 o w=>k v G1 H1 fq (r.st.trans s1) o ⟨fun a ha=>r.st.h.free (w.n a ha),w.g,w.d⟩
theorem je (j:Nat) {x:Str} {p':Pos} (h : ρ[j]?=some (some t)) (hN:∀ i,(F.cx i).N[j]?=some x:=by intro _;rfl)
    (hv:∀ i,ig (F.cx i).env.scope x:=by intro _;first | exact Or.inl rfl | exact Or.inr (Or.inl rfl) | exact Or.inr (Or.inr rfl)) (hd:(x==("__debug__" : Str))=false:=by decide) (hc:(x==("__classdict__" : Str))=false:=by decide):Rn F (.Return (some (.Name x p')) pos) ρ (.rt t):=by
  refine ⟨tL (fR j),fun i=>xB (kL (hN i) (hv i) hd hc),fun D σ G0 H0 G H r k=>?_⟩
  obtain ⟨fp,r⟩:=r
  obtain ⟨v,f,fr,q1,q2,q3,q4⟩:=r.own.split h
  have sub:∀ a ∈ f,a ∈ fp:=fun a ha=>q4.mem_iff.mpr (List.mem_append_left _ ha)
  exact ⟨v,q1,k v G H f r.st q2 ⟨fun a ha=>r.n a (sub a ha),fun a ha=>r.g a (sub a ha),(List.nodup_append.mp (q4.nodup_iff.mp r.d)).1⟩⟩
theorem QC (he:bH F e ρ t) (hs:∀ i,swapsWith e none pos.line (F.cx i).env=pure false:=by intro _;rfl):Rn F (.Expr e pos) ρ (.nx ρ):=by
  obtain ⟨τ,y,z⟩:=he
  refine ⟨n5 τ,fun i=>pI (y i) (hs i),fun D σ G0 H0 G H r k=>?_⟩
  obtain ⟨fp,r⟩:=r
  refine z σ G H fp _ r.st.s r.own r.g fun v G1 H1 fq s1 o w=>k σ G1 H1 ⟨fp,r.st.trans s1,r.own.mono s1.g s1.h,r.own.off s1 r.g,r.n,r.d⟩
theorem qh {p:Bool} (hc:cX F c ρ p) (h1:p=true->bb F A ρ o) (h2:p=false->bb F B ρ o):Rn F (.If c A B pos) ρ o:=by
  obtain ⟨τ,y,z⟩:=hc
  have key:∀ {G0 H0 G H G1 H1:Hp} {σ:St} {fp:List Addr},dP F.K G0 H0 G H ρ σ fp->Step G H G1 H1->RS F.K G0 H0 G1 H1 ρ σ:=fun {G0 H0 G H G1 H1 σ fp} r s1=>⟨fp,r.st.trans s1,r.own.mono s1.g s1.h,r.own.off s1 r.g,r.n,r.d⟩
  cases p with
  | true =>
    obtain ⟨bL,x',y'⟩:=h1 rfl
    refine ⟨yy τ bL sM,fun i=>GZ (y i) (x' i) vS,fun D σ G0 H0 G H r k=>?_⟩
    obtain ⟨fp,r⟩:=r
    exact z σ G H fp _ r.st.s r.own r.g fun G1 H1 s1=>j5 (y' D σ G0 H0 G1 H1 (key r s1) k)
  | false =>
    obtain ⟨bL,x',y'⟩:=h2 rfl
    refine ⟨yy τ sM bL,fun i=>GZ (y i) vS (x' i),fun D σ G0 H0 G H r k=>?_⟩
    obtain ⟨fp,r⟩:=r
    exact z σ G H fp _ r.st.s r.own r.g fun G1 H1 s1=>j4 (y' D σ G0 H0 G1 H1 (key r s1) k)
theorem wz {α:Type}:∀ {l:List α} {j:Nat} {v : α},l[j]?=some v->l.set j v=l
  | _::_,0,_,h=>by cases h;rfl
  | _::_,j+1,_,h=>by rw [List.set_cons_succ,wz (l:=_) (j:=j) h]
theorem NX (j:Nat) (hj : ρ[j]?=some (some t)) (h:bb F cC (ρ.set j (some (.fz (er t)))) o):bb F cC ρ o:=by
  obtain ⟨τ,x,y⟩:=h
  refine ⟨τ,x,fun D σ G0 H0 G H r k=>?_⟩
  obtain ⟨fp,r⟩:=r
  obtain ⟨v,f,fr,q1,q2,q3,q4⟩:=r.own.split hj
  have nd:=List.nodup_append.mp (q4.nodup_iff.mp r.d)
  have sub:∀ a ∈ f,a ∈ fp:=fun a ha=>q4.mem_iff.mpr (List.mem_append_left _ ha)
  have Ib:∀ a ∈ fr,a ∈ fp:=fun a ha=>q4.mem_iff.mpr (List.mem_append_right _ ha)
  have sm:av G (fh G H f):=jM fun a ha=>r.g a (sub a ha)
  have lt:j < ρ.length:=by
    rcases Nat.lt_or_ge j ρ.length with z | z
    · exact z
    · rw [List.getElem?_eq_none z] at hj;cases hj
  obtain ⟨iU,p1,p2⟩:=(q3.mono sm (av.refl _)).put (f:=[]) (t:=.fz (er t)) (vD lt) ⟨rfl,q2.hv sm fun a ha=>jQ ha⟩
  rw [List.set_set,wz q1] at p1
  refine y D σ G0 H0 (fh G H f) H ⟨iU,⟨r.st.g.trans sm,r.st.h,pD r.st.s,fun a h h'=>?_⟩,p1,fun a ha=>?_,fun a ha=>r.n a (Ib a (p2.mem_iff.mp ha)),p2.nodup_iff.mpr nd.2.1⟩ k
  · by_cases z:a ∈ f
    · exact r.n a (sub a z)
    · rw [pC z] at h';exact r.st.n a h h'
  · have z:=p2.mem_iff.mp ha
    rw [pC fun z'=>nd.2.2 a z' a z rfl]
    exact r.g a (Ib a z)
theorem dP.chg {K:PySem.W.Frag} {G0 H0 G H G1 H1:Hp} {ρ:En} {σ:St} {fp:List Addr} {j:Nat} {t:Tr} (r:dP K G0 H0 G H ρ σ fp) (hj : ρ[j]?=some (some t)) (s1:Step G H G1 H1) :
    ∃ v f,σ[j]?=some (some v)/\Ow K G H t v f/\Ow K G1 H1 t v f/\f.Nodup/\(∀ a ∈ f,a ∈ fp)/\∀ l o t' f',l ∈ f->Ow K G1 (upd H1 l o) t' v f'->f'.Nodup->(∀ a ∈ f',a ∈ f\/(H a=none/\G1 a=none))->RS K G0 H0 G1 (upd H1 l o) (ρ.set j (some t')) σ:=by
  obtain ⟨v,f,fr,q1,q2,q3,q4⟩:=r.own.split hj
  have dQ:=List.nodup_append.mp (q4.nodup_iff.mp r.d)
  have oI:∀ a ∈ f,a ∈ fp:=fun a ha=>q4.mem_iff.mpr (List.mem_append_left _ ha)
  have JS:∀ a ∈ fr,a ∈ fp:=fun a ha=>q4.mem_iff.mpr (List.mem_append_right _ ha)
  have lt:j < ρ.length:=by
    rcases Nat.lt_or_ge j ρ.length with z | z
    · exact z
    · rw [List.getElem?_eq_none z] at hj;cases hj
  have lG:∀ a ∈ fp,G1 a=none:=fun a ha=>by
    cases q:G1 a with
    | none=>rfl
    | some u =>
      obtain ⟨u',aQ⟩:=r.own.there a ha
      have:=s1.n a (r.g a ha) (by rw [q];exact fun z=>nomatch z)
      rw [aQ] at this;cases this
  refine ⟨v,f,q1,q2,q2.mono s1.g s1.h,dQ.1,oI,fun l o t' f' hl ow nw hw=>?_⟩
  have new:∀ a,H a=none->a ∉ fp:=fun a ha hb=>by
    obtain ⟨u,hu⟩:=r.own.there a hb
    rw [ha] at hu;cases hu
  have Z5:aZ K G1 (upd H1 l o) (ρ.set j none) σ fr:=(q3.mono s1.g s1.h).frame fun z=>dQ.2.2 l hl l z rfl
  obtain ⟨iU,JT,uk⟩:=Z5.put (vD lt) ow
  rw [List.set_set,wz q1] at JT
  have Ic:∀ a ∈ iU,a ∈ fp\/(H a=none/\G1 a=none):=fun a ha=>by
    rcases List.mem_append.mp (uk.mem_iff.mp ha) with z | z
    · exact (hw a z).imp (oI a) id
    · exact .inl (JS a z)
  refine ⟨iU,⟨(r.st.trans s1).g,fun b u hb=>?_,fun b u hb=>?_,(r.st.trans s1).n⟩,JT,fun a ha=>?_,fun a ha=>?_,?_⟩
  · have gh:=(r.st.trans s1).h b u hb
    rw [bO fun z=>?_]
    · exact gh
    · subst z;rw [r.n _ (oI _ hl)] at hb;cases hb
  · have gh:=s1.s b u hb
    rw [bO fun z=>?_]
    · exact gh
    · subst z;rw [lG _ (oI _ hl)] at hb;cases hb
  · exact (Ic a ha).elim (lG a) fun z=>z.2
  · exact (Ic a ha).elim (r.n a) fun z=>r.st.h.free z.1
  · refine uk.nodup_iff.mpr (List.nodup_append.mpr ⟨nw,dQ.2.1,fun a ha b hb z=>?_⟩)
    subst z
    rcases hw a ha with z | z
    · exact dQ.2.2 a z a hb rfl
    · exact new a z.1 (JS a hb)
theorem dP.mut {K:PySem.W.Frag} {G0 H0 G H G1 H1:Hp} {ρ:En} {σ:St} {fp:List Addr} {j:Nat} {us:List Tr} (r:dP K G0 H0 G H ρ σ fp) (hj : ρ[j]?=some (some (.ow us))) (s1:Step G H G1 H1) :
    ∃ l vs fq,σ[j]?=some (some (.ref l))/\H l=some (.lst vs)/\H1 l=some (.lst vs)/\aS K G1 H1 us vs fq/\fq.Nodup/\(∀ a ∈ fq,a ∈ fp)/\∀ um ws fw,aS K G1 H1 um ws fw->fw.Nodup->(∀ a ∈ fw,a ∈ fq\/(H a=none/\G1 a=none))->RS K G0 H0 G1 (upd H1 l (.lst ws)) (ρ.set j (some (.ow um))) σ:=by
  obtain ⟨v,f,q1,q2,q3,nd,oI,q⟩:=r.chg hj s1
  obtain ⟨l,vs,fq,rfl,hl,ol,rfl⟩:=q3
  obtain ⟨l',lR,Z6,e1,uo,_,e2⟩:=q2
  cases e1
  have ev:lR=vs:=by
    have:=s1.h _ _ uo
    rw [hl] at this
    cases this;rfl
  subst ev
  have JU:=List.nodup_cons.mp nd
  refine ⟨l,lR,fq,q1,uo,hl,ol,JU.2,fun a ha=>oI a (.tail _ ha),fun um ws fw ow nw hw=>?_⟩
  have JV:l ∉ fw:=fun z=>(hw l z).elim JU.1 fun z=>by rw [z.1] at uo;cases uo
  exact q l (.lst ws) (.ow um) (l::fw) (.head _) ⟨l,ws,fw,rfl,fA,ow.frame JV,rfl⟩ (List.nodup_cons.mpr ⟨JV,nw⟩) fun a ha=>(List.mem_cons.mp ha).elim (fun z=>.inl (z ▸ .head _)) fun z=>(hw a z).imp (fun z=>.tail _ z) id
theorem ng (j:Nat) {x:Str} {us:List Tr} {p1 p2 p3:Pos} (h : ρ[j]?=some (some (.ow us))) (he:bH F e ρ t) (hz:us.length<sizeLine) (hN:∀ i,(F.cx i).N[j]?=some x:=by intro _;rfl)
    (hv:∀ i,ig (F.cx i).env.scope x:=by intro _;first | exact Or.inl rfl | exact Or.inr (Or.inl rfl) | exact Or.inr (Or.inr rfl)) (hd:(x==("__debug__" : Str))=false:=by decide) (hc:(x==("__classdict__" : Str))=false:=by decide)
    (fP:∀ i,attributeBase (.Name x p1) "append" (F.cx i).env (eval (.Name x p1) (F.cx i).env)=eval (.Name x p1) (F.cx i).env:=by intro _;rfl)
    (fT:∀ i,((backTo p3 (starEach [e] (F.cx i).env)).all (fun x=>!x.1)&&(backToKw p3 (keywordEach [] (F.cx i).env)).all (fun x=>x.1.isSome)&&decide (([e]:List Expr).length+([]:List Keyword).length+(if ([]:List Keyword).isEmpty then 0 else 1)<30))=true:=by intro _;rfl)
    (hline:(p2.endLine==p3.line)=true:=by rfl) (hs:∀ i,starEach [e] (F.cx i).env=[(false,eval e (F.cx i).env)]:=by intro _;rfl) (jH:∀ i,swapsWith (.Call (.Attribute (.Name x p1) "append" p2) [e] [] p3) none pos.line (F.cx i).env=pure false:=by intro _;rfl) :
    Rn F (.Expr (.Call (.Attribute (.Name x p1) "append" p2) [e] [] p3) pos) ρ (.nx (ρ.set j (some (.ow (us++[t]))))):=by
  obtain ⟨τ,y,z⟩:=he
  refine ⟨n5 (lJ F.K "list" wX (fR j) (dZ τ fc)),fun i=>pI (F.hK i ▸ n8 PySem.F.plainAttrs_list PySem.F.slot_list_append PySem.F.type_list_append rR (kL (hN i) (hv i) hd hc) (dw (y i) eT (hs i)) (fP i) (fT i) hline (hs i) rfl) (jH i),fun D σ G0 H0 G H r k=>?_⟩
  obtain ⟨fp,r⟩:=r
  obtain ⟨l0,uq,ur,c1,c2,_⟩:=r.mut h (.refl r.st.s)
  refine ⟨_,c1,.inl ⟨rfl,_,bj.of c2⟩,?_⟩
  refine z σ G H fp _ r.st.s r.own r.g fun v1 G1 H1 f1 s1 o1 w1=>?_
  obtain ⟨l,vs,fq,d1,d2,d3,d4,d5,d6,d7⟩:=r.mut h s1
  rw [c1] at d1
  cases d1
  refine ⟨l0,vs,v1,rfl,rfl,d3,by rw [<- d4.length];exact hz,k σ G1 _ (d7 (us++[t]) (vs++[v1]) (fq++(f1++[])) (d4.append ⟨v1,[],f1,[],rfl,rfl,o1,rfl,rfl⟩) ?_ fun a ha=>?_)⟩
  · rw [List.append_nil]
    refine List.nodup_append.mpr ⟨d5,w1.d,fun a ha b hb e=>?_⟩
    subst e
    obtain ⟨u,hu⟩:=r.own.there a (d6 a ha)
    rw [w1.n a hb] at hu;cases hu
  · rw [List.append_nil] at ha
    exact (List.mem_append.mp ha).imp id fun z=>⟨w1.n a z,w1.g a z⟩
theorem OJ (j:Nat) {x:Str} {us:List Tr} {p1 p2 p3:Pos} (h : ρ[j]?=some (some (.ow us))) {lR:List Tr} (he:bH F e ρ (.ow lR)) (hz:us.length+lR.length<=sizeLine) (hN:∀ i,(F.cx i).N[j]?=some x:=by intro _;rfl)
    (hv:∀ i,ig (F.cx i).env.scope x:=by intro _;first | exact Or.inl rfl | exact Or.inr (Or.inl rfl) | exact Or.inr (Or.inr rfl)) (hd:(x==("__debug__" : Str))=false:=by decide) (hc:(x==("__classdict__" : Str))=false:=by decide)
    (fP:∀ i,attributeBase (.Name x p1) "extend" (F.cx i).env (eval (.Name x p1) (F.cx i).env)=eval (.Name x p1) (F.cx i).env:=by intro _;rfl)
    (fT:∀ i,((backTo p3 (starEach [e] (F.cx i).env)).all (fun x=>!x.1)&&(backToKw p3 (keywordEach [] (F.cx i).env)).all (fun x=>x.1.isSome)&&decide (([e]:List Expr).length+([]:List Keyword).length+(if ([]:List Keyword).isEmpty then 0 else 1)<30))=true:=by intro _;rfl)
    (hline:(p2.endLine==p3.line)=true:=by rfl) (hs:∀ i,starEach [e] (F.cx i).env=[(false,eval e (F.cx i).env)]:=by intro _;rfl) (jH:∀ i,swapsWith (.Call (.Attribute (.Name x p1) "extend" p2) [e] [] p3) none pos.line (F.cx i).env=pure false:=by intro _;rfl) :
    Rn F (.Expr (.Call (.Attribute (.Name x p1) "extend" p2) [e] [] p3) pos) ρ (.nx (ρ.set j (some (.ow (us++lR))))):=by
  obtain ⟨τ,y,z⟩:=he
  refine ⟨n5 (lJ F.K "list" wY (fR j) (dZ τ fc)),fun i=>pI (F.hK i ▸ n8 PySem.F.plainAttrs_list PySem.F.slot_list_extend PySem.F.type_list_extend Dm (kL (hN i) (hv i) hd hc) (dw (y i) eT (hs i)) (fP i) (fT i) hline (hs i) rfl) (jH i),fun D σ G0 H0 G H r k=>?_⟩
  obtain ⟨fp,r⟩:=r
  obtain ⟨l0,uq,ur,c1,c2,_⟩:=r.mut h (.refl r.st.s)
  refine ⟨_,c1,.inl ⟨rfl,_,bj.of c2⟩,?_⟩
  refine z σ G H fp _ r.st.s r.own r.g fun v1 G1 H1 f1 s1 o1 w1=>?_
  obtain ⟨l,vs,fq,d1,d2,d3,d4,d5,d6,d7⟩:=r.mut h s1
  rw [c1] at d1
  cases d1
  obtain ⟨b,zs,Z7,rfl,hb,ob,rfl⟩:=o1
  have wd:=List.nodup_cons.mp w1.d
  refine ⟨l0,b,vs,zs,rfl,rfl,d3,hb,by rw [<- d4.length,<- ob.length];exact hz,k σ G1 _ (d7 (us++lR) (vs++zs) (fq++Z7) (d4.append ob) ?_ fun a ha=>?_)⟩
  · refine List.nodup_append.mpr ⟨d5,wd.2,fun a ha b hb e=>?_⟩
    subst e
    obtain ⟨u,hu⟩:=r.own.there a (d6 a ha)
    rw [w1.n a (.tail _ hb)] at hu;cases hu
  · exact (List.mem_append.mp ha).imp id fun z=>⟨w1.n a (.tail _ z),w1.g a (.tail _ z)⟩
end
end L2
namespace L2
open PySem PySem.Spec PyProof.Rows
def zE (K:PySem.W.Frag) (G:Hp) (J:It) (af:List Dv):Prop:=∀ k G1 H1,av G G1->av G1 H1 ->
  (∀ d,af[k]?=some d->J.go k H1/\∀ x H3,J.t9 k H1 x H3->∃ G3,Step G1 H1 G3 H3/\Hv K G3 d x)/\(k=af.length->J.stop k H1)
def bG {α:Type}:List Nat->List α->List (Option α)->List (Option α)
  | j::js,v::vs,σ => bG js vs (σ.set j (some v))
  | _,_,σ => σ
def fL {α:Type}:List Nat->List (Option α)->List (Option α)
  | [],ρ => ρ
  | j::js,ρ => fL js (ρ.set j none)
theorem RS.fL {K:PySem.W.Frag} {G0 H0 G H:Hp}:∀ {ρ:En} {σ:St} (js:List Nat),RS K G0 H0 G H ρ σ->RS K G0 H0 G H (L2.fL js ρ) σ
  | _,_,[],r=>r
  | _,_,j::js,r=>RS.fL js (r.forget j)
def Fg (ρ ρ':En):Prop:=∃ fs,L2.fL fs ρ = ρ'
theorem Fg.rs {K:PySem.W.Frag} {G0 H0 G H:Hp} {ρ ρ':En} {σ:St} (f:Fg ρ ρ') (r:RS K G0 H0 G H ρ σ):RS K G0 H0 G H ρ' σ:=by
  obtain ⟨fs,rfl⟩:=f
  exact r.fL fs
theorem RS.bG {K:PySem.W.Frag} {G0 H0 G H:Hp}:∀ {js:List Nat} {ds:List Dv} {vs:List V} {ρ:En} {σ:St},(∀ j ∈ js,j < ρ.length)->aX K G ds vs->RS K G0 H0 G H ρ σ->RS K G0 H0 G H (L2.bG js (ds.map .fz) ρ) (L2.bG js vs σ)
  | [],_,_,_,_,_,_,r=>r
  | _::_,[],_,_,_,_,h,r=>by rw [show _=[] from h];exact r
  | j::js,d::ds,_,ρ,σ,hj,⟨x,q,h1,h2,h3⟩,⟨fp,r⟩=>by
    subst h1
    have r':RS K G0 H0 G H (ρ.set j (some (.fz d))) (σ.set j (some x)):=r.set (t:=.fz d) (v:=x) (fq:=[]) (hj j (.head _)) (.refl r.st.s) ⟨rfl,h2⟩ .nil
    exact RS.bG (js:=js) (ds:=ds) (fun i hi=>by rw [List.length_set];exact hj i (.tail _ hi)) h3 r'
theorem bW.set {K:PySem.W.Frag} {G:Hp} {ρ:En} {σ:St} {j:Nat} {d:Dv} {v:V} (r:bW K G ρ σ) (hj:j < σ.length) (h:Hv K G d v):bW K G (ρ.set j (some (.fz d))) (σ.set j (some v)):=fun i e hi=>by
  by_cases q:i=j
  · subst q
    rw [List.getElem?_set_self (by
      rcases Nat.lt_or_ge i ρ.length with z | z
      · exact z
      · rw [List.getElem?_eq_none (by rw [List.length_set];exact z)] at hi;cases hi)] at hi
    cases hi
    exact ⟨v,by rw [List.getElem?_set_self hj],h⟩
  · rw [List.getElem?_set_ne (Ne.symm q)] at hi
    obtain ⟨u,h1,h2⟩:=r i e hi
    exact ⟨u,by rw [List.getElem?_set_ne (Ne.symm q)];exact h1,h2⟩
theorem vP {α:Type}:∀ (js:List Nat) (vs:List α) (σ:List (Option α)),(bG js vs σ).length = σ.length
  | [],_,_=>rfl
  | _::_,[],_=>rfl
  | j::js,v::vs,σ => by
    show (bG js vs (σ.set j (some v))).length=_
    rw [vP js vs,List.length_set]
theorem bW.bG {K:PySem.W.Frag} {G:Hp}:∀ {js:List Nat} {ds:List Dv} {vs:List V} {ρ:En} {σ:St},(∀ j ∈ js,j < σ.length)->aX K G ds vs->bW K G ρ σ->bW K G (L2.bG js (ds.map .fz) ρ) (L2.bG js vs σ)
  | [],_,_,_,_,_,_,r=>r
  | _::_,[],_,_,_,_,h,r=>by rw [show _=[] from h];exact r
  | j::js,d::ds,_,ρ,σ,hj,⟨x,q,h1,h2,h3⟩,r=>by
    subst h1
    exact bW.bG (js:=js) (ds:=ds) (ρ:=ρ.set j (some (.fz d))) (fun i hi=>by rw [List.length_set];exact hj i (.tail _ hi)) h3 (r.set (hj j (.head _)) h2)
section
variable {ι:Type}
def bA (F:aY ι) (tg iter:Expr) (ρ:En) (af:List Dv):Prop:=∃ wi:TI,(∀ i,PI (F.cx i) tg iter wi)/\∀ σ G H (R:It->Hp->Prop),av G H->bW F.K G ρ σ->(∀ J G' H',Step G H G' H'->zE F.K G' J af->R J H')->wi σ H R
def yO (F:aY ι) (tg iter:Expr) (ρ:En) (af:List Dv):Prop:=∃ wi:TI,(∀ i,PI (F.cx i) tg iter wi)/\∀ σ G H fp (R:It->Hp->Prop),av G H->aZ F.K G H ρ σ fp->(∀ a ∈ fp,G a=none)->(∀ J G' H',Step G H G' H'->zE F.K G' J af->R J H')->wi σ H R
def iA (F:aY ι) (tg:Expr) (js:List Nat) (sp:Dv->Option (List Dv)):Prop:=∃ g:TG,(∀ i,PG (F.cx i) tg g)/\∀ d dd v σ G H Q,sp d=some dd->av G H->Hv F.K G d v->(∀ vs,aX F.K G dd vs->Q (bG js vs σ) H)->g v σ H Q
def uS (F:aY ι) (cC:List Stmt):TS:=fun D σ H=>∃ τ:TS,(∀ i,eI (F.cx i) cC τ) /\ τ D σ H
theorem Hm {F:aY ι} {cC:List Stmt} (i : ι):eI (F.cx i) cC (uS F cC):=fun pins s σ H D I ⟨τ,h,q⟩=>h i pins s σ H D I q
def uT (F:aY ι) (e:Expr):TT:=fun σ H Q=>∃ τ:TT,(∀ i,PT (F.cx i) e τ) /\ τ σ H Q
theorem TH {F:aY ι} {e:Expr} (i : ι):PT (F.cx i) e (uT F e):=fun pins s σ H D I ⟨τ,h,q⟩=>h i pins s σ H D I q
def uE (F:aY ι) (e:Expr):TE:=fun σ H Q=>∃ τ:TE,(∀ i,PE (F.cx i) e τ) /\ τ σ H Q
theorem Hn {F:aY ι} {e:Expr} (i : ι):PE (F.cx i) e (uE F e):=fun pins s σ H D I ⟨τ,h,q⟩=>h i pins s σ H D I q
variable {F:aY ι} {e a b c tg iter elt:Expr} {es:List Expr} {ρ ρ1:En} {t ta:Tr} {ts:List Tr} {pos:Pos} {o:Out} {body:List Stmt} {af:List Dv} {js:List Nat} {sp:Dv->Option (List Dv)}
theorem bA.s (h:bA F tg iter ρ af):yO F tg iter ρ af:=let ⟨w,x,y⟩:=h;⟨w,x,fun σ G H fp R s r _ k=>y σ G H R s r.oH k⟩
theorem bM (j:Nat) {x:Str} (hN:∀ i,(F.cx i).N.Nodup) (hi:∀ i,(F.cx i).N[j]?=some x:=by intro _;rfl) (hx:∀ i,Loc (F.cx i).env.scope x:=by intro _;first | exact Or.inl rfl | exact Or.inr rfl)
    (hf:∀ i,(F.cx i).fn x=true\/(F.cx i).env.scope.names.lookup x=some .local:=by intro _;first | exact .inl rfl | exact .inr rfl):iA F (.Name x pos) [j] (fun d=>some [d]) :=
  ⟨iM j,fun i=>nA (hN i) (hi i) (hx i) (hf i),fun d dd v σ G H Q e s h k=>by
    cases e
    exact k [v] ⟨v,[],rfl,h,rfl⟩⟩
def x8 (n:Nat):Dv->Option (List Dv)
  | .tup ds=>if ds.length=n then some ds else none
  | _=>none
theorem ck {xs:List Dv} (ha:Ev F e ρ ta) (ea:er ta=.lst xs):bA F tg e ρ xs:=by
  obtain ⟨τ,p,q⟩:=ha.use
  refine ⟨G8 F.K τ,fun i=>F.hK i ▸ Qk (p i),fun σ G H R s r k=>q σ G H _ s r fun x G1 H1 s1 hx=>?_⟩
  rw [ea] at hx
  obtain ⟨l,vs,rfl,h1,h2⟩:=hx
  refine ⟨l,rfl,⟨vs,s1.s.seq h1⟩,k _ G1 H1 s1 fun j G2 H2 sg sh=>⟨fun d hd=>?_,fun hz=>⟨vs,(sg.trans sh).seq h1,by rw [<- h2.length,hz];exact Nat.le_refl _⟩⟩⟩
  obtain ⟨v,q1,q2⟩:=h2.get hd
  refine ⟨⟨vs,v,(sg.trans sh).seq h1,q1⟩,?_⟩
  rintro x H3 ⟨rfl,hx⟩
  have:=hx vs ((sg.trans sh).seq h1)
  rw [q1] at this
  cases this
  exact ⟨G2,.refl sh,q2.mono sg⟩
abbrev gJ (lo:Int) (n:Nat):List Dv:=(List.range n).map fun k=>di (lo+(k:Nat))
theorem QD {K:PySem.W.Frag} {G:Hp} (lo:Int) (n:Nat):zE K G (uc lo n) (gJ lo n):=fun k G1 H1 sg sh=>by
  refine ⟨fun d hd=>?_,fun hz=>by show n<=k;rw [hz];simp⟩
  rw [List.getElem?_map] at hd
  rcases Nat.lt_or_ge k n with hk | hk
  · rw [List.getElem?_range hk] at hd
    cases hd
    refine ⟨hk,?_⟩
    rintro x H3 ⟨rfl,rfl⟩
    exact ⟨G1,.refl sh,rfl,rfl⟩
  · rw [List.getElem?_eq_none (by simpa using hk)] at hd;cases hd
theorem gv {n:Int} (hm:F.mg "range" = none) (ha:Ev F a ρ (ti n)) (hb : -(2 ^ 62)<=n/\n<2 ^ 62) {p:Pos} (hg:∀ i,Gl (F.cx i) "range" := by intro _;rfl) (hs:∀ i,starEach [a] (F.cx i).env=[(false,eval a (F.cx i).env)]:=by intro _;rfl):bA F tg (.Call (.Name "range" p) [a] [] pos) ρ (gJ 0 n.toNat):=by
  obtain ⟨τ,p,q⟩:=ha.use
  refine ⟨G9 (dZ τ fc),fun i=>Oz (hg i) ((F.hm i).symm ▸ hm) (dw (p i) eT (hs i)) (hs i),fun σ G H R s r k=>q σ G H _ s r fun x G1 H1 s1 hx=>?_⟩
  exact ⟨n,by rw [aL hx],hb.1,hb.2,k _ G1 H1 s1 (QD 0 n.toNat)⟩
theorem Ie {js:List Nat} {n:Nat} (h:js.all (fun j=>Nat.blt j n)=true):∀ j ∈ js,j<n:=fun j hj=>Nat.le_of_ble_eq_true (List.all_eq_true.mp h j hj)
theorem Ig {i : ι} (hx:(F.cx i).xe=cu):PassesOwn (model (F.cx i).prog (F.cx i).w) (F.cx i).A (F.cx i).env (F.cx i).xe:=by rw [hx];exact PassesOwn.never
theorem NY (hi:yO F tg iter ρ af) (hg:iA F tg js sp) (inv:Nat->En) (m:Nat) (hm:m<=af.length) (h0:inv 0 = ρ) (hlen:∀ k,js.all (fun j=>Nat.blt j (inv k).length)=true)
    (step:∀ k d,k<m->af[k]?=some d->∃ dd oJ,sp d=some dd/\bb F body (bG js (dd.map .fz) (inv k)) (.nx oJ)/\Fg oJ (inv (k+1)))
    (fin:(m=af.length/\o=.nx (inv m))\/∃ d dd t,af[m]?=some d/\sp d=some dd/\bb F body (bG js (dd.map .fz) (inv m)) (.rt t)/\o=.rt t)
    (hx:∀ i,(F.cx i).xe=cu:=by intro _;rfl) (hs:∀ i x,foldedSetIterable iter (F.cx i).env x=pure x:=by intro _ _;rfl):Rn F (.For tg iter body [] pos) ρ o:=by
  obtain ⟨wi,p,q⟩:=hi
  obtain ⟨g,pg,qg⟩:=hg
  subst h0
  refine ⟨HU wi g (uS F body),fun i=>Sa (Ig (hx i)) (F.calm i) (p i) (pg i) (Hm i) (hs i),fun D σ G0 H0 G H r k=>?_⟩
  obtain ⟨fp,r⟩:=r
  refine q σ G H fp _ r.st.s r.own r.g fun J G1 H1 s1 it=>?_
  have r1:dP F.K G0 H0 G1 H1 (inv 0) σ fp:=⟨r.st.trans s1,r.own.mono s1.g s1.h,r.own.off s1 r.g,r.n,r.d⟩
  have kb:=k.under r1.base
  refine ⟨fun k m' aG H'=>m'=af.length-k/\k<=m/\∃ G',RS F.K G1 (less H1 fp) G' H' (inv k) aG,⟨_,rfl,Nat.zero_le _,G1,fp,r1.rebase⟩,?_⟩
  rintro n m' aG H' ⟨rfl,hn,G',r'⟩
  obtain ⟨iU,r'⟩:=r'
  obtain ⟨i1,i2⟩:=it n G' H' r'.st.g r'.st.s
  by_cases bx:n<m
  · have hd:af[n]?=some af[n]:=List.getElem?_eq_getElem (by omega)
    obtain ⟨j1,j2⟩:=i1 _ hd
    refine .inr ⟨j1,fun dI H2=>∃ G2,RS F.K G1 (less H1 fp) G2 H2 (inv (n+1)) dI,fun dI H2 z=>⟨af.length-(n+1),by omega,rfl,bx,z⟩,fun x H3 y=>?_⟩
    obtain ⟨G3,s3,h3⟩:=j2 x H3 y
    obtain ⟨dd,oJ,e1,⟨τ,pb,qb⟩,e2⟩:=step n _ bx hd
    refine qg _ dd x aG G3 H3 _ e1 s3.s h3 fun vs qT=>⟨τ,pb,qb _ _ G1 (less H1 fp) G3 H3 (RS.bG (Ie (hlen n)) qT ⟨iU,r'.st.trans s3,r'.own.mono s3.g s3.h,fun a ha=>?_,r'.n,r'.d⟩) fun Z8 G4 H4 r4=>⟨G4,e2.rs r4⟩⟩
    cases q:G3 a with
    | none=>rfl
    | some u =>
      obtain ⟨u',aQ⟩:=r'.own.there a ha
      have:=s3.n a (r'.g a ha) (by rw [q];exact fun z=>nomatch z)
      rw [aQ] at this;cases this
  · have en:n=m:=by omega
    subst en
    rcases fin with ⟨e,rfl⟩ | ⟨d,dd,t,hd,e1,⟨τ,pb,qb⟩,rfl⟩
    · refine .inl ⟨i2 e,kb aG G' H' ⟨iU,r'⟩⟩
    · obtain ⟨j1,j2⟩:=i1 d hd
      refine .inr ⟨j1,fun _ _=>False,fun _ _ z=>z.elim,fun x H3 y=>?_⟩
      obtain ⟨G3,s3,h3⟩:=j2 x H3 y
      refine qg d dd x aG G3 H3 _ e1 s3.s h3 fun vs qT=>⟨τ,pb,qb _ _ G1 (less H1 fp) G3 H3 (RS.bG (Ie (hlen n)) qT ⟨iU,r'.st.trans s3,r'.own.mono s3.g s3.h,fun a ha=>?_,r'.n,r'.d⟩) kb⟩
      cases q:G3 a with
      | none=>rfl
      | some u =>
        obtain ⟨u',aQ⟩:=r'.own.there a ha
        have:=s3.n a (r'.g a ha) (by rw [q];exact fun z=>nomatch z)
        rw [aQ] at this;cases this
theorem eA (hi:yO F tg iter ρ af) (hg:iA F tg js sp) (inv:Nat->En) (h0:inv 0 = ρ) (hlen:∀ k,js.all (fun j=>Nat.blt j (inv k).length)=true)
    (step:∀ k d,af[k]?=some d->∃ dd oJ,sp d=some dd/\bb F body (bG js (dd.map .fz) (inv k)) (.nx oJ)/\Fg oJ (inv (k+1)))
    (hx:∀ i,(F.cx i).xe=cu:=by intro _;rfl) (hs:∀ i x,foldedSetIterable iter (F.cx i).env x=pure x:=by intro _ _;rfl):Rn F (.For tg iter body [] pos) ρ (.nx (inv af.length)) :=
  NY hi hg inv af.length (Nat.le_refl _) h0 hlen (fun k d _ h=>step k d h) (.inl ⟨rfl,rfl⟩) hx hs
theorem Px (inv:Nat->En) (n:Nat) (h0:inv 0 = ρ) (turn:∀ k,k<n->cX F c (inv k) true/\bb F body (inv k) (.nx (inv (k+1)))) (stop:cX F c (inv n) false)
    (hx:∀ i,(F.cx i).xe=cu:=by intro _;rfl):Rn F (.While c body [] pos) ρ (.nx (inv n)):=by
  subst h0
  refine ⟨Fo (uT F c) (uS F body),fun i=>O9 (Ig (hx i)) (TH i) (Hm i),fun D σ G0 H0 G H r k=>?_⟩
  refine ⟨fun m' aG H'=>∃ j G',j<=n/\m'=n-j/\RS F.K G0 H0 G' H' (inv j) aG,⟨_,0,G,Nat.zero_le _,rfl,r⟩,?_⟩
  rintro m' aG H' ⟨j,G',hj,rfl,fp,r'⟩
  have key:∀ {G1 H1:Hp},Step G' H' G1 H1->RS F.K G0 H0 G1 H1 (inv j) aG:=fun {G1 H1} s1=>⟨fp,r'.st.trans s1,r'.own.mono s1.g s1.h,r'.own.off s1 r'.g,r'.n,r'.d⟩
  by_cases bx:j<n
  · obtain ⟨⟨τ,x,y⟩,⟨bL,x',y'⟩⟩:=turn j bx
    refine ⟨τ,x,y aG G' H' fp _ r'.st.s r'.own r'.g fun G1 H1 s1=>j5 ⟨fun dI H2=>∃ G2,RS F.K G0 H0 G2 H2 (inv (j+1)) dI,fun dI H2 ⟨G2,z⟩=>⟨n-(j+1),by omega,j+1,G2,bx,rfl,z⟩,bL,x',?_⟩⟩
    exact y' _ aG G0 H0 G1 H1 (key s1) fun Z8 G4 H4 r4=>⟨G4,r4⟩
  · have e:j=n:=by omega
    subst e
    obtain ⟨τ,x,y⟩:=stop
    exact ⟨τ,x,y aG G' H' fp _ r'.st.s r'.own r'.g fun G1 H1 s1=>j4 (k aG G1 H1 (key s1))⟩
theorem Nn {α:Type} (S : α->En) (Pp : α->Prop) (p : α->Bool) (μ : α->Nat) (hc:∀ a,Pp a->cX F c (S a) (p a)) (hb:∀ a,Pp a->p a=true->∃ a',Pp a' /\ μ a' < μ a/\bb F body (S a) (.nx (S a'))) (a0 : α) (h0:Pp a0)
    (hx:∀ i,(F.cx i).xe=cu:=by intro _;rfl):∃ a',Pp a'/\p a'=false/\Rn F (.While c body [] pos) (S a0) (.nx (S a')):=by
  have:∀ (m:Nat) (a : α),μ a<=m->Pp a->∃ (n:Nat) (f:Nat -> α),f 0=a/\(∀ k,k<n->Pp (f k)/\p (f k)=true/\bb F body (S (f k)) (.nx (S (f (k+1)))))/\Pp (f n)/\p (f n)=false:=by
    intro m
    induction m with
    | zero =>
      intro a hm ha
      cases hp:p a with
      | false=>exact ⟨0,fun _=>a,rfl,fun k hk=>absurd hk (Nat.not_lt_zero _),ha,hp⟩
      | true =>
        obtain ⟨a',_,h2,_⟩:=hb a ha hp
        omega
    | succ m ih =>
      intro a hm ha
      cases hp:p a with
      | false=>exact ⟨0,fun _=>a,rfl,fun k hk=>absurd hk (Nat.not_lt_zero _),ha,hp⟩
      | true =>
        obtain ⟨a',h1,h2,h3⟩:=hb a ha hp
        obtain ⟨n,f,f0,f1,f2,f3⟩:=ih a' (by omega) h1
        refine ⟨n+1,fun k=>match k with | 0=>a | k+1=>f k,rfl,fun k hk=>?_,f2,f3⟩
        cases k with
        | zero=>exact ⟨ha,hp,by show bb F body (S a) (.nx (S (f 0)));rw [f0];exact h3⟩
        | succ k=>exact f1 k (by omega)
  obtain ⟨n,f,f0,f1,f2,f3⟩:=this (μ a0) a0 (Nat.le_refl _) h0
  refine ⟨f n,f2,f3,Px (fun k=>S (f k)) n (by rw [f0]) (fun k hk=>?_) (by have:=hc _ f2;rw [f3] at this;exact this) hx⟩
  obtain ⟨g1,g2,g3⟩:=f1 k hk
  exact ⟨by have:=hc _ g1;rw [g2] at this;exact this,g3⟩
structure Us where
  C:Addr
  s:Shared
  H:Hp
  ex:List Addr
  pn:List (Addr×Obj)
def cy (F:aY ι) (own:List Str) (fr:List Nat) (sc:Scope) (cl : ι->List (Str×Addr)):aY (ι×Us) where
  cx i:=cH (F.cx i.1) own fr sc (cl i.1) i.2.C i.2.s i.2.H i.2.ex i.2.pn
  P:=F.P
  w:=F.w
  K:=F.K
  mg:=F.mg
  base:=F.base
  room:=F.room
  hP i:=F.hP i.1
  hw i:=F.hw i.1
  hK i:=F.hK i.1
  hm i:=F.hm i.1
  hb i:=F.hb i.1
  hr i:=F.hr i.1
  calm i:=F.calm i.1
def cn (own:List Str) (fr:List Nat) (ρ:En):En:=own.map (fun _=>none)++fr.map fun j=>(ρ[j]?).join
theorem SE {K:PySem.W.Frag} {G:Hp} {own:List Str} {fr:List Nat} {ρ:En} {σ:St} (r:bW K G ρ σ):bW K G (cn own fr ρ) (pL own fr σ):=fun i d h=>by
  unfold cn at h
  unfold pL
  by_cases hi:i<own.length
  · rw [List.getElem?_append_left (by simpa using hi),List.getElem?_map] at h
    cases q:own[i]? with
    | none=>rw [q] at h;cases h
    | some z=>rw [q] at h;cases h
  · rw [List.getElem?_append_right (by simpa using hi),List.getElem?_map,List.length_map] at h
    rw [List.getElem?_append_right (by simpa using hi),List.getElem?_map,List.length_map]
    cases q:fr[i-own.length]? with
    | none=>rw [q] at h;cases h
    | some j =>
      rw [q] at h
      have h':(ρ[j]?).join=some (.fz d):=Option.some.inj h
      have hj : ρ[j]?=some (some (.fz d)):=by
        cases q2 : ρ[j]? with
        | none=>rw [q2] at h';cases h'
        | some o=>rw [q2] at h';exact congrArg some h'
      obtain ⟨v,h1,h2⟩:=r j d hj
      refine ⟨v,?_,h2⟩
      show some ((σ[j]?).join)=_
      rw [h1]
      rfl
def El {κ:Type} (F:aY κ) (ifs:List Expr) (ρ:En) (b:Bool):Prop:=∃ tt:TT,(∀ i (pins:List (Addr×Obj)) (s1:Shared) (aJ:St) (H1:Hp) (Q:Bool->Hp->Prop),Inv (F.cx i) pins aJ H1 s1->tt aJ H1 Q ->
      wpAny (model (F.cx i).prog (F.cx i).w) (F.cx i).A (jc ifs (F.cx i).env) (TP (F.cx i) pins aJ Q) cu s1)/\∀ σ G H Q,av G H->bW F.K G ρ σ->(∀ G' H',Step G H G' H'->Q b H')->tt σ H Q
theorem FD:El F [] ρ true:=⟨Qx,fun i pins s1 aJ H1 Q I h=>Tx pins s1 aJ H1 Q I h,fun σ G H Q s r k=>k G H (.refl s)⟩
theorem fN {p:Bool} (h:Et F c ρ p) (hx:∀ i,(F.cx i).xe=cu:=by intro _;rfl):El F [c] ρ p:=let ⟨τ,x,y⟩:=h;⟨τ,fun i pins s1 aJ H1 Q I h=>Tz (x i) (hx i) pins s1 aJ H1 Q I h,y⟩
def uL {κ:Type} (F:aY κ) (ifs:List Expr):TT:=fun σ H Q=>∃ tt:TT,(∀ i (pins:List (Addr×Obj)) (s1:Shared) (aJ:St) (H1:Hp) (Q:Bool->Hp->Prop),Inv (F.cx i) pins aJ H1 s1->tt aJ H1 Q ->
      wpAny (model (F.cx i).prog (F.cx i).w) (F.cx i).A (jc ifs (F.cx i).env) (TP (F.cx i) pins aJ Q) cu s1)/\tt σ H Q
def uv (F:aY ι) (own:List Str) (fr:List Nat) (sc:Scope) (cl : ι->List (Str×Addr)) (elt tg iter:Expr) (ifs:List Expr) (τ:TE):Prop:=∃ wi g tt te,τ=zj wi g tt te own fr/\(∀ i,PI (F.cx i) tg iter wi)/\(∀ i,PG ((cy F own fr sc cl).cx i) tg g) /\
  (∀ i (pins:List (Addr×Obj)) (s1:Shared) (aJ:St) (H1:Hp) (Q:Bool->Hp->Prop),Inv ((cy F own fr sc cl).cx i) pins aJ H1 s1->tt aJ H1 Q->wpAny (model ((cy F own fr sc cl).cx i).prog ((cy F own fr sc cl).cx i).w) ((cy F own fr sc cl).cx i).A (jc ifs ((cy F own fr sc cl).cx i).env) (TP ((cy F own fr sc cl).cx i) pins aJ Q) cu s1) /\
  ∀ i,PE ((cy F own fr sc cl).cx i) elt te
def dR (F:aY ι) (own:List Str) (fr:List Nat) (sc:Scope) (cl : ι->List (Str×Addr)) (elt tg iter:Expr) (ifs:List Expr) (ρ:En) (t:Tr):Prop:=∃ τ,uv F own fr sc cl elt tg iter ifs τ/\∀ σ G H Q,av G H->bW F.K G ρ σ->Kv F.K G H t Q -> τ σ H Q
theorem JW {ifs:List Expr} {sc:Scope} {own:List Str} {fr:List Nat} {cl : ι->List (Str×Addr)} (hi:bA F tg iter ρ af) (hg:iA (cy F own fr sc cl) tg js sp) (gi:∀ j ∈ js,j<own.length)
    (p:Nat->Bool) (f:Nat->Tr) (hz:af.length<sizeLine)
    (step:∀ k d,af[k]?=some d->∃ dd,sp d=some dd/\El (cy F own fr sc cl) ifs (bG js (dd.map .fz) (cn own fr ρ)) (p k)/\(p k=true->Ev (cy F own fr sc cl) elt (bG js (dd.map .fz) (cn own fr ρ)) (f k)))
    (gG:∀ dd:List Dv,fL js (bG js (dd.map .fz) (cn own fr ρ))=cn own fr ρ):dR F own fr sc cl elt tg iter ifs ρ (.ow (((List.range af.length).filter p).map f)):=by
  obtain ⟨wi,pi,qi⟩:=hi
  obtain ⟨g,pg,qg⟩:=hg
  refine ⟨_,⟨wi,g,uL (cy F own fr sc cl) ifs,uE (cy F own fr sc cl) elt,rfl,pi,pg,fun i pins s1 aJ H1 Q I h=>by
      obtain ⟨tt,h1,h2⟩:=h
      exact h1 i pins s1 aJ H1 Q I h2,fun i=>Hn i⟩,fun σ G H Q s r k=>?_⟩
  refine qi σ G H _ s r fun J G1 H1 s1 it acc jq=>?_
  have k1:=k.step s1
  have FE:∀ {G':Hp} {js':List Nat} {ρ':En} {aG:St},bW F.K G' ρ' aG->bW F.K G' (fL js' ρ') aG:=by
    intro G' js'
    induction js' with
    | nil=>intro ρ' aG z;exact z
    | cons j js' ih =>
      intro ρ' aG z
      refine ih (ρ':=ρ'.set j none) fun i d hd=>?_
      by_cases q:j=i
      · subst q
        rw [List.getElem?_set] at hd
        simp at hd
      · rw [List.getElem?_set_ne q] at hd
        exact z i d hd
  refine ⟨fun i m ys aJ H2=>m=af.length-i/\i<=af.length/\aJ.length=own.length+fr.length/\H2 acc=some (.lst ys)/\∃ G2 fq,Step G1 H1 G2 H2/\aS F.K G2 H2 (((List.range i).filter p).map f) ys fq/\Nw H1 G2 (acc::fq)/\bW F.K G2 (cn own fr ρ) aJ,
    ⟨_,rfl,Nat.zero_le _,by simp [pL],fA,G1,[],.j6 s1.s jq,⟨rfl,rfl⟩,⟨fun a ha=>by rw [List.mem_singleton.mp ha];exact jq,fun a ha=>by rw [List.mem_singleton.mp ha];exact s1.s.free jq,by simp⟩,(SE r).mono s1.g⟩,?_⟩
  rintro i m ys aJ H2 ⟨rfl,hi,JX,qU,G2,fq,s2,o2,w2,r2⟩
  have hlen:ys.length<sizeLine:=by
    rw [<- o2.length,List.length_map]
    have:=List.length_filter_le p (List.range i)
    rw [List.length_range] at this
    omega
  refine ⟨qU,hlen,?_⟩
  obtain ⟨i1,i2⟩:=it i G2 H2 s2.g s2.s
  by_cases bx:i<af.length
  · have hd:af[i]?=some af[i]:=List.getElem?_eq_getElem bx
    obtain ⟨j1,j2⟩:=i1 _ hd
    obtain ⟨dd,e1,el,ev⟩:=step i _ hd
    refine .inr ⟨j1,fun zs dI H3=>dI.length=own.length+fr.length/\H3 acc=some (.lst zs)/\∃ G3 fq,Step G1 H1 G3 H3/\aS F.K G3 H3 (((List.range (i+1)).filter p).map f) zs fq/\Nw H1 G3 (acc::fq)/\bW F.K G3 (cn own fr ρ) dI,
      fun zs dI H3 z=>⟨af.length-(i+1),by omega,rfl,bx,z⟩,fun x H3 y=>?_⟩
    obtain ⟨G3,s3,h3⟩:=j2 x H3 y
    refine qg _ dd x aJ G3 H3 _ e1 s3.s h3 fun vs qT=>?_
    have Z9:∀ j ∈ js,j<aJ.length:=fun j hj=>by have:=gi j hj;omega
    have rr:bW F.K G3 (bG js (dd.map .fz) (cn own fr ρ)) (bG js vs aJ):=bW.bG Z9 qT (r2.mono s3.g)
    have Ho:∀ {Ga Ha Gb Hb:Hp} {fs:List Addr},Step Ga Ha Gb Hb->(∀ a ∈ fs,Ga a=none)->(∀ a ∈ fs,∃ o,Ha a=some o)->∀ a ∈ fs,Gb a=none:=fun {Ga Ha Gb Hb fs} st h1 h2 a ha=>by
      cases q:Gb a with
      | none=>rfl
      | some u =>
        obtain ⟨u',aQ⟩:=h2 a ha
        have:=st.n a (h1 a ha) (by rw [q];exact fun z=>nomatch z)
        rw [aQ] at this;cases this
    have zF:∀ a ∈ acc::fq,∃ o,H2 a=some o:=fun a ha=>(List.mem_cons.mp ha).elim (fun z=>⟨_,z ▸ qU⟩) (o2.there a)
    have er:(List.range (i+1)).filter p=(List.range i).filter p++if p i=true then [i] else []:=by
      rw [List.range_succ,List.filter_append]
      congr 1
      simp only [List.filter_cons,List.filter_nil]
    obtain ⟨tt,pt,qt⟩:=el
    refine ⟨tt,pt,qt _ G3 H3 _ s3.s rr fun G5 H5 s5=>?_⟩
    have kj:=s3.trans s5
    cases hp:p i with
    | false =>
      refine j4 ⟨by rw [vP];exact JX,kj.h _ _ qU,G5,fq,s2.trans kj,?_,⟨w2.n,Ho kj w2.g zF,w2.d⟩,?_⟩
      · rw [er,hp,if_neg (by decide),List.append_nil]
        exact o2.mono kj.g kj.h
      · have:=FE (js':=js) (rr.mono s5.g)
        rwa [gG dd] at this
    | true =>
      obtain ⟨te,pe,qe⟩:=ev hp
      refine j5 ⟨te,pe,qe _ G5 H5 _ s5.s (rr.mono s5.g) fun v G6 H6 f6 s6 o6 w6=>?_⟩
      have lS:=kj.trans s6
      have ha6:=lS.h _ _ qU
      have zG:∀ a ∈ f6,a ∉ acc::fq:=fun a ha hb=>by
        obtain ⟨u,hu⟩:=zF a hb
        have:=kj.h _ _ hu
        rw [w6.n a ha] at this;cases this
      have zH:=List.nodup_cons.mp w2.d
      have g6:=Ho lS w2.g zF
      refine ⟨ha6,by rw [vP];exact JX,fA,G6,fq++(f6++[]),⟨(s2.trans lS).g,fun b u hb=>?_,fun b u hb=>?_,(s2.trans lS).n⟩,?_,⟨fun a ha=>?_,fun a ha=>?_,?_⟩,?_⟩
      · rw [bO fun z=>by subst z;rw [jq] at hb;cases hb]
        exact (s2.trans lS).h b u hb
      · rw [bO fun z=>by subst z;rw [g6 _ (.head _)] at hb;cases hb]
        exact s6.s b u hb
      · rw [er,hp,if_pos rfl,List.map_append]
        refine aS.append ((o2.mono lS.g lS.h).frame zH.1) ⟨v,[],f6,[],rfl,rfl,o6.frame fun z=>zG _ z (.head _),rfl,rfl⟩
      · rw [List.append_nil] at ha
        rcases List.mem_cons.mp ha with z | z
        · exact w2.n a (z ▸ .head _)
        · rcases List.mem_append.mp z with z | z
          · exact w2.n a (.tail _ z)
          · exact (s2.trans kj).h.free (w6.n a z)
      · rw [List.append_nil] at ha
        rcases List.mem_cons.mp ha with z | z
        · exact g6 a (z ▸ .head _)
        · rcases List.mem_append.mp z with z | z
          · exact g6 a (.tail _ z)
          · exact w6.g a z
      · rw [List.append_nil]
        refine List.nodup_cons.mpr ⟨fun z=>?_,List.nodup_append.mpr ⟨zH.2,w6.d,fun a ha b hb z=>?_⟩⟩
        · rcases List.mem_append.mp z with z | z
          · exact zH.1 z
          · exact zG _ z (.head _)
        · subst z;exact zG a hb (.tail _ ha)
      · have:=FE (js':=js) (rr.mono (s5.trans s6).g)
        rwa [gG dd] at this
  · have e:i=af.length:=by omega
    subst e
    refine .inl ⟨i2 rfl,k1 (.ref acc) G2 H2 (acc::fq) s2 ⟨acc,ys,fq,rfl,qU,o2,rfl⟩ w2⟩
theorem tG {ifs:List Expr} {sc:Scope} {own:List Str} {fr:List Nat} {cl : ι->List (Str×Addr)} (L:∀ i,gU (F.cx i) sc (cl i) fr) (hi:bA F tg iter ρ af) (hg:iA (cy F own fr sc cl) tg js sp) (gi:∀ j ∈ js,j<own.length)
    (p:Nat->Bool) (f:Nat->Tr) (hz:af.length<sizeLine)
    (step:∀ k d,af[k]?=some d->∃ dd,sp d=some dd/\El (cy F own fr sc cl) ifs (bG js (dd.map .fz) (cn own fr ρ)) (p k)/\(p k=true->Ev (cy F own fr sc cl) elt (bG js (dd.map .fz) (cn own fr ρ)) (f k)))
    (gG:∀ dd:List Dv,fL js (bG js (dd.map .fz) (cn own fr ρ))=cn own fr ρ)
    (hs:∀ i x,foldedSetIterable iter (F.cx i).env x=pure x:=by intro _ _;rfl) :
    Ev F (.ListComp elt [⟨tg,iter,ifs,0⟩] sc pos) ρ (.ow (((List.range af.length).filter p).map f)):=by
  obtain ⟨τ,⟨wi,g,tt,te,rfl,h1,h2,h3,h4⟩,h5⟩:=JW (ifs:=ifs) hi hg gi p f hz step gG
  exact ⟨_,fun i=>Tv (cl:=cl i) (L i) (F.calm i) (h1 i) (fun C s H ex pn=>h2 (i,⟨C,s,H,ex,pn⟩)) (fun C s H ex pn=>h3 (i,⟨C,s,H,ex,pn⟩)) (fun C s H ex pn=>h4 (i,⟨C,s,H,ex,pn⟩)) (hs i),h5⟩
end
structure IxD (k:Nat) (qual:Str) (sc:Scope) (f:Addr) where
  bE:Value
  A:Around
  outer:List Env
  s:Shared
  H:Hp
  E:XK
  hr:dq k (A.deeper (envOfC qual sc s.heap.objs.size f bE))
def Ih (P:Program) (w:World) (K:PySem.W.Frag) (mg:Str->Option Value) (base:Heap) (N:List Str) (qual:Str) (sc:Scope) (f:Addr) (k:Nat):aY (IxD k qual sc f) where
  cx i:=(jo aj P w K mg base N qual sc f i.bE i.A i.outer i.s i.H i.E).qH
  P:=P
  w:=w
  K:=K
  mg:=mg
  base:=base
  room:=k
  hP _:=rfl
  hw _:=rfl
  hK _:=rfl
  hm _:=rfl
  hb _:=rfl
  hr i:=i.hr
  calm _:=rfl
def JY (N:List Str) (dd:List Dv):En:=dd.map (fun d=>some (.fz d))++List.replicate (N.length-dd.length) none
theorem DQ {K:PySem.W.Frag} {G H:Hp}:∀ n:Nat,aZ K G H (List.replicate n none) (List.replicate n none) []
  | 0=>⟨rfl,rfl⟩
  | n+1=>⟨none,List.replicate n none,rfl,DQ n⟩
theorem Dq {K:PySem.W.Frag} {G H:Hp} {n:Nat}:∀ {dd:List Dv} {vs:List V},aX K G dd vs->aZ K G H (dd.map (fun d=>some (.fz d))++List.replicate n none) (vs.map some++List.replicate n none) []
  | [],_,h=>by rw [show _=[] from h];exact DQ n
  | _::_,_,⟨x,r,h1,h2,h3⟩=>by subst h1;exact ⟨x,_,[],[],rfl,rfl,⟨rfl,h2⟩,Dq h3⟩
theorem bq {P:Program} {w:World} {K:PySem.W.Frag} {mg:Str->Option Value} {base:Heap} {x qual:Str} {st:Stmt} {dV:Value} {f:Addr} {fd:FuncData} {N ps:List Str} {k:Nat} {R:List Dv->Tr->Prop} (Fd:ou K x qual st dV f fd) (S:bf N ps (aw st))
    (hl:∀ dd t,R dd t->dd.length=ps.length)
    (hb:∀ dd t,R dd t->∃ o,(o=.rt t\/(t=tn/\∃ ρ',o=.nx ρ'))/\bb (Ih P w K mg base N qual (aw st) f k) (aT st) (JY N dd) o):aP P w K mg base aj (k+1) f fd ps (spT K R):=by
  refine Fd.ok S (fun vs H Q E ⟨G,dd,t,s,h1,h2,h3⟩=>by rw [<- h1.length];exact hl dd t h2) fun bE A outer s H vs Q E hr h=>?_
  obtain ⟨G,dd,t,s',h1,h2,h3⟩:=h
  obtain ⟨o,ho,τ,x,y⟩:=hb dd t h2
  refine ⟨τ,x ⟨bE,A,outer,s,H,E,hr⟩,y _ (start N vs) G H G H ⟨[],.refl s',?_,fun _ z=>(nomatch z),fun _ z=>(nomatch z),.nil⟩ ?_⟩
  · unfold start JY
    rw [<- h1.length]
    exact Dq h1
  · rcases ho with rfl | ⟨rfl,ρ',rfl⟩
    · exact fun v G1 H1 fq s1 o1 w1=>h3 v G1 H1 fq s1 o1 w1
    · exact fun σ G1 H1 ⟨fp,r⟩=>h3 .aN G1 H1 [] r.st ⟨rfl,rfl,rfl⟩ .nil
end L2
namespace L2
open PySem PySem.Spec PyProof.Rows
def JZ (K:PySem.W.Frag) (l:Addr) (xs:List V):It :=
  ⟨fun i H=>bj K H l xs/\i<xs.length,fun i H x H'=>∃ T v,H T=none/\xs[i]?=some v/\x=.ref T/\H'=upd H T (.tup [.int (i:Nat),v]),fun i H=>bj K H l xs/\i=xs.length⟩
section
variable {X:Cx} {pins:List (Addr×Obj)} {σ:St} {H:Hp} {s:Shared}
theorem Inv.EF {t':Nat} {fs:List Addr} {h':Heap} (I:Inv X pins σ H s) (k:∀ b o,b ∉ fs->s.heap.get? b=some o->h'.get? b=some o) (hf:∀ b ∈ fs,fS X pins H b):Inv X pins σ H { s with heap:=h',toks:=t' }:=by
  have kc:∀ b u,H b=some u->b ∉ fs:=fun b u e z=>by rw [(hf b z).1] at e;cases e
  refine I.step (g':=s.gens) (d':=s.drawn) (ch:=fs) (fun b hb=>?_) (fun b o _ _ hc e _=>k b o hc e) (fun b o _ _ hc e _=>⟨o.slots,k b o hc e⟩) (fun _ _ _ _ n=>n)
    (fun b o hc e=>⟨o,k b o hc e⟩) (fun _ _ e=>e) (fun _ _ _ e=>e) (fun b ps e=>⟨#[],by rw [e];simp⟩) (fun m hm=>?_) (fun b u e=>?_) I.bare
  · obtain ⟨f0,f1,f2,f3,f4,f5⟩:=hf b hb
    exact ⟨f3,f1,f4,f5⟩
  · obtain ⟨o,es,ep,ho,r⟩:=hm
    exact ⟨o,es,ep,k _ o (fun z=>(hf _ z).2.1 rfl) ho,r⟩
  · refine (I.aF b u e).jm (fun c v hc q=>k c v ?_ q) (fun _ q=>q) fun _ _ q=>q
    rcases hc with z | z
    · rw [z];exact kc b u e
    · exact kc c _ z
theorem Inv.QE {t':Nat} {fs:List Addr} {h':Heap} {T:Addr} {vs:List V} (I:Inv X pins σ H s) (k:∀ b o,b ∉ fs->s.heap.get? b=some o->h'.get? b=some o) (hf:∀ b ∈ fs,fS X pins H b) (hT:s.heap.objs.size<=T)
    (new:cP X.prog X.w (upd H T (.tup vs)) h' T (.tup vs)):Inv X pins σ (upd H T (.tup vs)) { s with heap:=h',toks:=t' }:=by
  have hn:H T=none:=I.aF.fresh hT
  have kc:∀ b u,H b=some u->b ∉ fs:=fun b u e z=>by rw [(hf b z).1] at e;cases e
  have ne:∀ b o,s.heap.get? b=some o->b ≠ T:=fun b o e z=>by subst z;exact absurd (Nat.lt_of_lt_of_le (Heap.lt_size e) hT) (Nat.lt_irrefl _)
  refine I.step (g':=s.gens) (d':=s.drawn) (ch:=fs) (fun b hb=>?_) (fun b o _ _ hc e _=>k b o hc e) (fun b o _ _ hc e _=>⟨o.slots,k b o hc e⟩) (fun b o _ e n=>by rw [bO (ne b o e)];exact n)
    (fun b o hc e=>⟨o,k b o hc e⟩) (fun _ _ e=>by rw [bO (gR e hn)];exact e) (fun _ _ _ e=>by rw [bO (gR e hn)];exact e) (fun b ps e=>⟨#[],by rw [bO (gR e hn),e];simp⟩) (fun m hm=>?_) (fun b u e=>?_) I.bare
  · obtain ⟨f0,f1,f2,f3,f4,f5⟩:=hf b hb
    exact ⟨f3,f1,f4,f5⟩
  · obtain ⟨o,es,ep,ho,r⟩:=hm
    exact ⟨o,es,ep,k _ o (fun z=>(hf _ z).2.1 rfl) ho,r⟩
  · by_cases hb:b=T
    · subst hb;rw [fA] at e;cases e;exact new
    · rw [bO hb] at e
      refine (I.aF b u e).jm (fun c v hc q=>k c v ?_ q) (fun c q=>by rw [bO (gR q hn)];exact q) fun c xs q=>by rw [bO (gR q hn)];exact q
      rcases hc with z | z
      · rw [z];exact kc b u e
      · exact kc c _ z
end
theorem OL {P:Program} {w:World} {K:PySem.W.Frag} {elts:List Expr} {kk:Nat} {pos:Pos} {e it l:Addr} {xs:List V} (J0:e ≠ it) (hle:l ≠ e) (lU:l ≠ it) :
    Turn P w K (.Tuple elts kk pos) (JZ K l xs) [e,it] e (fun i h=>(∃ old,IsEnum h e it i old)/\h.IsListIter it l i) where
  mem:=by simp
  obj:=by
    rintro i h ⟨⟨old,h1⟩,⟨o1,h4,_,h5⟩⟩ b hb
    simp only [List.mem_cons,List.not_mem_nil,or_false] at hb
    rcases hb with rfl | rfl
    · exact ⟨_,h1,fun v z=>by cases z⟩
    · exact ⟨_,h4,fun v z=>by rw [h5] at z;cases z⟩
  keep:=by
    rintro i h h' ⟨⟨old,h1⟩,h4⟩ k
    exact ⟨⟨old,k _ (by simp) _ h1⟩,h4.at fun o e=>k _ (by simp) o e⟩
  item:=by
    intro X hP hw hK hc i pins s σ H E I hf st hg
    subst hP hw hK
    obtain ⟨qV,bx⟩:=hg
    obtain ⟨ox,qW,p1,J1⟩:=I.list qV
    have e1:=qW.length
    have W:=WalksT.enumerate (prog:=X.prog) (w:=X.w) (A:=X.A) (I.ok.hd hc) e it l J0 hle lU ox.toArray
    refine W.item i s _ _ (by simp;omega) ⟨st.1,st.2,p1.isList⟩ fun T vals h' tk hPt zI Ut Ii hk=>⟨.ref T,rfl,W.go elts kk pos i T _ _ _ Ii fun h'' Ij Ik=>?_⟩
    obtain ⟨t,x,hx,rfl⟩:=hPt
    have J4:xs[i]?=some (xs[i]'(by omega)):=List.getElem?_eq_getElem _
    obtain ⟨u,hu,ru⟩:=qW.get J4
    have ex:x=u:=by
      have:ox[i]?=some x:=by simpa using hx
      rw [hu] at this;exact (Option.some.inj this).symm
    subst ex
    have hT2:IsTup h'' T [Value.int (i:Nat) t,x].toArray:=Ut.at fun o e=>Ik T o (W.apart i T _ Ii) e
    refine ⟨.ref T,upd H T (.tup [.int (i:Nat),xs[i]'(by omega)]),I.QE (fs:=[e,it]) (fun b o hb e=>Ik b o hb (hk b o hb e)) hf zI ⟨by show 2<=sizeLine;decide,[.int (i:Nat) t,x],.cons ⟨t,rfl⟩ (.cons ru .nil),hT2⟩,rfl,
      ⟨T,_,I.aF.fresh zI,J4,rfl,rfl⟩,⟨Ij.1,Ij.2.1⟩,fun b hb=>?_⟩
    obtain ⟨o,eo,_⟩:∃ o,s.heap.get? b=some o/\True:=by
      obtain ⟨⟨old,g1⟩,⟨o1,g4,_⟩⟩:=st
      simp only [List.mem_cons,List.not_mem_nil,or_false] at hb
      rcases hb with rfl | rfl
      · exact ⟨_,g1,trivial⟩
      · exact ⟨_,g4,trivial⟩
    rw [bO (Nat.ne_of_lt (Nat.lt_of_lt_of_le (Heap.lt_size eo) zI))]
    exact (hf b hb).1
  done:=by
    intro X hP hw hK hc i pins s σ H E I hf st hg
    subst hP hw hK
    obtain ⟨qV,rfl⟩:=hg
    obtain ⟨ox,qW,p1,J1⟩:=I.list qV
    have e1:=qW.length
    have W:=WalksT.enumerate (prog:=X.prog) (w:=X.w) (A:=X.A) (I.ok.hd hc) e it l J0 hle lU ox.toArray
    have en:ox.toArray.size=xs.length:=by simp only [List.size_toArray];omega
    exact W.done s _ _ (by rw [en];exact ⟨st.1,st.2,p1.isList⟩) fun h' tk hk=>⟨rfl,I.EF (fs:=[e,it]) hk hf⟩
  self:=fun A i s Q E st h=>by
    obtain ⟨⟨old,h1⟩,_⟩:=st
    exact wpAny_pyIter_enum h1 h
def Il (K:PySem.W.Frag) (ta:TA):TI:=fun σ H R=>ta σ H fun vs H1=>∃ l xs,vs=[.ref l]/\bj K H1 l xs/\R (JZ K l xs) H1
section
variable {X:Cx} {elts:List Expr} {kk:Nat} {tp:Pos}
theorem QF {a:Expr} {ta:TA} {p pos:Pos} (hg:Gl X "enumerate") (hm:X.mg "enumerate" = none) (ha:PA X [a] ta) (hs:starEach [a] X.env=[(false,eval a X.env)]:=by rfl) :
    PI X (.Tuple elts kk tp) (.Call (.Name "enumerate" p) [a] [] pos) (Il X.K ta):=by
  intro pins s σ H R I h
  refine Call_ (nP I hg hm MZ (PyProof.Rows.callWith_type1 (aD (ha pos pins s σ H _ I h) fun us s1 ⟨vs,H1,I1,r1,q1⟩=>?_) hs rfl))
  obtain ⟨l,xs,rfl,qV,q⟩:=q1
  obtain ⟨u1,rfl,c1⟩:=r1.one
  cases c1
  obtain ⟨ox,qW,p1,J1⟩:=I1.list qV
  have J5:l<s1.heap.objs.size:=by obtain ⟨o,n,e,_⟩:=p1;exact Heap.lt_size e
  refine call_enumerate_list p1.isList fun h' hE hI bS hk=>wpAny_pyIter_enum hE ?_
  have I2:Inv X pins σ H1 { s1 with heap:=h' }:=I1.kept (t':=s1.toks) hk
  refine ⟨s1.heap.objs.size+1,[s1.heap.objs.size+1,s1.heap.objs.size],_,_,H1,rfl,I2,OL (Nat.succ_ne_self _) (PySem.W.ktu_ne 1 J5) (Nat.ne_of_lt J5),⟨⟨_,hE⟩,hI⟩,fun b hb=>?_,q⟩
  have oK:s1.heap.objs.size<=b:=by
    simp only [List.mem_cons,List.not_mem_nil,or_false] at hb
    rcases hb with rfl | rfl<;>omega
  obtain ⟨f0,f1,f2,f3,f4,f5⟩:=I1.tM (H':=H1) oK (I1.aF.fresh oK)
  exact ⟨f0,f1,f2,f3,f4,f5⟩
end
section
variable {ι:Type} {F:aY ι} {a b tg:Expr} {ρ:En} {ta tb':Tr} {elts:List Expr} {kk:Nat} {tp pos:Pos}
def ju (xs:List Dv):List Dv:=(List.range xs.length).zipWith (fun k x=>.tup [di (k:Nat),x]) xs
theorem kB {xs:List Dv} (hm:F.mg "enumerate" = none) (ha:Ev F a ρ ta) (ea:er ta=.lst xs) {p:Pos} (hg:∀ i,Gl (F.cx i) "enumerate" := by intro _;rfl)
    (hs:∀ i,starEach [a] (F.cx i).env=[(false,eval a (F.cx i).env)]:=by intro _;rfl):bA F (.Tuple elts kk tp) (.Call (.Name "enumerate" p) [a] [] pos) ρ (ju xs):=by
  obtain ⟨τ,p,q⟩:=(ah ha ao hs).use
  refine ⟨Il F.K τ,fun i=>F.hK i ▸ QF (hg i) ((F.hm i).symm ▸ hm) (p i) (hs i),fun σ G H R s r k=>q σ G H _ s r fun vs G1 H1 s1 hx=>?_⟩
  obtain ⟨x,rfl,h1⟩:=jt hx
  rw [ea] at h1
  obtain ⟨l1,us,rfl,g1,g2⟩:=h1
  have e1:=g2.length
  refine ⟨l1,us,rfl,s1.s.seq g1,k _ G1 H1 s1 fun j G2 H2 sg sh=>⟨fun d hd=>?_,fun hz=>?_⟩⟩
  · unfold ju at hd
    rw [List.getElem?_zipWith] at hd
    cases qx:xs[j]? with
    | none =>
      rw [qx] at hd
      cases q2:(List.range xs.length)[j]? with
      | none=>rw [q2] at hd;cases hd
      | some z=>rw [q2] at hd;cases hd
    | some dx =>
      have lj:j<xs.length:=(List.getElem?_eq_some_iff.mp qx).1
      rw [qx,List.getElem?_range lj] at hd
      cases hd
      obtain ⟨vx,x1,x2⟩:=g2.get qx
      refine ⟨⟨(sg.trans sh).seq g1,by omega⟩,?_⟩
      rintro x H3 ⟨T,wx,hT,z1,rfl,rfl⟩
      rw [x1] at z1
      cases z1
      exact ⟨_,.new sh hT,T,_,rfl,cB.of fA,_,_,rfl,⟨rfl,rfl⟩,_,_,rfl,(x2.mono sg).mono (av.new (sh.free hT)),rfl⟩
  · refine ⟨(sg.trans sh).seq g1,?_⟩
    rw [hz]
    unfold ju
    rw [List.length_zipWith,List.length_range,Nat.min_self,e1]
theorem C7 {n:Nat} {ds dd:List Dv} (e:x8 n (.tup ds)=some dd):ds.length=n/\dd=ds:=by
  have e':(if ds.length=n then some ds else none)=some dd:=e
  by_cases h:ds.length=n
  · rw [if_pos h] at e';cases e';exact ⟨h,rfl⟩
  · rw [if_neg h] at e';cases e'
theorem jT (j1 j2:Nat) {x y:Str} {px py:Pos} (hN:∀ i,(F.cx i).N.Nodup) (h1:∀ i,(F.cx i).N[j1]?=some x:=by intro _;rfl) (h2:∀ i,(F.cx i).N[j2]?=some y:=by intro _;rfl)
    (hx:∀ i,Loc (F.cx i).env.scope x:=by intro _;first | exact Or.inl rfl | exact Or.inr rfl) (hy:∀ i,Loc (F.cx i).env.scope y:=by intro _;first | exact Or.inl rfl | exact Or.inr rfl)
    (fx:∀ i,(F.cx i).fn x=true\/(F.cx i).env.scope.names.lookup x=some .local:=by intro _;first | exact .inl rfl | exact .inr rfl) (fy:∀ i,(F.cx i).fn y=true\/(F.cx i).env.scope.names.lookup y=some .local:=by intro _;first | exact .inl rfl | exact .inr rfl) :
    iA F (.Tuple [.Name x px,.Name y py] kk tp) [j1,j2] (x8 2) :=
  ⟨yB F.K 2 (n6 (iM j1) (n6 (iM j2) yA)),fun i=>F.hK i ▸ Fm (F.calm i) (pA (nA (hN i) (h1 i) (hx i) (fx i)) (pA (nA (hN i) (h2 i) (hy i) (fy i)) Em)),fun d dd v σ G H Q e s h k=>by
    cases d with
    | fl _=>cases e
    | lst _=>cases e
    | tup ds =>
      obtain ⟨hl,rfl⟩:=C7 e
      obtain ⟨a,vs,rfl,q1,q2⟩:=h
      have hv:vs.length=2:=by rw [<- q2.length];exact hl
      refine ⟨a,vs,rfl,s.tup q1,hv,?_⟩
      match vs,hv with
      | [v1,v2],_=>exact ⟨v1,[v2],rfl,v2,[],rfl,rfl,k [v1,v2] q2⟩⟩
theorem pZ (j1 j2 j3:Nat) {x y z:Str} {px py pz:Pos} (hN:∀ i,(F.cx i).N.Nodup) (h1:∀ i,(F.cx i).N[j1]?=some x:=by intro _;rfl) (h2:∀ i,(F.cx i).N[j2]?=some y:=by intro _;rfl) (h3:∀ i,(F.cx i).N[j3]?=some z:=by intro _;rfl)
    (hx:∀ i,Loc (F.cx i).env.scope x:=by intro _;first | exact Or.inl rfl | exact Or.inr rfl) (hy:∀ i,Loc (F.cx i).env.scope y:=by intro _;first | exact Or.inl rfl | exact Or.inr rfl) (hz:∀ i,Loc (F.cx i).env.scope z:=by intro _;first | exact Or.inl rfl | exact Or.inr rfl)
    (fx:∀ i,(F.cx i).fn x=true\/(F.cx i).env.scope.names.lookup x=some .local:=by intro _;first | exact .inl rfl | exact .inr rfl) (fy:∀ i,(F.cx i).fn y=true\/(F.cx i).env.scope.names.lookup y=some .local:=by intro _;first | exact .inl rfl | exact .inr rfl)
    (fz:∀ i,(F.cx i).fn z=true\/(F.cx i).env.scope.names.lookup z=some .local:=by intro _;first | exact .inl rfl | exact .inr rfl) :
    iA F (.Tuple [.Name x px,.Name y py,.Name z pz] kk tp) [j1,j2,j3] (x8 3) :=
  ⟨yB F.K 3 (n6 (iM j1) (n6 (iM j2) (n6 (iM j3) yA))),fun i=>F.hK i ▸ Fm (F.calm i) (pA (nA (hN i) (h1 i) (hx i) (fx i)) (pA (nA (hN i) (h2 i) (hy i) (fy i)) (pA (nA (hN i) (h3 i) (hz i) (fz i)) Em))),fun d dd v σ G H Q e s h k=>by
    cases d with
    | fl _=>cases e
    | lst _=>cases e
    | tup ds =>
      obtain ⟨hl,rfl⟩:=C7 e
      obtain ⟨a,vs,rfl,q1,q2⟩:=h
      have hv:vs.length=3:=by rw [<- q2.length];exact hl
      refine ⟨a,vs,rfl,s.tup q1,hv,?_⟩
      match vs,hv with
      | [v1,v2,v3],_=>exact ⟨v1,[v2,v3],rfl,v2,[v3],rfl,v3,[],rfl,rfl,k [v1,v2,v3] q2⟩⟩
theorem SF (j1 j2:Nat) {x y:Str} {m n:Int} {px py pt:Pos} {kt k2 lE} (ha:bH F a ρ (ti m)) (hb:bH F b ρ (ti n)) (hN:∀ i,(F.cx i).N.Nodup) (iV:Nat.blt j1 ρ.length=true:=by rfl) (jI:Nat.blt j2 ρ.length=true:=by rfl) (hi:∀ i,(F.cx i).N[j1]?=some x:=by intro _;rfl) (hj:∀ i,(F.cx i).N[j2]?=some y:=by intro _;rfl) (bz:j1 ≠ j2:=by decide)
    (hx:∀ i,(F.cx i).env.scope.names.lookup x=some .local:=by intro _;rfl) (hy:∀ i,(F.cx i).env.scope.names.lookup y=some .local:=by intro _;rfl)
    (hw:∀ i,swappedStores [.Tuple [.Name x px,.Name y py] kt pt] (.Tuple [a,b] k2 lE) (F.cx i).env=pure (some [x,y]):=by intro _;rfl)
    (hs:∀ i,swapsWithSole [.Tuple [.Name x px,.Name y py] kt pt] (.Tuple [a,b] k2 lE) pos.line (F.cx i).env=pure false:=by intro _;rfl)
    (st1:∀ i,starEach [a,b] (F.cx i).env=(false,eval a (F.cx i).env)::starEach [b] (F.cx i).env:=by intro _;rfl) (aK:∀ i,starEach [b] (F.cx i).env=(false,eval b (F.cx i).env)::starEach [] (F.cx i).env:=by intro _;rfl) :
    Rn F (.Assign [.Tuple [.Name x px,.Name y py] kt pt] (.Tuple [a,b] k2 lE) pos) ρ (.nx ((ρ.set j1 (some (ti m))).set j2 (some (ti n)))):=by
  obtain ⟨τ,y1,z1⟩:=ha
  obtain ⟨bL,y2,z2⟩:=hb
  refine ⟨HS j1 j2 (dZ τ (dZ bL fc)),fun i=>R9 (F.calm i) (hN i) (hi i) (hj i) bz (hx i) (hy i) (dw (y1 i) (dw (y2 i) eT (aK i)) (st1 i)) (hw i) (hs i),fun D σ G0 H0 G H r k=>?_⟩
  obtain ⟨fp,r⟩:=r
  have key:∀ {G1 H1:Hp},Step G H G1 H1->∀ a ∈ fp,G1 a=none:=fun {G1 H1} s1 a ha=>by
    cases q:G1 a with
    | none=>rfl
    | some u =>
      obtain ⟨u',aQ⟩:=r.own.there a ha
      have:=s1.n a (r.g a ha) (by rw [q];exact fun z=>nomatch z)
      rw [aQ] at this;cases this
  refine z1 σ G H fp _ r.st.s r.own r.g fun v G1 H1 fq s1 o w=>z2 σ G1 H1 fp _ s1.s (r.own.mono s1.g s1.h) (key s1) fun v' G2 H2 Z6 s2 o' w'=>?_
  have e1:v=.int m:=aL o.2
  have e2:v'=.int n:=aL o'.2
  subst e1 e2
  refine ⟨_,_,rfl,?_⟩
  have oM:=s1.trans s2
  obtain ⟨fp1,r1⟩:=(⟨r.st.trans oM,r.own.mono oM.g oM.h,key oM,r.n,r.d⟩:dP F.K G0 H0 G2 H2 ρ σ fp).set (t:=ti m) (v:=.int m) (Nat.le_of_ble_eq_true iV) (.refl oM.s) ⟨rfl,rfl,rfl⟩ .nil
  exact k _ G2 H2 (r1.set (t:=ti n) (v:=.int n) (by rw [List.length_set];exact Nat.le_of_ble_eq_true jI) (.refl oM.s) ⟨rfl,rfl,rfl⟩ .nil)
end
end L2
namespace L2
open PySem PySem.Spec PyProof.Rows
theorem Py {X:Cx} {elt tg iter:Expr} {ifs:List Expr} {sc:Scope} {cl:List (Str×Addr)} {own:List Str} {fr:List Nat} {pos qz py:Pos} {wi:TI} {g:TG} {tt:TT} {te:TE} {y0:Str} {j0:Nat}
    (L:gU X sc cl fr) (hc:X.calm=true) (hi:PI X tg iter wi)
    (hg:∀ C s H ex pn,PG (cH X own fr sc cl C s H ex pn) tg g)
    (ht:∀ C s H ex pn (pins:List (Addr×Obj)) (s1:Shared) (aJ:St) (H1:Hp) (Q:Bool->Hp->Prop),Inv (cH X own fr sc cl C s H ex pn) pins aJ H1 s1->tt aJ H1 Q ->
      wpAny (model X.prog X.w) X.A (jc ifs (compEnvC sc (cellsFrom (C+1) sc.names cl) C X.env)) (TP (cH X own fr sc cl C s H ex pn) pins aJ Q) cu s1)
    (he:∀ C s H ex pn,PE (cH X own fr sc cl C s H ex pn) elt te) (hN0:X.N.Nodup) (hj0:X.N[j0]?=some y0) (hx0:Loc X.env.scope y0)
    (jH:swapsWith (.ListComp elt [⟨tg,iter,ifs,0⟩] sc pos) (some (.Name y0 py)) qz.line X.env=pure true) (hf0:X.fn y0=true\/X.env.scope.names.lookup y0=some .local) (hs:∀ x,foldedSetIterable iter X.env x=pure x:=by intro _;rfl) :
    PS X (.Assign [.Name y0 py] (.ListComp elt [⟨tg,iter,ifs,0⟩] sc pos) qz) (qv (zj wi g tt te own fr) (iM j0)):=by
  intro pins s σ H D I h
  rw [exec_Assign_Name_used _ _ _ _ jH]
  refine wpAny_bind (wpAny_standAt (wpAny_bind ?_))
  show wpAny _ X.A (do let _ <- comprehension (.ListComp elt [⟨tg,iter,ifs,0⟩] sc pos) sc X.env _ (newList []) false (eval iter X.env) (some (assign (.Name y0 py) X.env))) _ _ s
  refine wpAny_bind (wpAny_mono (wpAny_comprehension_free (use:=some (assign (.Name y0 py) X.env)) (Q:=fun _ s'=>SP X pins D .next s') rfl hs L.HY L.kind L.names (aD (hi pins s σ H _ I h) fun v s1 h1=>aD h1 fun ua s2 h2=>?_)) (fun _ s' hq=>wpAny_pure (wpAny_pure hq)) fun _ _ e=>e)
  obtain ⟨it,fp,tn,J,H2,e,I2,T,aK,f2,h2⟩:=h2
  subst e
  refine wpAny_newObj_type ?_
  have I3:Inv X pins σ (upd H2 s2.heap.objs.size (.lst [])) { s2 with heap:=s2.heap.push { cls:=.type "list",data:=.seq ([]:List Value).toArray } }:=I2.yK (t':=s2.toks) .nil (Nat.zero_le _)
  have n2:H2 s2.heap.objs.size=none:=I2.fresh
  obtain ⟨W,⟨m0,w0⟩,turn⟩:=h2 _ n2
  have zk:∀ b ∈ fp,b<s2.heap.objs.size:=fun b hb=>by
    obtain ⟨o,eo,_⟩:=T.obj 0 _ aK b hb
    exact Heap.lt_size eo
  have cS:∀ b ∈ fp,fS X pins (upd H2 s2.heap.objs.size (.lst [])) b:=fun b hb=>⟨by rw [bO (Nat.ne_of_lt (zk b hb))];exact (f2 b hb).1,(f2 b hb).2⟩
  generalize gf:({ s2 with heap:=s2.heap.push { cls:=.type "list",data:=.seq ([]:List Value).toArray } }:Shared)=s3 at I3
  have dJ:tn 0 s3.heap:=by
    rw [<- gf]
    exact T.keep 0 _ _ aK fun b hb o eo=>Heap.get?_push_of_some _ eo
  have lL:∀ b ∈ fp,b<s3.heap.objs.size:=fun b hb=>by
    obtain ⟨o,eo,_⟩:=T.obj 0 _ dJ b hb
    exact Heap.lt_size eo
  generalize zm:upd H2 s2.heap.objs.size (.lst [])=H3 at I3 cS w0
  generalize s2.heap.objs.size=acc at turn w0 zm ⊢
  refine C0 ?_
  have iu:(pushCells (s3.heap.push { cls:=.type "dict",data:=.dict #[] }) sc.names).Ns s3.heap.objs.size fun _=>none:=(Heap.Ns.new s3.heap (.type "dict")).keeps (pushCells_keeps _ _)
  have kp:∀ b o,s3.heap.get? b=some o->(pushCells (s3.heap.push { cls:=.type "dict",data:=.dict #[] }) sc.names).get? b=some o:=fun b o eo=>pushCells_keeps _ _ b o (Heap.get?_push_of_some _ eo)
  have lK:∀ y c,(cellsFrom (s3.heap.objs.size+1) sc.names cl).lookup y=some c->cl.lookup y=some c\/(pushCells (s3.heap.push { cls:=.type "dict",data:=.dict #[] }) sc.names).IsCell c none:=fun y c e =>
    sD sc.names (s3.heap.push { cls:=.type "dict",data:=.dict #[] }) cl y c (by rw [Heap.size_push];exact e)
  generalize ZZ:pushCells (s3.heap.push { cls:=.type "dict",data:=.dict #[] }) sc.names=h4 at iu kp lK
  have I4:=lcInv (own:=own) (tk:=s3.toks) L I3 cS lL iu kp lK
  have qQ:tn 0 h4:=T.keep 0 _ _ dJ fun b hb o eo=>kp b o eo
  have stat:∀ {H':Hp},(∀ b ∈ fp,H' b=none)->∀ b ∈ fp,fS (cH X own fr sc cl s3.heap.objs.size s3 H3 fp (X.pn++pins)) [] H' b:=fun {H'} hn b hb =>
    ⟨hn b hb,Nat.ne_of_lt (lL b hb),fun z=>(List.mem_cons.mp (I3.pV b z)).elim (cS b hb).2.1 (cS b hb).2.2.1,.inl hb,fun y c e=>(pd _ _ _ y c e).elim (fun q=>(cS b hb).2.2.2.2.1 y c (L.sub y c q)) fun q=>Nat.ne_of_gt (Nat.lt_of_lt_of_le (lL b hb) (Nat.le_of_succ_le q.1)),fun p hp=>(cS b hb).2.2.2.2.2 p (by
      have z:p ∈ (X.pn++pins)++[]:=hp
      simpa using z)⟩
  have loop:codeAny (model X.prog X.w) X.A (.compLoop (.ListComp elt [⟨tg,iter,ifs,0⟩] sc pos) 0 (.ref it) (.ref acc) (compEnvC sc (cellsFrom (s3.heap.objs.size+1) sc.names cl) s3.heap.objs.size X.env))
      (compPost (model X.prog X.w) X.A X.xe (some (assign (.Name y0 py) X.env)) (fun _ s'=>SP X pins D .next s') (.ref acc) s3.heap.objs.size) { s3 with heap:=h4,toks:=s3.toks }:=by
    refine Fu (fun n s'=>∃ i ys aJ H1,Inv (cH X own fr sc cl s3.heap.objs.size s3 H3 fp (X.pn++pins)) [] aJ H1 s'/\tn i s'.heap/\(∀ b ∈ fp,H1 b=none)/\W i n ys aJ H1) ?_ m0 ⟨0,[],_,H3,I4,qQ,fun b hb=>(cS b hb).1,w0⟩
    rintro n s5 ⟨i,ys,jD,H5,I5,jy,lH,w5⟩
    obtain ⟨jq,hlen,hh⟩:=turn i n ys jD H5 w5
    rcases hh with ⟨stop,qn⟩ | ⟨go,N,hN,step⟩
    · refine aD (T.done (cH X own fr sc cl s3.heap.objs.size s3 H3 fp (X.pn++pins)) rfl rfl rfl hc i [] s5 jD H5 cu I5 (stat lH) jy stop) fun r s6 ⟨hr,I6⟩=>?_
      subst hr
      obtain ⟨m6,zo,_⟩:=id I6.loc
      have back:∀ h7,Heap.SameBut s3.heap.objs.size s6.heap h7->Inv X pins σ H5 { s6 with heap:=h7 }:=fun h7 jE=>by
        have old:∀ b o,s3.heap.get? b=some o->b ≠ s3.heap.objs.size:=fun b o eo=>Nat.ne_of_lt (Heap.lt_size eo)
        have u6:Un (cU X.stack) fp H3 H5 s3.heap s6.heap:=I6.base
        have u7:Un (cU X.stack) fp H3 H5 s3.heap h7 :=
          ⟨fun b o eo nn hb hx=>(jE.2 b (old b o eo)).trans (u6.keep b o eo nn hb hx),fun b o eo nn hb hx=>by
            obtain ⟨sl,q⟩:=u6.slot b o eo nn hb hx
            exact ⟨sl,(jE.2 b (old b o eo)).trans q⟩,u6.free,fun b o eo hx=>by
            obtain ⟨o',q⟩:=u6.there b o eo hx
            exact ⟨o',(jE.2 b (old b o eo)).trans q⟩,u6.iO,u6.hG,u6.iP⟩
        have fC:H5 s3.heap.objs.size=none:=I6.free
        have yN:cA X.prog X.w H5 h7:=fun b ob eb=>by
          refine (I6.aF b ob eb).jm (fun c w' gO q=>(jE.2 c ?_).trans q) (fun _ q=>q) fun _ _ q=>q
          rintro rfl
          rcases gO with z | z
          · rw [<- z,fC] at eb;cases eb
          · rw [fC] at z;cases z
        exact I3.GR (s':={ s6 with heap:=h7 }) I6.os u7 yN I6.bare fun b hb=>⟨(cS b hb).2.2.2.1,(cS b hb).2.1,(cS b hb).2.2.2.2.1,(cS b hb).2.2.2.2.2⟩
      have fC0:H5 s3.heap.objs.size=none:=I6.free
      show wpAny _ _ (assign (.Name y0 py) X.env (.ref acc)) _ X.xe s6
      refine wpAny_assign_Name (Dg (v:=.ref acc) (back s6.heap (Heap.SameBut.refl ..)) hN0 hj0 hx0 rfl (fun s7 I7 ⟨a,sb,ha⟩=>?_) hf0)
      have aC:s3.heap.objs.size ≠ a:=by
        rcases ha with rfl | ha
        · exact Nat.ne_of_gt I3.lt
        · obtain ⟨v0,q0⟩:=I3.cell y0 a ha
          exact Nat.ne_of_gt q0.lt
      refine ⟨m6,zo.sameBut sb aC,fun h8 sb8=>⟨_,H5,?_,qn⟩⟩
      exact Inv.EF (t':=s7.toks) (fs:=[s3.heap.objs.size]) I7 (fun b o hb e=>(sb8.2 b (fun z=>hb (by rw [z];exact .head _))).trans e) (fun b hb=>by
        rw [List.mem_singleton.mp hb]
        exact I3.tM (H':=H5) (Nat.le_refl _) fC0)
    · refine aD (T.item (cH X own fr sc cl s3.heap.objs.size s3 H3 fp (X.pn++pins)) rfl rfl rfl hc i [] s5 jD H5 cu I5 (stat lH) jy go) fun r s6 ⟨u,hr,h6⟩=>?_
      subst hr
      refine aD h6 fun _ s7 ⟨x,H7,I7,r7,y7,lM,zp⟩=>?_
      have zq:=I7.pinned (stat zp) (T.obj _ _ lM)
      refine aD (hg _ _ _ _ _ _ s7 jD H7 x u _ zq r7 (step x H7 y7)) fun _ s8 ⟨jF,H8,I8,q8⟩=>?_
      have again:∀ {zs:List V} {iw:St} {H9:Hp} {s9:Shared},Inv (cH X own fr sc cl s3.heap.objs.size s3 H3 fp (X.pn++pins)) ([]++nQ fp s7.heap) iw H9 s9->N zs iw H9 ->
          ∃ m,m<n/\∃ i ys aJ H1,Inv (cH X own fr sc cl s3.heap.objs.size s3 H3 fp (X.pn++pins)) [] aJ H1 s9/\tn i s9.heap/\(∀ b ∈ fp,H1 b=none)/\W i m ys aJ H1:=fun {zs iw H9 s9} I9 n9=>by
        obtain ⟨m',hm,w9⟩:=hN zs iw H9 n9
        refine ⟨m',hm,i+1,zs,iw,H9,I9.pB,T.keep _ _ _ lM fun b hb o e=>(I9.pin (b,o) (List.mem_append_right _ (List.mem_append_right _ (mY hb e)))).1,fun b hb=>?_,w9⟩
        obtain ⟨o,e,d⟩:=T.obj _ _ lM b hb
        exact (I9.pin (b,o) (List.mem_append_right _ (List.mem_append_right _ (mY hb e)))).2.1
      refine aD (ht _ _ _ _ _ _ s8 jF H8 _ I8 q8) fun ok s9 ⟨H9,I9,q9⟩=>?_
      cases ok with
      | false=>exact again I9 (by simpa using q9)
      | true =>
        refine aD (he _ _ _ _ _ _ s9 jF H9 _ I9 q9) fun z zr ⟨y,zt,zu,zv,lN,zx⟩=>?_
        refine aD (rR _ zr jF zt (.ref acc) [y] (.ref acc) [z] (fun _ H'=>N (ys++[y]) jF H') zu rfl (.cons zv .nil) ⟨acc,ys,y,rfl,rfl,lN,hlen,zx⟩) fun _ Z0 ⟨_,Z1,zy,_,zC⟩=>again zy zC
  rw [<- gf] at loop ⊢
  exact codeAny_compStart_list loop (zi (T.self _ 0 _ _ _ qQ (by rw [gf];rw [gf] at loop;exact loop)))
section
variable {ι:Type} {F:aY ι} {elt tg iter:Expr} {ifs:List Expr} {sc:Scope} {own:List Str} {fr:List Nat} {cl : ι->List (Str×Addr)} {ρ:En} {t:Tr} {pos qz py:Pos}
theorem kY (h:dR F own fr sc cl elt tg iter ifs ρ t):∃ τ,uv F own fr sc cl elt tg iter ifs τ/\∀ σ G H fp Q,av G H->aZ F.K G H ρ σ fp->(∀ a ∈ fp,G a=none)->Kv F.K G H t Q -> τ σ H Q :=
  let ⟨τ,v,y⟩:=h;⟨τ,v,fun σ G H fp Q s r _ k=>y σ G H Q s r.oH k⟩
theorem Uu (h:dR F own fr sc cl elt tg iter ifs (pk ρ) t) (c:Cl t):∃ τ,uv F own fr sc cl elt tg iter ifs τ/\∀ σ G H fp Q,av G H->aZ F.K G H ρ σ fp->(∀ a ∈ fp,G a=none)->Kv F.K G H t Q -> τ σ H Q:=by
  obtain ⟨τ,x,y⟩:=h
  refine ⟨τ,x,fun σ G H fp Q s r hg k=>?_⟩
  refine y σ (fh G H fp) H Q (pD s) (r.pk (jM hg) fun a ha=>jQ ha) fun v G' H' fq st o w=>?_
  refine k v G H' fq ⟨av.refl _,st.h,s.trans st.h,fun a h h'=>absurd h h'⟩ (o.cl c) ⟨w.n,fun a ha=>s.free (w.n a ha),w.d⟩
theorem jU (j:Nat) {x:Str} (h:∃ τ,uv F own fr sc cl elt tg iter ifs τ/\∀ σ G H fp Q,av G H->aZ F.K G H ρ σ fp->(∀ a ∈ fp,G a=none)->Kv F.K G H t Q -> τ σ H Q) (L:∀ i,gU (F.cx i) sc (cl i) fr) (hN:∀ i,(F.cx i).N.Nodup) (hj:Nat.blt j ρ.length=true:=by rfl) (hi:∀ i,(F.cx i).N[j]?=some x:=by intro _;rfl)
    (hx:∀ i,Loc (F.cx i).env.scope x:=by intro _;first | exact Or.inl rfl | exact Or.inr rfl) (jH:∀ i,swapsWith (.ListComp elt [⟨tg,iter,ifs,0⟩] sc pos) (some (.Name x py)) qz.line (F.cx i).env=pure true:=by intro _;rfl)
    (hf:∀ i,(F.cx i).fn x=true\/(F.cx i).env.scope.names.lookup x=some .local:=by intro _;first | exact .inl rfl | exact .inr rfl) (hs:∀ i x,foldedSetIterable iter (F.cx i).env x=pure x:=by intro _ _;rfl) :
    Rn F (.Assign [.Name x py] (.ListComp elt [⟨tg,iter,ifs,0⟩] sc pos) qz) ρ (.nx (ρ.set j (some t))):=by
  obtain ⟨τ,⟨wi,g,tt,te,rfl,h1,h2,h3,h4⟩,z⟩:=h
  refine ⟨_,fun i=>Py (cl:=cl i) (L i) (F.calm i) (h1 i) (fun C s H ex pn=>h2 (i,⟨C,s,H,ex,pn⟩)) (fun C s H ex pn=>h3 (i,⟨C,s,H,ex,pn⟩)) (fun C s H ex pn=>h4 (i,⟨C,s,H,ex,pn⟩)) (hN i) (hi i) (hx i) (jH i) (hf i) (hs i),fun D σ G0 H0 G H r k=>?_⟩
  obtain ⟨fp,r⟩:=r
  exact z σ G H fp _ r.st.s r.own r.g fun v G1 H1 fq s1 o w=>k _ G1 H1 (r.set (Nat.le_of_ble_eq_true hj) s1 o w)
theorem dR.as {d:Dv} (h:dR F own fr sc cl elt tg iter ifs ρ t) (e:er t=d):dR F own fr sc cl elt tg iter ifs ρ (.fz d):=by
  obtain ⟨τ,v,q⟩:=h
  refine ⟨τ,v,fun σ G H Q s r k=>q σ G H Q s r fun v G' H' fq st o w=>?_⟩
  exact k v (fh G' H' fq) H' [] (st.d8 w) ⟨rfl,e ▸ o.hv (jM w.g) fun a ha=>jQ ha⟩ .nil
theorem dR.to {t':Tr} (h:dR F own fr sc cl elt tg iter ifs ρ t) (e:t=t'):dR F own fr sc cl elt tg iter ifs ρ t':=e ▸ h
end
end L2
namespace L2
open PySem PySem.Spec PyProof.Rows
def FG (K:PySem.W.Frag):V->List V->Hp->VK->Prop:=fun x vs H Q=>∃ l xs y,x=.ref l/\vs=[y]/\bj K H l xs/\eE y=true/\xs.all eE=true/\Q (.int (xs.countP fun z=>fm z y)) H
theorem C8 {x:V}:∀ {xs:List V} {us:List Value},Vals xs us->xs.all eE=true->us.countP (eJ x)=xs.countP fun y=>fm y x
  | _,_,.nil,_=>rfl
  | y::xs,u::us,.cons r t,f=>by
    rw [List.all_cons,Bool.and_eq_true] at f
    rw [List.countP_cons,List.countP_cons,C8 t f.2,xD r f.1]
section
variable {X:Cx}
theorem Pz:qM X "list.count" (FG X.K):=by
  intro pins s σ H x vs v us Q I rx rv h
  obtain ⟨l,xs,y,rfl,rfl,hq,fy,fs,q⟩:=h
  cases rx
  obtain ⟨u,rfl,ru⟩:=rv.one
  obtain ⟨af,r,⟨⟨cl,dd,da,sl⟩,n,e,c1,c2,d1⟩,z⟩:=I.list hq
  simp only at c1 d1
  subst c1 d1
  refine call_meets F.slot_list_count ⟨_,e,rfl⟩ F.entry_list_count (F.args_list_count_2 _ _) (SeqAt.list_countAt l af.toArray n dd sl u (eJ y)) ⟨e,fun w hw=>ni ru fy r fs w (by simpa using hw),?_⟩
  refine ⟨.int _,H,I.tok _,⟨_,rfl⟩,?_⟩
  rw [show af.toArray.toList=af by simp,C8 r fs]
  exact q
end
section
variable {ι:Type} {F:aY ι} {e a b c:Expr} {es:List Expr} {ρ:En} {t ta tb' tc:Tr} {ts:List Tr} {pos:Pos}
theorem C2 (n:Int):∀ ns:List Int,(ns.map V.int).countP (fun z=>fm z (.int n))=ns.count n
  | [] => rfl
  | m::ms=>by
    rw [List.map_cons,List.countP_cons,C2 n ms,List.count_cons]
    rfl
theorem Hq {nm:Str} {id:String} {r:V->List V->Hp->VK->Prop} {xs:List Dv} {o:Expr} {to:Tr} (slot:Slot "list" nm id) (zf:typeOf (.builtin id)=pure (.type "method_descriptor")) (hm:∀ i,JL (F.cx i) id r) (ho:Ev F o ρ to) (eo:er to=.lst xs) (ha:gg F (e::es) ρ ts)
    (h:∀ G H x vs Q,av G H->Hv F.K G (er to) x->aX F.K G (eK ts) vs->Kv F.K G H t Q->r x vs H Q) {apos:Pos}
    (fP:∀ i,attributeBase o nm (F.cx i).env (eval o (F.cx i).env)=eval o (F.cx i).env:=by intro _;rfl)
    (fT:∀ i,((backTo pos (starEach (e::es) (F.cx i).env)).all (fun x=>!x.1)&&(backToKw pos (keywordEach [] (F.cx i).env)).all (fun x=>x.1.isSome)&&decide ((e::es).length+([]:List Keyword).length+(if ([]:List Keyword).isEmpty then 0 else 1)<30))=true:=by intro _;rfl)
    (hline:(apos.endLine==pos.line)=true:=by rfl) (hs:∀ i,starEach (e::es) (F.cx i).env=(false,eval e (F.cx i).env)::starEach es (F.cx i).env:=by intro _;rfl) (xE:∀ i,(backTo pos (starEach es (F.cx i).env)).any (·.1)=false:=by intro _;rfl) :
    Ev F (.Call (.Attribute o nm apos) (e::es) [] pos) ρ t:=by
  obtain ⟨τ,p,q⟩:=ho.use
  obtain ⟨bL,p',q'⟩:=ha.use
  refine ⟨lJ F.K "list" r τ bL,fun i=>F.hK i ▸ n8 PySem.F.plainAttrs_list slot zf (hm i) (p i) (p' i) (fP i) (fT i) hline (hs i) (xE i),fun σ G H Q s rr k=>?_⟩
  refine q σ G H _ s rr fun x G1 H1 s1 hx=>⟨?_,q' σ G1 H1 _ s1.s (rr.mono s1.g) fun vs G2 H2 s2 hv=>h G2 H2 x vs Q s2.s (hx.mono s2.g) hv (k.step (s1.trans s2))⟩
  rw [eo] at hx
  obtain ⟨l,us,rfl,h1,h2⟩:=hx
  exact .inl ⟨rfl,_,s1.s.seq h1⟩
theorem DR {n:Int} {ns:List Int} {o:Expr} {to:Tr} (ho:Ev F o ρ to) (eo:er to=dis ns) (ha:Ev F e ρ (ti n)) {apos:Pos}
    (fP:∀ i,attributeBase o "count" (F.cx i).env (eval o (F.cx i).env)=eval o (F.cx i).env:=by intro _;rfl)
    (fT:∀ i,((backTo pos (starEach [e] (F.cx i).env)).all (fun x=>!x.1)&&(backToKw pos (keywordEach [] (F.cx i).env)).all (fun x=>x.1.isSome)&&decide (([e]:List Expr).length+([]:List Keyword).length+(if ([]:List Keyword).isEmpty then 0 else 1)<30))=true:=by intro _;rfl)
    (hline:(apos.endLine==pos.line)=true:=by rfl) (hs:∀ i,starEach [e] (F.cx i).env=[(false,eval e (F.cx i).env)]:=by intro _;rfl):Ev F (.Call (.Attribute o "count" apos) [e] [] pos) ρ (ti (ns.count n:Nat)) :=
  Hq (r:=FG F.K) PySem.F.slot_list_count PySem.F.type_list_count (fun i=>F.hK i ▸ Pz) ho eo (ah ha ao hs) (fun G H x vs Q s hx hv k=>by
    rw [eo] at hx
    obtain ⟨l,us,rfl,h1,h2⟩:=hx
    have:=kz h2
    subst this
    obtain ⟨y,rfl,hy⟩:=jt hv
    refine ⟨l,_,y,rfl,rfl,s.seq h1,by rw [aL hy];rfl,Dn ns,?_⟩
    rw [aL hy,C2]
    exact k.sc s rfl) fP fT hline hs (fun _=>rfl)
theorem Dr {K:PySem.W.Frag} {G:Hp}:∀ {bs:List Bool} {vs:List V},aX K G (bs.map db) vs->vs=bs.map V.bl
  | [],_,h=>h
  | _::_,_,⟨x,r,h1,h2,h3⟩=>by subst h1;rw [aL h2,Dr h3];rfl
theorem rJ {α β:Type} (l:List α) (d : α) (f : α -> β):(List.range l.length).map (fun k=>f ((l[k]?).getD d))=l.map f:=by
  refine List.ext_getElem? fun i=>?_
  rw [List.getElem?_map,List.getElem?_map]
  rcases Nat.lt_or_ge i l.length with h | h
  · rw [List.getElem?_range h,List.getElem?_eq_getElem h]
    show some (f ((l[i]?).getD d))=_
    rw [List.getElem?_eq_getElem h]
    rfl
  · rw [List.getElem?_eq_none (by simpa using h),List.getElem?_eq_none h]
    rfl
theorem FH:∀ ds:List Dv,eK (ds.map .fz)=ds
  | [] => rfl
  | d::ds=>by show d::eK (ds.map .fz)=_;rw [FH ds]
theorem kQ (ds:List Dv):er (.ow (ds.map .fz))=.lst ds:=by show Dv.lst _=_;rw [FH]
theorem Ev.to {t':Tr} (h:Ev F e ρ t) (q:t=t'):Ev F e ρ t':=q ▸ h
theorem Et.to {p q:Bool} (h:Et F e ρ p) (z:p=q):Et F e ρ q:=z ▸ h
theorem bH.to {t':Tr} (h:bH F e ρ t) (q:t=t'):bH F e ρ t':=q ▸ h
theorem nS {A B:List Stmt} {o:Out} {p:Bool} (hc:cX F c ρ p) (hp:p=true) (h1:bb F A ρ o):Rn F (.If c A B pos) ρ o:=qh hc (fun _=>h1) fun h=>by rw [hp] at h;cases h
theorem FI {A B:List Stmt} {o:Out} {p:Bool} (hc:cX F c ρ p) (hp:p=false) (h1:bb F B ρ o):Rn F (.If c A B pos) ρ o:=qh hc (fun h=>by rw [hp] at h;cases h) fun _=>h1
theorem dy {A:List Stmt} {p:Bool} (hc:cX F c ρ p) (hp:p=false):Rn F (.If c A [] pos) ρ (.nx ρ):=FI hc hp nC
def Im (dd:List Dv) (t:Tr):Prop:=∃ ns:List Int,ns.length<=63/\dd=[dis ns]/\t=tb true
def tH (K:PySem.W.Frag):Sp:=fun vs H Q _=>∃ (a:Addr) (ns:List Int),vs=[.ref a]/\bj K H a (ns.map V.int)/\ns.length<=63/\∀ H',Q (.bl true) H'
theorem SG {P:Program} {w:World} {K:PySem.W.Frag} {mg:Str->Option Value} {base:Heap} {k:Nat} {f:Addr} {fd:FuncData} (F:aP P w K mg base aj k f fd ["_law_script"] (spT K Im)):aP P w K mg base aj k f fd ["_law_script"] (tH K) :=
  F.imp fun vs H Q E ⟨a,ns,e,h1,h2,h3⟩=>⟨H,[dis ns],tb true,av.refl _,⟨.ref a,[],e,⟨a,_,rfl,h1,nj⟩,rfl⟩,⟨ns,h2,rfl,rfl⟩,fun v G' H' fq st o w=>by rw [aL o.2];exact h3 H'⟩
end
end L2
namespace ft
def gc (a b:Int):Int:=(Int.gcd a b:Int)
theorem nT {a b:Int} (h:b ≠ 0) : 0<gc a b:=by
  have : 0<Int.gcd a b:=Int.gcd_pos_of_ne_zero_right _ h
  unfold gc;omega
theorem DT (a b:Int):gc a b ∣ a:=Int.gcd_dvd_left ..
theorem DU (a b:Int):gc a b ∣ b:=Int.gcd_dvd_right ..
theorem EG (a:Int):gc a 0=(a.natAbs:Int):=by unfold gc;rw [Int.gcd_zero_right]
theorem EH (a:Int) {b:Int}:gc b (a % b)=gc a b:=by
  unfold gc
  congr 1
  apply Nat.dvd_antisymm
  · refine Int.dvd_gcd ?_ (Int.gcd_dvd_left ..)
    have h1:(↑(Int.gcd b (a % b)):Int) ∣ b:=Int.gcd_dvd_left ..
    have h2:(↑(Int.gcd b (a % b)):Int) ∣ a % b:=Int.gcd_dvd_right ..
    have:=Int.dvd_add (Int.dvd_trans h1 (Int.dvd_mul_right b (a / b))) h2
    rwa [Int.mul_ediv_add_emod] at this
  · refine Int.dvd_gcd (Int.gcd_dvd_right ..) ?_
    have h1:(↑(Int.gcd a b):Int) ∣ a:=Int.gcd_dvd_left ..
    have h2:(↑(Int.gcd a b):Int) ∣ b:=Int.gcd_dvd_right ..
    rw [Int.emod_def]
    exact Int.dvd_sub h1 (Int.dvd_trans h2 (Int.dvd_mul_right b (a / b)))
theorem FJ (a b:Int):gc (a.natAbs:Int) (b.natAbs:Int)=gc a b:=by
  unfold gc;simp [Int.gcd]
theorem EI {a b:Int} (h : 0<b):gc a b<=b:=Int.le_of_dvd h (DU a b)
def lT (t b:Int):Int:=(if b<0 then -t else t) / gc t b
def lB (t b:Int):Int:=(b.natAbs:Int) / gc t b
theorem FK {t b:Int} (h : 0<b):lT t b=t / gc t b:=by unfold lT;rw [if_neg (by omega)]
theorem FL {t b:Int} (h : 0<b):lB t b=b / gc t b:=by unfold lB;rw [show (b.natAbs:Int)=b by omega]
theorem xJ (t b:Int):lT t b*gc t b=if b<0 then -t else t:=by
  unfold lT
  refine Int.ediv_mul_cancel ?_
  split
  · exact Int.dvd_neg.mpr (DT t b)
  · exact DT t b
theorem xK (t b:Int):lB t b*gc t b=(b.natAbs:Int):=by
  unfold lB
  refine Int.ediv_mul_cancel ?_
  exact Int.dvd_natAbs.mpr (DU t b)
theorem tI {t b:Int} (h:b ≠ 0) : 1<=lB t b:=by
  have h1:=xK t b
  have h2:=nT (a:=t) h
  have h3 : 0<lB t b:=Int.pos_of_mul_pos_left (by rw [h1];omega) h2
  omega
theorem TJ {t b:Int} (h:b ≠ 0):lB t b<=(b.natAbs:Int):=by
  unfold lB
  exact Int.ediv_le_self _ (by omega)
theorem SH {t b:Int} (h:b ≠ 0):(lT t b).natAbs<=t.natAbs:=by
  have h1:=xJ t b
  have h2:=nT (a:=t) h
  have h3:(lT t b*gc t b).natAbs=t.natAbs:=by rw [h1];split<;>omega
  rw [Int.natAbs_mul] at h3
  have h4 : 1<=(gc t b).natAbs:=by omega
  calc (lT t b).natAbs=(lT t b).natAbs*1:=by omega
    _<=(lT t b).natAbs*(gc t b).natAbs:=Nat.mul_le_mul_left _ h4
    _=t.natAbs:=h3
theorem xf {t b:Int} (h:b ≠ 0):lT t b*b=t*lB t b:=by
  have h1:=xJ t b
  have h2:=xK t b
  have h3:=nT (a:=t) h
  apply Int.eq_of_mul_eq_mul_right (a:=gc t b) (by omega)
  by_cases hb:b<0
  · rw [if_pos hb] at h1
    have h4:lB t b*gc t b = -b:=by omega
    grind
  · rw [if_neg hb] at h1
    have h4:lB t b*gc t b=b:=by omega
    grind
theorem Ds {t b:Int} (h:b ≠ 0):Int.gcd (lT t b) (lB t b)=1:=by
  have h1:=xJ t b
  have h2:=xK t b
  have h3:=nT (a:=t) h
  have hd1:((Int.gcd (lT t b) (lB t b):Int)) ∣ lT t b:=Int.gcd_dvd_left ..
  have hd2:((Int.gcd (lT t b) (lB t b):Int)) ∣ lB t b:=Int.gcd_dvd_right ..
  have e1:((Int.gcd (lT t b) (lB t b):Int))*gc t b ∣ t:=by
    have:=Int.mul_dvd_mul hd1 (Int.dvd_refl (gc t b))
    rw [h1] at this
    split at this
    · exact Int.dvd_neg.mp this
    · exact this
  have e2:((Int.gcd (lT t b) (lB t b):Int))*gc t b ∣ b:=by
    have:=Int.mul_dvd_mul hd2 (Int.dvd_refl (gc t b))
    rw [h2] at this
    exact Int.dvd_natAbs.mp this
  have e3:((Int.gcd (lT t b) (lB t b):Int))*gc t b ∣ gc t b:=Int.dvd_coe_gcd e1 e2
  have e4:=Int.le_of_dvd h3 e3
  have e5 : 0<Int.gcd (lT t b) (lB t b):=Int.gcd_pos_of_ne_zero_right _ (by have:=tI (t:=t) h;omega)
  by_cases hh:Int.gcd (lT t b) (lB t b)=1
  · exact hh
  · have e6:(2:Int)<=((Int.gcd (lT t b) (lB t b):Nat):Int):=by omega
    have : 2*gc t b<=((Int.gcd (lT t b) (lB t b):Nat):Int)*gc t b:=Int.mul_le_mul_of_nonneg_right e6 (by omega)
    omega
theorem r6 {t b p q:Int} (hb:b ≠ 0) (hq : 0<q) (hg:Int.gcd p q=1) (h:p*b=t*q):p=lT t b/\q=lB t b:=by
  have c:=xf (t:=t) hb
  have g:=Ds (t:=t) hb
  have k:=tI (t:=t) hb
  have e:p*lB t b=lT t b*q:=by
    apply Int.eq_of_mul_eq_mul_right (a:=b) hb
    grind
  have d1:q ∣ lB t b:=by
    have z:q ∣ p*lB t b:=by rw [e];exact Int.dvd_mul_left _ _
    have z':q.natAbs ∣ p.natAbs*(lB t b).natAbs:=by rw [<- Int.natAbs_mul];exact Int.natAbs_dvd_natAbs.mpr z
    have cp:Nat.Coprime q.natAbs p.natAbs:=by
      have:Int.gcd q p=1:=by rw [Int.gcd_comm];exact hg
      exact this
    exact Int.natAbs_dvd_natAbs.mp (cp.dvd_of_dvd_mul_left z')
  have d2:lB t b ∣ q:=by
    have z:lB t b ∣ lT t b*q:=by rw [<- e];exact Int.dvd_mul_left _ _
    have z':(lB t b).natAbs ∣ (lT t b).natAbs*q.natAbs:=by rw [<- Int.natAbs_mul];exact Int.natAbs_dvd_natAbs.mpr z
    have cp:Nat.Coprime (lB t b).natAbs (lT t b).natAbs:=by
      have:Int.gcd (lB t b) (lT t b)=1:=by rw [Int.gcd_comm];exact g
      exact this
    exact Int.natAbs_dvd_natAbs.mp (cp.dvd_of_dvd_mul_left z')
  have eq:q=lB t b:=Int.dvd_antisymm (by omega) (by omega) d1 d2
  refine ⟨?_,eq⟩
  rw [<- eq] at e
  exact Int.eq_of_mul_eq_mul_right (a:=q) (by omega) e
theorem Uv {t b t' b':Int} (hb:b ≠ 0) (oK:b' ≠ 0) (h:t*b'=t'*b):lT t b=lT t' b'/\lB t b=lB t' b':=by
  refine r6 oK (by have:=tI (t:=t) hb;omega) (Ds hb) ?_
  have c:=xf (t:=t) hb
  apply Int.eq_of_mul_eq_mul_right (a:=b) hb
  grind
end ft
namespace L2
open PySem PySem.Spec PyProof.Rows
theorem pN {lo:Int} {n j:Nat} {d:Dv} (h:(gJ lo n)[j]?=some d):j<n/\d=di (lo+(j:Int)):=by
  rw [List.getElem?_map] at h
  rcases Nat.lt_or_ge j n with hj | hj
  · rw [List.getElem?_range hj] at h;cases h;exact ⟨hj,rfl⟩
  · rw [List.getElem?_eq_none (by simpa using hj)] at h;cases h
theorem ef {α β:Type} {f : α -> β} {l:List α} {j:Nat} {d : β} (h:(l.map f)[j]?=some d):∃ x,l[j]?=some x/\d=f x:=by
  rw [List.getElem?_map] at h
  cases q:l[j]? with
  | none=>rw [q] at h;cases h
  | some x=>rw [q] at h;cases h;exact ⟨x,rfl,rfl⟩
theorem i9 {α:Type} {l:List α} {i:Nat} {x : α} (h:l[i]?=some x):l.take (i+1)=l.take i++[x]:=by rw [List.take_succ,h];rfl
theorem bb.fg {ι:Type} {F:aY ι} {cC:List Stmt} {ρ ρ1 ρ2:En} (h:bb F cC ρ (.nx ρ1)) (f:Fg ρ1 ρ2):bb F cC ρ (.nx ρ2):=by
  obtain ⟨τ,x,y⟩:=h
  exact ⟨τ,x,fun D σ G0 H0 G H r k=>y D σ G0 H0 G H r fun aG G' H' r'=>k aG G' H' (f.rs r')⟩
theorem vE {ι:Type} {F:aY ι} {cC:List Stmt} {ρ:En} {o:Out} {t:Tr} {d:Dv} (j:Nat) (hj : ρ[j]?=some (some t)) (e:er t=d) (h:bb F cC (ρ.set j (some (.fz d))) o):bb F cC ρ o:=NX j hj (e ▸ h)
theorem rK {ι:Type} {F:aY ι} {cC body:List Stmt} {ρ:En} {o:Out} {c:Expr} {pos:Pos} {α:Type} (S : α->En) (Pp : α->Prop) (p : α->Bool) (μ : α->Nat) (a0 : α) (e:S a0 = ρ) (h0:Pp a0) (hc:∀ a,Pp a->cX F c (S a) (p a)) (hb:∀ a,Pp a->p a=true->∃ a',Pp a' /\ μ a' < μ a/\bb F body (S a) (.nx (S a')))
    (fin:∀ a,Pp a->p a=false->bb F cC (S a) o) (hx:∀ i,(F.cx i).xe=cu:=by intro _;rfl):bb F (.While c body [] pos::cC) ρ o:=by
  subst e
  obtain ⟨a',h1,h2,h3⟩:=Nn S Pp p μ hc hb a0 h0 hx
  exact az h3 (fin a' h1 h2)
def eV (ns:List Int) (k:Int):Int:=ns.getD k.toNat 0
theorem cell_in {ns:List Int} {k:Int} (h0 : 0<=k) (h:k<ns.length):aU (ns.map di) k=some (di (eV ns k)):=by
  obtain ⟨j,rfl⟩:∃ j:Nat,k=(j:Int):=⟨k.toNat,by omega⟩
  have hj:j<ns.length:=by omega
  refine e7 ?_
  unfold eV
  rw [List.getElem?_map,List.getElem?_eq_getElem hj,List.getD_eq_getElem?_getD,show (j:Int).toNat=j by omega,List.getElem?_eq_getElem hj]
  rfl
theorem cell_out {ns:List Int} {k:Int} (h0 : 0<=k) (h:ns.length<=k):eV ns k=0:=by
  unfold eV
  rw [List.getD_eq_getElem?_getD,List.getElem?_eq_none (by omega)]
  rfl
theorem sd {α β:Type} (f : α -> β) (l:List α) (a b:Option Int):cutD (l.map f) a b=(cutD l a b).map f:=by
  unfold cutD
  rw [List.length_map,List.map_take,List.map_drop]
mutual
def gP:Dv->Bool
  | .fl v=>eE v
  | .lst ds=>kZ ds
  | .tup ds=>kZ ds
def kZ:List Dv->Bool
  | [] => true
  | d::ds=>gP d&&kZ ds
end
mutual
theorem wA:∀ {d:Dv},gP d=true->bV d d=true
  | .fl v,h=>DJ h
  | .lst ds,h=>vW h
  | .tup ds,h=>vW h
theorem vW:∀ {ds:List Dv},kZ ds=true->eW ds ds=true
  | [],_=>rfl
  | d::ds,h=>by
    have h':(gP d&&kZ ds)=true:=h
    rw [Bool.and_eq_true] at h'
    show (bV d d&&eW ds ds)=true
    rw [wA h'.1,vW h'.2]
    rfl
end
theorem wB {α:Type} {f : α->Dv} (h:∀ a,gP (f a)=true):∀ l:List α,kZ (l.map f)=true
  | [] => rfl
  | a::l=>by
    show (gP (f a)&&kZ (l.map f))=true
    rw [h a,wB h l]
    rfl
theorem pO {n:Nat}:∀ {ds:List Dv},(∀ d ∈ ds,cW d<=n)->cR ds<=n
  | [],_=>Nat.zero_le _
  | d::ds,h=>by
    show max (cW d) (cR ds)<=n
    exact Nat.max_le.mpr ⟨h d (.head _),pO fun x hx=>h x (.tail _ hx)⟩
theorem xg (l:List Int):gP (dis l)=true:=wB (fun _=>rfl) l
theorem kI (l:List Int):cW (dis l)<=1:=by
  show cR _+1<=1
  have:cR (l.map di)<=0:=pO fun d hd=>by
    obtain ⟨_,_,rfl⟩:=List.mem_map.mp hd
    exact Nat.le_refl _
  omega
theorem EJ {n:Nat} {ds:List Dv} (h:∀ d ∈ ds,cW d<=n):cW (.lst ds)<=n+1:=Nat.succ_le_succ (pO h)
theorem QG {n:Nat} {ds:List Dv} (h:∀ d ∈ ds,cW d<=n):cW (.tup ds)<=n+1:=Nat.succ_le_succ (pO h)
theorem QH {α:Type} {f : α->Dv} (h:∀ a,gP (f a)=true) (l:List α):gP (.lst (l.map f))=true:=wB h l
end L2
namespace L2
open PySem PySem.Spec PyProof.Rows
theorem aS.setAt {K:PySem.W.Frag} {G H:Hp}:∀ {us:List Tr} {vs:List V} {fq:List Addr} {m:Nat} {t:Tr} {v:V} {f:List Addr},aS K G H us vs fq->m<us.length->Ow K G H t v f->fq.Nodup->f.Nodup->(∀ a ∈ f,a ∉ fq) ->
    ∃ fw,aS K G H (us.set m t) (vs.set m v) fw/\fw.Nodup/\∀ a ∈ fw,a ∈ fq\/a ∈ f
  | u::us,_,_,0,t,v,f,⟨w,r,f1,f2,h1,h2,h3,h4⟩,_,o,nd,nf,dj=>by
    subst h1 h2
    have dQ:=List.nodup_append.mp nd
    refine ⟨f++f2,⟨v,r,f,f2,rfl,rfl,o,h4⟩,List.nodup_append.mpr ⟨nf,dQ.2.1,fun a ha b hb e=>dj a ha (e ▸ List.mem_append_right _ hb)⟩,fun a ha=>?_⟩
    rcases List.mem_append.mp ha with z | z
    · exact .inr z
    · exact .inl (List.mem_append_right _ z)
  | u::us,_,_,m+1,t,v,f,⟨w,r,f1,f2,h1,h2,h3,h4⟩,hm,o,nd,nf,dj=>by
    subst h1 h2
    have dQ:=List.nodup_append.mp nd
    obtain ⟨fw,q1,q2,q3⟩:=aS.setAt (m:=m) h4 (Nat.lt_of_succ_lt_succ hm) o dQ.2.1 nf fun a ha z=>dj a ha (List.mem_append_right _ z)
    refine ⟨f1++fw,⟨w,_,f1,fw,rfl,rfl,h3,q1⟩,List.nodup_append.mpr ⟨dQ.1,q2,fun a ha b hb e=>?_⟩,fun a ha=>?_⟩
    · subst e
      rcases q3 a hb with z | z
      · exact dQ.2.2 a ha a z rfl
      · exact dj a z (List.mem_append_left _ ha)
    · rcases List.mem_append.mp ha with z | z
      · exact .inl (List.mem_append_left _ z)
      · exact (q3 a z).imp (List.mem_append_right _) id
theorem PB {ι:Type} {F:aY ι} {e:Expr} {ρ:En} {t:Tr} {pos:Pos} (j:Nat) {x:Str} {us:List Tr} {n:Int} {m:Nat} {nE:Expr} {p1 p2:Pos} (h : ρ[j]?=some (some (.ow us))) (hn:bH F nE ρ (ti n)) (hm:fI us.length n=some m) (he:bH F e ρ t) (hN:∀ i,(F.cx i).N[j]?=some x:=by intro _;rfl)
    (hv:∀ i,ig (F.cx i).env.scope x:=by intro _;first | exact Or.inl rfl | exact Or.inr (Or.inl rfl) | exact Or.inr (Or.inr rfl)) (hd:(x==("__debug__" : Str))=false:=by decide) (hc:(x==("__classdict__" : Str))=false:=by decide)
    (hs:∀ i,swapsWithSole [.Subscript (.Name x p1) nE p2] e pos.line (F.cx i).env=pure false:=by intro _;rfl) (hw:∀ i,swappedStores [.Subscript (.Name x p1) nE p2] e (F.cx i).env=pure none:=by intro _;rfl)
    (h1:∀ i,(assignEach [.Subscript (.Name x p1) nE p2] (F.cx i).env).map (·.2)=[assign (.Subscript (.Name x p1) nE p2) (F.cx i).env]:=by intro _;rfl)
    (hps:∀ i,PG (F.cx i) (.Subscript (.Name x p1) nE p2) (yC (fR j) (uE F nE) x3)) :
    Rn F (.Assign [.Subscript (.Name x p1) nE p2] e pos) ρ (.nx (ρ.set j (some (.ow (us.set m t))))):=by
  obtain ⟨τ,y,z⟩:=he
  obtain ⟨zJ,yn,zn⟩:=hn
  refine ⟨qv τ (yC (fR j) (uE F nE) x3),fun i=>R7 (y i) (hps i) (hs i) (hw i) (h1 i),fun D σ G0 H0 G H r k=>?_⟩
  obtain ⟨fp,r⟩:=r
  refine z σ G H fp _ r.st.s r.own r.g fun v1 G1 H1 f1 s1 o1 w1=>?_
  have r1:dP F.K G0 H0 G1 H1 ρ σ fp:=⟨r.st.trans s1,r.own.mono s1.g s1.h,r.own.off s1 r.g,r.n,r.d⟩
  obtain ⟨l0,uq,ur,c1,c2,_⟩:=r1.mut h (.refl r1.st.s)
  refine ⟨_,c1,zJ,yn,zn σ G1 H1 fp _ r1.st.s r1.own r1.g fun vn G2 H2 f2 s2 o2 w2=>?_⟩
  obtain ⟨l,vs,fq,d1,d2,d3,d4,d5,d6,d7⟩:=r.mut h (s1.trans s2)
  rw [c1] at d1
  cases d1
  have hm':m<us.length:=(sC hm).2.1
  have nf:∀ a ∈ f1,a ∉ fq:=fun a ha hb=>by
    obtain ⟨u,hu⟩:=r.own.there a (d6 a hb)
    rw [w1.n a ha] at hu;cases hu
  obtain ⟨fw,q1,q2,q3⟩:=d4.setAt hm' (o1.mono s2.g s2.h) d5 w1.d nf
  refine ⟨l0,vs,n,m,rfl,aL o2.2,d3,by rw [<- d4.length];exact hm,k σ G2 _ (d7 (us.set m t) (vs.set m v1) fw q1 q2 fun a ha=>(q3 a ha).imp id fun z=>⟨w1.n a z,?_⟩)⟩
  cases q:G2 a with
  | none=>rfl
  | some u =>
    obtain ⟨u',aQ⟩:=o1.there a z
    have:=s2.n a (w1.g a z) (by rw [q];exact fun z=>nomatch z)
    rw [aQ] at this;cases this
end L2
namespace L2
open PySem PySem.Spec PyProof.Rows
def SJ (ta:TA):TE:=fun σ H Q=>ta σ H fun vs H1=>∃ j:Int,vs=[.int j]/\∀ p,H1 p=none->Q (.ref p) (upd H1 p (.bR 0 j))
section
variable {X:Cx}
theorem OM {a:Expr} {ta:TA} {p pos:Pos} (hg:Gl X "range") (hm:X.mg "range" = none) (ha:PA X [a] ta) (hs:starEach [a] X.env=[(false,eval a X.env)]:=by rfl):PE X (.Call (.Name "range" p) [a] [] pos) (SJ ta):=by
  intro pins s σ H Q I h
  refine Call_ (nP I hg hm boot_range (PyProof.Rows.callWith_type1 (aD (ha pos pins s σ H _ I h) fun us s1 ⟨vs,H1,I1,r1,q1⟩=>?_) hs rfl))
  obtain ⟨j,e,q⟩:=q1
  subst e
  cases r1 with
  | cons r rr =>
    cases rr
    obtain ⟨t,rfl⟩:=r
    refine call_range_1 ⟨.ref _,_,I1.laid (t':=s1.toks+1+1) (o:=.bR 0 j) (fun b ob q=>Heap.get?_push_of_some _ q) (Nat.le_refl _) ?_,rfl,q _ (I1.aF.fresh (Nat.le_refl _))⟩
    exact ⟨_,_,_,Heap.get?_push_size _ rfl⟩
theorem Mt (hc:X.calm=true):eD X (.type "list") (fun xs H Q=>∃ p n,xs=[.ref p]/\H p=some (.bR 0 n)/\0<=n/\n<2 ^ 20/\∀ l,H l=none->Q (.ref l) (upd H l (.lst ((List.range n.toNat).map fun i=>.int (0+((i:Nat):Int)))))):=by
  intro pins s σ H xs us Q I r h
  obtain ⟨p,n,rfl,hH,h0,h1,q⟩:=h
  obtain ⟨u,rfl,rx⟩:=vals1 r
  cases rx
  obtain ⟨t,u,v,e⟩:=(show cP X.prog X.w H s.heap p (.bR 0 n) from I.aF p _ hH)
  have TK:Builtin.Range.rangeSize 0 n 1=(n.toNat:Nat):=by rw [rangeSize_pos (by decide) h0];omega
  refine call_list_range (n:=n.toNat) (I.ok.hd hc) e (NW h0 (by omega) (by decide) (by decide)) TK (by omega) fun h' tk Io c' kp e' it=>?_
  refine ⟨.ref s.heap.objs.size,_,I.laid (t':=tk) (o:=.lst ((List.range n.toNat).map fun i=>.int (0+((i:Nat):Int)))) kp (Nat.le_refl _) ?_,rfl,q _ (I.aF.fresh (Nat.le_refl _))⟩
  have hs:sizeLine=16777216:=sizeLine_eq
  refine ⟨by rw [List.length_map,List.length_range];omega,Io.toList,c',?_,by rw [Array.toArray_toList];exact e'⟩
  obtain ⟨i1,i2⟩:=it
  have gen:∀ (l:List Value) (k:Nat),(∀ j v,l[j]?=some v->∃ t,v=Value.int (0+((k+j:Nat):Int)) t)->Vals ((List.range l.length).map fun i=>V.int (0+((k+i:Nat):Int))) l:=by
    intro l
    induction l with
    | nil=>intro k _;exact .nil
    | cons a l ih =>
      intro k hk
      rw [List.length_cons,List.range_succ_eq_map,List.map_cons,List.map_map]
      obtain ⟨t,ht⟩:=hk 0 a rfl
      refine .cons ⟨t,by rw [ht]⟩ ?_
      have:=ih (k+1) (fun j v hj=>by
        obtain ⟨t,ht⟩:=hk (j+1) v hj
        exact ⟨t,by rw [ht,show k+(j+1)=k+1+j by omega]⟩)
      refine (List.map_congr_left fun i _=>?_) ▸ this
      show V.int (0+((k+1+i:Nat):Int))=V.int (0+((k+(i+1):Nat):Int))
      rw [show k+1+i=k+(i+1) by omega]
  have g0:=gen Io.toList 0 fun j v hj=>by
    obtain ⟨t,ht⟩:=i2 j v (by rw [<- Array.getElem?_toList];exact hj)
    refine ⟨t,?_⟩
    rw [ht,Int.mul_one,Nat.zero_add]
  rw [Array.length_toList,i1] at g0
  have e0:((List.range n.toNat).map fun i=>V.int (0+((0+i:Nat):Int)))=(List.range n.toNat).map fun i=>V.int (0+((i:Nat):Int)):=List.map_congr_left fun i _=>by rw [Nat.zero_add]
  rw [e0] at g0
  exact g0
def Ip (K:PySem.W.Frag):List V->Hp->VK->Prop:=fun xs H Q=>∃ (p:Addr) (bs:List Bool),xs=[.ref p]/\bj K H p (bs.map V.bl)/\Q (.bl (bs.any id)) H
theorem range_any (bs:List Bool):((List.range bs.length).any fun i=>(bs[i]?).getD false)=bs.any id:=by
  have:=congrArg (fun l:List Bool=>l.any id) (rJ bs false id)
  simp only [List.any_map,List.map_id] at this
  exact this
theorem PC (hc:X.calm=true):eD X (.builtin "any") (Ip X.K):=by
  intro pins s σ H xs us Q I r h
  obtain ⟨p,bs,rfl,hq,q⟩:=h
  cases r with
  | cons r1 rr =>
    cases rr
    cases r1
    obtain ⟨af,rv,pl,hz⟩:=I.list hq
    have hb:=Pr rv
    have hl:s.heap.IsList p af.toArray:=pl.isList
    have bx:p<s.heap.objs.size:=by obtain ⟨_,e,_⟩:=hl;exact Heap.lt_size e
    refine call_any_walk (wpAny_pyIter_list hl ?_)
    refine ⟨s.heap.objs.size,[s.heap.objs.size,p],[s.heap.objs.size],af.toArray.size,_,_,fun i=>(bs[i]?).getD false,rfl,Walks.list (A:=X.A.in1) (I.ok.hd hc) _ p (Nat.ne_of_lt bx) af.toArray,
      ⟨⟨_,Heap.get?_push_size _ rfl,rfl,rfl⟩,hl.push _⟩,fun i v s' Q' E' hP hQ=>?_,fun h' tk hk=>?_⟩
    · obtain ⟨b,e,rfl⟩:=hb.get i v (by simpa using hP)
      simp only [e,Option.getD_some] at hQ
      exact wpAny_truthy_bool hQ
    · have e:((List.range af.toArray.size).any fun i=>(bs[i]?).getD false)=bs.any id:=by
        rw [List.size_toArray,hb.length];exact range_any bs
      rw [e]
      exact ⟨.bl _,H,I.kept (t':=tk) (LSm.kept_iter hk),rfl,q⟩
def unlike (ns:List Int):Nat:=(firstMet (fun i=>ns.getD i 0) ns.length).length
theorem Mu (hc:X.calm=true):eD X (.type "set") (fun xs H Q=>∃ (p:Addr) (ns:List Int),xs=[.ref p]/\bj X.K H p (ns.map V.int)/\ns.length<1000/\∀ l S,H l=none->Q (.ref l) (upd H l (.set S (unlike ns)))):=by
  intro pins s σ H xs us Q I r h
  obtain ⟨p,ns,rfl,hq,hz,q⟩:=h
  obtain ⟨u,rfl,rx⟩:=vals1 r
  cases rx
  obtain ⟨af,rv,pl,_⟩:=I.list hq
  have hi:=intsAre_of rv
  have hl:=rv.length
  rw [List.length_map] at hl
  refine call_set_list (ns:=ns) (I.ok.hd hc) pl.isList (by simpa using hi) (by rw [List.size_toArray,<- hl];exact Nat.lt_of_lt_of_le (Nat.succ_lt_succ hz) (by decide)) fun h' tk hs kp=>?_
  have bS:af.toArray.size=ns.length:=by rw [List.size_toArray,<- hl]
  rw [bS] at hs
  exact ⟨.ref s.heap.objs.size,_,I.laid (t':=tk) (o:=.set _ (unlike ns)) (fun b o e=>kp b o (Heap.lt_size e) e) (Nat.le_refl _) hs,rfl,q _ _ (I.aF.fresh (Nat.le_refl _))⟩
theorem Mv:eD X (.builtin "len") (fun xs H Q=>∃ p S n,xs=[.ref p]/\H p=some (.set S n)/\Q (.int n) H):=by
  intro pins s σ H xs us Q I r h
  obtain ⟨p,S,n,rfl,hH,q⟩:=h
  obtain ⟨u,rfl,rx⟩:=vals1 r
  cases rx
  obtain ⟨o,es,ep,t,h1,h2,h3,_,_,h4,h5,h6⟩:=(show cP X.prog X.w H s.heap p (.set S n) from I.aF p _ hH)
  subst h6
  refine call_len_set h1 h2 h3 h5 (by have:es.size<4096:=h4;omega) ⟨.int _,H,I.tok _,⟨_,rfl⟩,q⟩
theorem M1 {ns:List Int} (h:ns.Nodup):unlike ns=ns.length:=by
  have gen:∀ i,i<=ns.length->firstMet (fun i=>ns.getD i 0) i=ns.take i:=by
    intro i
    induction i with
    | zero=>intro _;rw [firstMet_zero];simp
    | succ i ih =>
      intro hi
      rw [firstMet_succ,ih (by omega)]
      have hx:ns[i]?=some (ns[i]'(by omega)):=List.getElem?_eq_getElem _
      rw [i9 hx]
      have e:ns.getD i 0=ns[i]'(by omega):=by rw [List.getD_eq_getElem?_getD,hx];rfl
      show step_dedup (ns.take i) (ns.getD i 0)=_
      rw [e]
      unfold step_dedup
      have:((ns.take i).any (·==ns[i]'(by omega)))=false:=by
        rw [Bool.eq_false_iff]
        intro z
        obtain ⟨y,hy,hyy⟩:=List.any_eq_true.mp z
        have cf:y=ns[i]'(by omega):=by simpa using hyy
        subst cf
        obtain ⟨j,hj,J6⟩:=List.mem_iff_getElem.mp hy
        rw [List.getElem_take] at J6
        rw [List.length_take] at hj
        have:=(List.getElem_inj (xs:=ns) h).mp J6
        omega
      rw [this]
      rfl
  unfold unlike
  rw [gen ns.length (Nat.le_refl _),List.take_length]
theorem M3:eD X (.builtin "sorted") (fun xs H Q=>∃ (p:Addr) (ns:List Int),xs=[.ref p]/\bj X.K H p (ns.map V.int)/\ns.length<64/\∀ (l:Addr) (ms:List Int),H l=none->ms.Perm ns->ms.Pairwise (· <= ·)->Q (.ref l) (upd H l (.lst (ms.map V.int)))):=by
  intro pins s σ H xs us Q I r h
  obtain ⟨p,ns,rfl,hq,hz,q⟩:=h
  obtain ⟨u,rfl,rx⟩:=vals1 r
  cases rx
  obtain ⟨af,rv,pl,dU⟩:=I.list hq
  have hl:=rv.length
  rw [List.length_map] at hl
  refine sorted_ints pl.isList (intsAre_of rv) (by omega) fun out ms io pm pw=>?_
  obtain ⟨e,he⟩:=sortedAll_at s.heap af out
  refine ⟨.ref (s.heap.objs.size+1),_,I.laid (t':=s.toks) (o:=.lst (ms.map V.int)) (fun b o e=>sortedAll_old e) (Nat.le_succ _) ?_,rfl,q _ ms (I.aF.fresh (Nat.le_succ _)) pm pw⟩
  refine ⟨by rw [List.length_map,pm.length_eq];rw [List.length_map] at dU;exact dU,out.toList,e,vT io,by rw [Array.toArray_toList];exact he⟩
def FN (K:PySem.W.Frag):V->List V->Hp->VK->Prop:=fun x vs H Q=>∃ (l:Addr) (ns:List Int) (n:Int),x=.ref l/\vs=[.int n]/\bj K H l (ns.map V.int)/\n ∈ ns/\Q (.int (ns.idxOf n:Nat)) H
theorem PD:qM X "list.index" (FN X.K):=by
  intro pins s σ H x vs v us Q I rx rv h
  obtain ⟨l,ns,n,rfl,rfl,hq,hn,q⟩:=h
  cases rx
  obtain ⟨u,rfl,ru⟩:=rv.one
  obtain ⟨t,rfl⟩:=ru
  obtain ⟨af,r,pl,hz⟩:=I.list hq
  have hi:=intsAre_of r
  have hlen:=hi.length
  have hs:sizeLine=16777216:=sizeLine_eq
  rw [List.length_map] at hz
  obtain ⟨⟨cls,dd,data,sl⟩,ho,hc,m,hd⟩:=id pl.isList
  simp only at hc hd
  subst hc hd
  have hj:ns.idxOf n<ns.length:=List.idxOf_lt_length_iff.mpr hn
  refine call_meets PySem.F.slot_list_index ⟨_,ho,rfl⟩ PySem.F.entry_list_index (PySem.F.args_list_index_2 _ _)
    (SeqAt.list_indexAt l af.toArray m dd sl (.int n t) (isInt n) (ns.idxOf n) (by simpa [hlen] using hj) (by omega) ?_ ?_) ⟨ho,fun y hy=>(eq_isInt n t hi y (by simpa using hy)).at _ _,⟨.int _,H,I.tok _,⟨_,rfl⟩,q⟩⟩
  · show isInt n af[ns.idxOf n]=true
    rw [isInt_at n hi _ (by omega) hj]
    simpa using List.getElem_idxOf hj
  · intro j gi bx
    show isInt n af[j]=false
    rw [isInt_at n hi j (by simpa using gi) (by omega)]
    exact ne_of_lt_idxOf bx _
end
section
variable {ι:Type} {F:aY ι} {e a b c:Expr} {es:List Expr} {ρ:En} {t ta tb':Tr} {ts:List Tr} {pos:Pos}
theorem iI (l:List Int):(l.map di).map Tr.fz=l.map fun n=>Tr.fz (di n):=by rw [List.map_map];rfl
theorem vF {n:Int} (hm:F.mg "list" = none) (lQ:F.mg "range" = none) (ha:Ev F a ρ (ti n)) (h0 : 0<=n) (h1:n<2 ^ 20) {p1 p2 hU:Pos} (hg:∀ i,Gl (F.cx i) "list" := by intro _;rfl) (iT:∀ i,Gl (F.cx i) "range" := by intro _;rfl)
    (hs:∀ i,starEach [a] (F.cx i).env=[(false,eval a (F.cx i).env)]:=by intro _;rfl) (gj:∀ i,starEach [.Call (.Name "range" p2) [a] [] hU] (F.cx i).env=[(false,eval (.Call (.Name "range" p2) [a] [] hU) (F.cx i).env)]:=by intro _;rfl) :
    Ev F (.Call (.Name "list" p1) [.Call (.Name "range" p2) [a] [] hU] [] pos) ρ (.ow (((List.range n.toNat).map fun i=>(0+((i:Nat):Int))).map fun n=>.fz (di n))):=by
  obtain ⟨τ,p,q⟩:=ha.use
  refine ⟨_,fun i=>rQ (Mt (F.calm i)) (hg i) ((F.hm i).symm ▸ hm) w4 (dw (OM (iT i) ((F.hm i).symm ▸ lQ) (dw (p i) eT (hs i)) (hs i)) eT (gj i)) (by decide) (by decide) (gj i) rfl,fun σ G H Q s rr k=>q σ G H _ s rr fun x G1 H1 s1 hx=>?_⟩
  refine ⟨n,by rw [aL hx],fun p0 J7=>⟨p0,n,rfl,fA,h0,h1,fun l hl=>?_⟩⟩
  have k2:=k.step (s1.trans (Step.j6 (o:=.bR 0 n) s1.s J7))
  have e:((List.range n.toNat).map fun i=>V.int (0+((i:Nat):Int)))=((List.range n.toNat).map fun i=>(0+((i:Nat):Int))).map V.int:=by rw [List.map_map];rfl
  rw [e]
  refine k2.lst (s1.s.trans (av.new J7)) ?_ hl
  rw [<- iI]
  exact nj.iz
theorem FO {bs:List Bool} (hm:F.mg "any" = none) (ha:Ev F e ρ ta) (ea:er ta=.lst (bs.map db)) {p':Pos} (hg:∀ i,Gl (F.cx i) "any" := by intro _;rfl)
    (hs:∀ i,starEach [e] (F.cx i).env=[(false,eval e (F.cx i).env)]:=by intro _;rfl):Ev F (.Call (.Name "any" p') [e] [] pos) ρ (tb (bs.any id)) :=
  pE (r:=Ip F.K) (fun i=>F.hK i ▸ PC (F.calm i)) hm Sv (ah ha ao hs) (fun G H vs Q s hx k=>by
    obtain ⟨x,rfl,fJ⟩:=jt hx
    rw [ea] at fJ
    obtain ⟨l,ys,rfl,h1,h2⟩:=fJ
    have:=Dr h2
    subst this
    exact ⟨l,bs,rfl,s.seq h1,k.sc s rfl⟩) hg (by decide) (by decide) hs (fun _=>rfl)
theorem FP:bootBuiltins "set" = some (.type "set"):=by decide +kernel
theorem OO {ns:List Int} (hm:F.mg "len" = none) (lQ:F.mg "set" = none) (ha:Ev F a ρ ta) (ea:er ta=dis ns) (hz:ns.length<1000) {p1 p2 hU:Pos} (hg:∀ i,Gl (F.cx i) "len" := by intro _;rfl) (iT:∀ i,Gl (F.cx i) "set" := by intro _;rfl)
    (hs:∀ i,starEach [a] (F.cx i).env=[(false,eval a (F.cx i).env)]:=by intro _;rfl) (gj:∀ i,starEach [.Call (.Name "set" p2) [a] [] hU] (F.cx i).env=[(false,eval (.Call (.Name "set" p2) [a] [] hU) (F.cx i).env)]:=by intro _;rfl) :
    Ev F (.Call (.Name "len" p1) [.Call (.Name "set" p2) [a] [] hU] [] pos) ρ (ti (unlike ns:Nat)):=by
  obtain ⟨τ,p,q⟩:=ha.use
  refine ⟨jA _ (dZ (jA (fun xs H Q=>∃ (p:Addr) (ns:List Int),xs=[.ref p]/\bj F.K H p (ns.map V.int)/\ns.length<1000/\∀ l S,H l=none->Q (.ref l) (upd H l (.set S (unlike ns)))) (dZ τ fc)) fc),fun i=>rX Mv (hg i) ((F.hm i).symm ▸ hm) Fx (dw (rQ (F.hK i ▸ Mu (F.calm i)) (iT i) ((F.hm i).symm ▸ lQ) FP (dw (p i) eT (hs i)) (by decide) (by decide) (hs i) rfl) eT (gj i)) (by decide) (by decide) (gj i) rfl,fun σ G H Q s rr k=>q σ G H _ s rr fun x G1 H1 s1 hx=>?_⟩
  rw [ea] at hx
  obtain ⟨l,ys,rfl,h1,h2⟩:=hx
  have:=kz h2
  subst this
  refine ⟨l,ns,rfl,s1.s.seq h1,hz,fun l0 S kl=>⟨l0,S,_,rfl,fA,?_⟩⟩
  exact (k.step (s1.trans (Step.j6 (o:=.set S (unlike ns)) s1.s kl))).sc (s1.s.trans (av.new kl)) rfl
def sortI (ns:List Int):List Int:=ns.mergeSort (fun a b=>decide (a<=b))
theorem sortI_perm (ns:List Int):(sortI ns).Perm ns:=List.mergeSort_perm ..
theorem DV (ns:List Int):(sortI ns).Pairwise (· <= ·):=by
  have:=List.pairwise_mergeSort (le:=fun a b:Int=>decide (a<=b)) (fun a b c h1 h2=>by simp only [decide_eq_true_eq] at *;omega) (fun a b=>by simp only [Bool.or_eq_true,decide_eq_true_eq];omega) ns
  exact this.imp fun h=>by simpa using h
theorem C3 {a b:List Int} (p:a.Perm b) (ha:a.Pairwise (· <= ·)) (hb:b.Pairwise (· <= ·)):a=b:=List.Perm.eq_of_pairwise (fun x y _ _ h1 h2=>Int.le_antisymm h1 h2) ha hb p
theorem OQ {ns:List Int} (hm:F.mg "sorted" = none) (ha:Ev F e ρ ta) (ea:er ta=dis ns) (hz:ns.length<64) {p':Pos} (hg:∀ i,Gl (F.cx i) "sorted" := by intro _;rfl)
    (hs:∀ i,starEach [e] (F.cx i).env=[(false,eval e (F.cx i).env)]:=by intro _;rfl):Ev F (.Call (.Name "sorted" p') [e] [] pos) ρ (.ow ((sortI ns).map fun n=>.fz (di n))) :=
  pE (r:=fun xs H Q=>∃ (p:Addr) (ns:List Int),xs=[.ref p]/\bj F.K H p (ns.map V.int)/\ns.length<64/\∀ (l:Addr) (ms:List Int),H l=none->ms.Perm ns->ms.Pairwise (· <= ·)->Q (.ref l) (upd H l (.lst (ms.map V.int)))) (fun i=>F.hK i ▸ M3) hm vU (ah ha ao hs) (fun G H vs Q s hx k=>by
    obtain ⟨x,rfl,fJ⟩:=jt hx
    rw [ea] at fJ
    obtain ⟨l,ys,rfl,h1,h2⟩:=fJ
    have:=kz h2
    subst this
    refine ⟨l,ns,rfl,s.seq h1,hz,fun l0 ms kl pm pw=>?_⟩
    have em:ms=sortI ns:=C3 (pm.trans (sortI_perm ns).symm) pw (DV ns)
    subst em
    refine k.lst s ?_ kl
    rw [<- iI]
    exact nj.iz) hg (by decide) (by decide) hs (fun _=>rfl)
theorem DW {n:Int} {ns:List Int} {o:Expr} {to:Tr} (ho:Ev F o ρ to) (eo:er to=dis ns) (ha:Ev F e ρ (ti n)) (hn:n ∈ ns) {apos:Pos}
    (fP:∀ i,attributeBase o "index" (F.cx i).env (eval o (F.cx i).env)=eval o (F.cx i).env:=by intro _;rfl)
    (fT:∀ i,((backTo pos (starEach [e] (F.cx i).env)).all (fun x=>!x.1)&&(backToKw pos (keywordEach [] (F.cx i).env)).all (fun x=>x.1.isSome)&&decide (([e]:List Expr).length+([]:List Keyword).length+(if ([]:List Keyword).isEmpty then 0 else 1)<30))=true:=by intro _;rfl)
    (hline:(apos.endLine==pos.line)=true:=by rfl) (hs:∀ i,starEach [e] (F.cx i).env=[(false,eval e (F.cx i).env)]:=by intro _;rfl):Ev F (.Call (.Attribute o "index" apos) [e] [] pos) ρ (ti (ns.idxOf n:Nat)) :=
  Hq (r:=FN F.K) PySem.F.slot_list_index PySem.F.type_list_index (fun i=>F.hK i ▸ PD) ho eo (ah ha ao hs) (fun G H x vs Q s hx hv k=>by
    rw [eo] at hx
    obtain ⟨l,us,rfl,h1,h2⟩:=hx
    have:=kz h2
    subst this
    obtain ⟨y,rfl,hy⟩:=jt hv
    exact ⟨l,ns,n,rfl,by rw [aL hy],s.seq h1,hn,k.sc s rfl⟩) fP fT hline hs (fun _=>rfl)
theorem aS.erase {K:PySem.W.Frag} {G H:Hp}:∀ {us:List Tr} {vs:List V} {fq:List Addr} {m:Nat} {u:Tr},aS K G H us vs fq->us[m]?=some u->fq.Nodup->∃ v f fw,vs[m]?=some v/\Ow K G H u v f/\aS K G H (us.eraseIdx m) (vs.eraseIdx m) fw/\fw.Nodup/\f.Nodup/\(∀ a ∈ fw,a ∈ fq)/\(∀ a ∈ f,a ∈ fq)/\∀ a ∈ f,a ∉ fw
  | t::us,_,_,0,u,⟨v,r,f1,f2,h1,h2,h3,h4⟩,hu,nd=>by
    cases hu
    subst h1 h2
    have dQ:=List.nodup_append.mp nd
    exact ⟨v,f1,f2,rfl,h3,h4,dQ.2.1,dQ.1,fun a ha=>List.mem_append_right _ ha,fun a ha=>List.mem_append_left _ ha,fun a ha hb=>dQ.2.2 a ha a hb rfl⟩
  | t::us,_,_,m+1,u,⟨v,r,f1,f2,h1,h2,h3,h4⟩,hu,nd=>by
    subst h1 h2
    have dQ:=List.nodup_append.mp nd
    obtain ⟨v',f,fw,q1,q2,q3,q4,q5,q6,q7,q8⟩:=aS.erase (m:=m) h4 hu dQ.2.1
    refine ⟨v',f,f1++fw,q1,q2,⟨v,_,f1,fw,rfl,rfl,h3,q3⟩,List.nodup_append.mpr ⟨dQ.1,q4,fun a ha b hb e=>dQ.2.2 a ha b (q6 b hb) e⟩,q5,fun a ha=>?_,fun a ha=>List.mem_append_right _ (q7 a ha),fun a ha hb=>?_⟩
    · rcases List.mem_append.mp ha with z | z
      · exact List.mem_append_left _ z
      · exact List.mem_append_right _ (q6 a z)
    · rcases List.mem_append.mp hb with z | z
      · exact dQ.2.2 a z a (q7 a ha) rfl
      · exact q8 a ha z
theorem Mw (j j2:Nat) {x y:Str} {us ws:List Tr} {d:Dv} {n:Int} {m:Nat} {nE:Expr} {p1 p2 p3 p4 p5 p6:Pos} (J8:j ≠ j2) (h : ρ[j]?=some (some (.ow us))) (h2 : ρ[j2]?=some (some (.ow ws))) (hn:bH F nE ρ (ti n)) (hm:fI ws.length n=some m) (hb : -(2 ^ 62)<=n/\n<2 ^ 62) (hu:ws[m]?=some (.fz d)) (hz:us.length<sizeLine)
    (hN:∀ i,(F.cx i).N[j]?=some x:=by intro _;rfl) (hN2:∀ i,(F.cx i).N[j2]?=some y:=by intro _;rfl)
    (hv:∀ i,ig (F.cx i).env.scope x:=by intro _;first | exact Or.inl rfl | exact Or.inr (Or.inl rfl) | exact Or.inr (Or.inr rfl)) (iW:∀ i,ig (F.cx i).env.scope y:=by intro _;first | exact Or.inl rfl | exact Or.inr (Or.inl rfl) | exact Or.inr (Or.inr rfl))
    (hd:(x==("__debug__" : Str))=false:=by decide) (hc:(x==("__classdict__" : Str))=false:=by decide) (hd2:(y==("__debug__" : Str))=false:=by decide) (hc2:(y==("__classdict__" : Str))=false:=by decide)
    (fP:∀ i,attributeBase (.Name x p1) "append" (F.cx i).env (eval (.Name x p1) (F.cx i).env)=eval (.Name x p1) (F.cx i).env:=by intro _;rfl) (SK:∀ i,attributeBase (.Name y p4) "pop" (F.cx i).env (eval (.Name y p4) (F.cx i).env)=eval (.Name y p4) (F.cx i).env:=by intro _;rfl)
    (fT:∀ i,((backTo p3 (starEach [.Call (.Attribute (.Name y p4) "pop" p5) [nE] [] p6] (F.cx i).env)).all (fun x=>!x.1)&&(backToKw p3 (keywordEach [] (F.cx i).env)).all (fun x=>x.1.isSome)&&decide (([.Call (.Attribute (.Name y p4) "pop" p5) [nE] [] p6]:List Expr).length+([]:List Keyword).length+(if ([]:List Keyword).isEmpty then 0 else 1)<30))=true:=by intro _;rfl)
    (TL:∀ i,((backTo p6 (starEach [nE] (F.cx i).env)).all (fun x=>!x.1)&&(backToKw p6 (keywordEach [] (F.cx i).env)).all (fun x=>x.1.isSome)&&decide (([nE]:List Expr).length+([]:List Keyword).length+(if ([]:List Keyword).isEmpty then 0 else 1)<30))=true:=by intro _;rfl)
    (hline:(p2.endLine==p3.line)=true:=by rfl) (SN:(p5.endLine==p6.line)=true:=by rfl) (hs:∀ i,starEach [.Call (.Attribute (.Name y p4) "pop" p5) [nE] [] p6] (F.cx i).env=[(false,eval (.Call (.Attribute (.Name y p4) "pop" p5) [nE] [] p6) (F.cx i).env)]:=by intro _;rfl) (gj:∀ i,starEach [nE] (F.cx i).env=[(false,eval nE (F.cx i).env)]:=by intro _;rfl)
    (jH:∀ i,swapsWith (.Call (.Attribute (.Name x p1) "append" p2) [.Call (.Attribute (.Name y p4) "pop" p5) [nE] [] p6] [] p3) none pos.line (F.cx i).env=pure false:=by intro _;rfl) :
    Rn F (.Expr (.Call (.Attribute (.Name x p1) "append" p2) [.Call (.Attribute (.Name y p4) "pop" p5) [nE] [] p6] [] p3) pos) ρ (.nx ((ρ.set j2 (some (.ow (ws.eraseIdx m)))).set j (some (.ow (us++[.fz d]))))):=by
  obtain ⟨zJ,yn,zn⟩:=hn
  refine ⟨n5 (lJ F.K "list" wX (fR j) (dZ (lJ F.K "list" Ft (fR j2) (dZ zJ fc)) fc)),fun i=>pI (F.hK i ▸ n8 PySem.F.plainAttrs_list PySem.F.slot_list_append PySem.F.type_list_append rR (kL (hN i) (hv i) hd hc) (dw (n8 PySem.F.plainAttrs_list PySem.F.slot_list_pop PySem.F.type_list_pop Pj (kL (hN2 i) (iW i) hd2 hc2) (dw (yn i) eT (gj i)) (SK i) (TL i) SN (gj i) rfl) eT (hs i)) (fP i) (fT i) hline (hs i) rfl) (jH i),fun D σ G0 H0 G H r k=>?_⟩
  obtain ⟨fp,r⟩:=r
  obtain ⟨l0,uq,ur,c1,c2,_⟩:=r.mut h (.refl r.st.s)
  obtain ⟨l2,vs2,fq2,e1,e2,_⟩:=r.mut h2 (.refl r.st.s)
  refine ⟨_,c1,.inl ⟨rfl,_,bj.of c2⟩,_,e1,.inl ⟨rfl,_,bj.of e2⟩,?_⟩
  refine zn σ G H fp _ r.st.s r.own r.g fun vn G1 H1 f1 s1 o1 w1=>?_
  obtain ⟨l,vs,fq,d1,d2,d3,d4,d5,d6,d7⟩:=r.mut h2 s1
  rw [e1] at d1
  cases d1
  obtain ⟨v,f,fw,g1,g2,g3,g4,g5,g6,g7,g8⟩:=d4.erase hu d5
  obtain ⟨rfl,lV⟩:=g2
  obtain ⟨ix1,ix2,ix3,ix4⟩:=sC hm
  refine ⟨l2,vs,n,m,v,rfl,by rw [aL o1.2],d3,by omega,by omega,by rw [<- d4.length];exact ix1,g1,?_⟩
  have r2:=d7 (ws.eraseIdx m) (vs.eraseIdx m) fw g3 g4 fun a ha=>.inl (g6 a ha)
  obtain ⟨fp2,r2⟩:=r2
  have qX:(ρ.set j2 (some (.ow (ws.eraseIdx m))))[j]?=some (some (.ow us)):=by rw [List.getElem?_set_ne (Ne.symm J8)];exact h
  obtain ⟨l3,J9,fq3,b1,b2,b3,b4,b5,b6,b7⟩:=r2.mut qX (.refl r2.st.s)
  rw [c1] at b1
  cases b1
  refine ⟨l0,J9,v,rfl,rfl,b2,by rw [<- b4.length];exact hz,k σ G1 _ ?_⟩
  exact b7 (us++[.fz d]) (J9++[v]) (fq3++([]++[])) (b4.append (us:=[.fz d]) ⟨v,[],[],[],rfl,rfl,⟨rfl,lV⟩,rfl,rfl⟩) (by simpa using b5) fun a ha=>.inl (by simpa using ha)
end
end L2
namespace L2
open PySem PySem.Spec PyProof.Rows
theorem pP {xs:List Dv} {k:Nat} {d:Dv} (h:(ju xs)[k]?=some d):∃ x,xs[k]?=some x/\d=.tup [di (k:Nat),x]:=by
  unfold ju at h
  rw [List.getElem?_zipWith] at h
  cases hx:xs[k]? with
  | none =>
    rw [hx] at h
    cases q2:(List.range xs.length)[k]? with
    | none=>rw [q2] at h;cases h
    | some z=>rw [q2] at h;cases h
  | some x =>
    have lj:k<xs.length:=(List.getElem?_eq_some_iff.mp hx).1
    rw [hx,List.getElem?_range lj] at h
    cases h
    exact ⟨x,rfl,rfl⟩
theorem sG (xs:List Dv):(ju xs).length=xs.length:=by unfold ju;rw [List.length_zipWith,List.length_range,Nat.min_self]
theorem p7 {α:Type} (l:List α) (f : α->Int):er (.ow (l.map fun k=>Tr.fz (di (f k))))=dis (l.map f):=by
  show Dv.lst _=Dv.lst _
  rw [nB,List.map_map,List.map_map];rfl
abbrev bu (l:List Int):Tr:=.ow (l.map fun n=>.fz (di n))
abbrev jk (L:List (List Int)):Tr:=.ow (L.map bu)
theorem dk (l:List Int):er (bu l)=dis l:=by
  show Dv.lst _=_
  rw [nB,List.map_map];rfl
theorem kC (L:List (List Int)):er (jk L)=.lst (L.map dis):=by
  show Dv.lst _=_
  rw [nB,List.map_map]
  congr 1
  exact List.map_congr_left fun l _=>dk l
theorem PF (L:List (List Int)):gP (.lst (L.map dis))=true:=QH xg L
theorem DX (L:List (List Int)):cW (.lst (L.map dis))<=2:=EJ fun d hd=>by
  obtain ⟨m,_,rfl⟩:=List.mem_map.mp hd
  exact kI m
def cq (c:List Int) (os:List (List Int)):Dv:=.tup [dis c,.lst (os.map dis)]
theorem QI (c:List Int) (os:List (List Int)):gP (cq c os)=true:=by
  show (gP (dis c)&&(gP (.lst (os.map dis))&&true))=true
  rw [xg,PF];rfl
theorem QJ (c:List Int) (os:List (List Int)):cW (cq c os)<=3:=QG fun d hd=>by
  rcases List.mem_cons.mp hd with rfl | hd
  · exact Nat.le_trans (kI c) (by decide)
  · rw [List.mem_singleton.mp hd];exact DX os
def e9 (n:Nat) (o:List Int):List Int:=((List.range n).filter fun k=>!o.contains (0+((k:Nat):Int))).map fun k=>0+((k:Nat):Int)
def aB (n:Nat) (o:List Int):List Int:=o++[(n:Int)]++e9 n o
theorem vX (n:Nat) (o:List Int):(e9 n o).length<=n:=by
  unfold e9
  rw [List.length_map]
  have:=List.length_filter_le (fun k=>!o.contains (0+((k:Nat):Int))) (List.range n)
  rwa [List.length_range] at this
theorem PH {α:Type} {l:List α} {k:Nat} {x : α} (h:l[k]?=some x):aU l ((k:Nat):Int)=some x:=e7 h
structure cM (c:List Int) (os:List (List Int)):Prop where
  c6:c.length<=6
  cnt:∀ x ∈ c,0<=x/\x<=9
  o1 : 1<=os.length
  o6:os.length<=6
  nd:∀ o ∈ os,o.Nodup
  bR:∀ o ∈ os,∀ x ∈ o,0<=x/\x<c.length
theorem vY {n:Nat} {l:List Int} (nd:l.Nodup) (h:∀ x ∈ l,0<=x/\x<n):l.length<=n:=by
  have sub:l ⊆ (List.range n).map fun k=>((k:Nat):Int):=fun x hx=>by
    obtain ⟨h0,h1⟩:=h x hx
    exact List.mem_map.mpr ⟨x.toNat,List.mem_range.mpr (by omega),by omega⟩
  have:=nd.length_le_of_subset sub
  simpa using this
theorem cM.jv {c:List Int} {os:List (List Int)} (h:cM c os) {o:List Int} (ho:o ∈ os):o.length<=6:=Nat.le_trans (vY (h.nd o ho) (h.bR o ho)) h.c6
end L2
namespace L2
open PySem PySem.Spec PyProof.Rows
theorem bA.to {ι:Type} {F:aY ι} {tg iter:Expr} {ρ:En} {a b:List Dv} (h:bA F tg iter ρ a) (e:a=b):bA F tg iter ρ b:=e ▸ h
theorem C9 {α:Type}:∀ {l:List α} {m:Nat} (h:m<l.length),(l[m]::l.eraseIdx m).Perm l
  | x::l,0,_=>.refl _
  | x::l,m+1,h=>by
    have h':m<l.length:=by simpa using h
    show (l[m]::x::l.eraseIdx m).Perm (x::l)
    exact (List.Perm.swap ..).trans ((C9 h').cons x)
theorem Dt {α β:Type} (f : α -> β):∀ (l:List α) (m:Nat),(l.map f).eraseIdx m=(l.eraseIdx m).map f
  | [],_=>rfl
  | _::_,0=>rfl
  | x::l,m+1=>by
    show f x::(l.map f).eraseIdx m=f x::(l.eraseIdx m).map f
    rw [Dt f l m]
end L2
namespace L2
open PySem PySem.Spec PyProof.Rows
theorem EK {ι:Type} {F:aY ι} {a b:Expr} {ρ:En} {pos:Pos} {i j:Int} (ha:Ev F a ρ (ti i)) (hb:Ev F b ρ (ti j)) (hc:tN i j):Ev F (.BinOp a .Mult b pos) ρ (ti (i*j)):=kM (fun _=>Se) ha hb fun G H x y Q s hx hy k=>⟨i,j,aL hx,aL hy,hc,k.sc s rfl⟩
theorem PJ {ι:Type} {F:aY ι} {ρ1 ρ2:En} (f:Fg ρ1 ρ2):bb F [] ρ1 (.nx ρ2):=bb.fg nC f
end L2
namespace L2
open PySem PySem.Spec PyProof.Rows
section
variable {ι:Type} {F:aY ι} {e a b c:Expr} {es:List Expr} {ρ:En} {t ta tb':Tr} {ts:List Tr} {pos:Pos}
theorem PK {α:Type} (l:List α) (a b:Nat):cutD l (some (a:Int)) (some (b:Int))=(l.drop (min a l.length)).take (min b l.length-min a l.length):=by
  unfold cutD
  rw [HT.wV,HT.wV]
theorem wC {α β:Type} (q : α->Bool) (h : α -> β) (d : β):∀ l:List α,((List.range l.length).filter fun k=>((l[k]?).map q).getD false).map (fun k=>((l[k]?).map h).getD d)=(l.filter q).map h
  | [] => rfl
  | a::l=>by
    have ih:=wC q h d l
    rw [List.length_cons,List.range_succ_eq_map,List.filter_cons,List.filter_cons,List.filter_map]
    show List.map _ (if q a=true then _ else _)=_
    cases q a with
    | true =>
      show h a::((_:List Nat).map Nat.succ).map _=h a::_
      rw [List.map_map,<- ih];rfl
    | false =>
      show ((_:List Nat).map Nat.succ).map _=_
      rw [List.map_map];exact ih
variable {js:List Nat} {sp:Dv->Option (List Dv)} {elt tg iter:Expr}
theorem qA {α:Type} (l:List α) (g : α->Dv) (q : α->Bool) (h : α->Tr) {ifs:List Expr} {sc:Scope} {own:List Str} {fr:List Nat} {cl : ι->List (Str×Addr)} (hi:bA F tg iter ρ (l.map g)) (hg:iA (cy F own fr sc cl) tg js sp) (gi:∀ j ∈ js,j<own.length) (hz:l.length<sizeLine)
    (step:∀ a ∈ l,∃ dd,sp (g a)=some dd/\El (cy F own fr sc cl) ifs (bG js (dd.map .fz) (cn own fr ρ)) (q a)/\(q a=true->Ev (cy F own fr sc cl) elt (bG js (dd.map .fz) (cn own fr ρ)) (h a)))
    (gG:∀ dd:List Dv,fL js (bG js (dd.map .fz) (cn own fr ρ))=cn own fr ρ):dR F own fr sc cl elt tg iter ifs ρ (.ow ((l.filter q).map h)):=by
  have:=JW (ifs:=ifs) hi hg gi (fun k=>((l[k]?).map q).getD false) (fun k=>((l[k]?).map h).getD tn) (by rw [List.length_map];exact hz) (fun k d hd=>by
    obtain ⟨a,ha,rfl⟩:=ef hd
    obtain ⟨dd,s1,s2,s3⟩:=step a (List.mem_of_getElem? ha)
    refine ⟨dd,s1,?_,?_⟩
    · show El _ _ _ (((l[k]?).map q).getD false)
      rw [ha];exact s2
    · show ((l[k]?).map q).getD false=true->Ev _ _ _ (((l[k]?).map h).getD tn)
      rw [ha];exact s3) gG
  rw [List.length_map,wC] at this
  exact this
theorem tT {α:Type} (l:List α) (g : α->Dv) (h : α->Tr) {sc:Scope} {own:List Str} {fr:List Nat} {cl : ι->List (Str×Addr)} (hi:bA F tg iter ρ (l.map g)) (hg:iA (cy F own fr sc cl) tg js sp) (gi:∀ j ∈ js,j<own.length) (hz:l.length<sizeLine)
    (step:∀ a ∈ l,∃ dd,sp (g a)=some dd/\Ev (cy F own fr sc cl) elt (bG js (dd.map .fz) (cn own fr ρ)) (h a))
    (gG:∀ dd:List Dv,fL js (bG js (dd.map .fz) (cn own fr ρ))=cn own fr ρ):dR F own fr sc cl elt tg iter [] ρ (.ow (l.map h)):=by
  have:=qA l g (fun _=>true) h hi hg gi hz (fun a ha=>let ⟨dd,s1,s2⟩:=step a ha;⟨dd,s1,FD,fun _=>s2⟩) gG
  rwa [List.filter_eq_self.mpr fun _ _=>rfl] at this
theorem kR {α:Type} (l:List α) (g : α->Dv) (q : α->Bool) (h : α->Tr) {ifs:List Expr} {sc:Scope} {own:List Str} {fr:List Nat} {cl : ι->List (Str×Addr)} (L:∀ i,gU (F.cx i) sc (cl i) fr) (hi:bA F tg iter ρ (l.map g)) (hg:iA (cy F own fr sc cl) tg js sp) (gi:∀ j ∈ js,j<own.length) (hz:l.length<sizeLine)
    (step:∀ a ∈ l,∃ dd,sp (g a)=some dd/\El (cy F own fr sc cl) ifs (bG js (dd.map .fz) (cn own fr ρ)) (q a)/\(q a=true->Ev (cy F own fr sc cl) elt (bG js (dd.map .fz) (cn own fr ρ)) (h a)))
    (gG:∀ dd:List Dv,fL js (bG js (dd.map .fz) (cn own fr ρ))=cn own fr ρ) (hs:∀ i x,foldedSetIterable iter (F.cx i).env x=pure x:=by intro _ _;rfl):Ev F (.ListComp elt [⟨tg,iter,ifs,0⟩] sc pos) ρ (.ow ((l.filter q).map h)):=by
  have:=tG (ifs:=ifs) (pos:=pos) L hi hg gi (fun k=>((l[k]?).map q).getD false) (fun k=>((l[k]?).map h).getD tn) (by rw [List.length_map];exact hz) (fun k d hd=>by
    obtain ⟨a,ha,rfl⟩:=ef hd
    obtain ⟨dd,s1,s2,s3⟩:=step a (List.mem_of_getElem? ha)
    refine ⟨dd,s1,?_,?_⟩
    · show El _ _ _ (((l[k]?).map q).getD false)
      rw [ha];exact s2
    · show ((l[k]?).map q).getD false=true->Ev _ _ _ (((l[k]?).map h).getD tn)
      rw [ha];exact s3) gG hs
  rw [List.length_map,wC] at this
  exact this
theorem gC {α:Type} (l:List α) (g : α->Dv) (h : α->Tr) {sc:Scope} {own:List Str} {fr:List Nat} {cl : ι->List (Str×Addr)} (L:∀ i,gU (F.cx i) sc (cl i) fr) (hi:bA F tg iter ρ (l.map g)) (hg:iA (cy F own fr sc cl) tg js sp) (gi:∀ j ∈ js,j<own.length) (hz:l.length<sizeLine)
    (step:∀ a ∈ l,∃ dd,sp (g a)=some dd/\Ev (cy F own fr sc cl) elt (bG js (dd.map .fz) (cn own fr ρ)) (h a))
    (gG:∀ dd:List Dv,fL js (bG js (dd.map .fz) (cn own fr ρ))=cn own fr ρ) (hs:∀ i x,foldedSetIterable iter (F.cx i).env x=pure x:=by intro _ _;rfl):Ev F (.ListComp elt [⟨tg,iter,[],0⟩] sc pos) ρ (.ow (l.map h)):=by
  have:=kR (pos:=pos) l g (fun _=>true) h L hi hg gi hz (fun a ha=>let ⟨dd,s1,s2⟩:=step a ha;⟨dd,s1,FD,fun _=>s2⟩) gG hs
  rwa [List.filter_eq_self.mpr fun _ _=>rfl] at this
theorem cZ {α:Type} (l:List α) (h : α->Tr):er (.ow (l.map h))=.lst (l.map fun a=>er (h a)):=by
  show Dv.lst (eK _)=_
  rw [nB,List.map_map];rfl
end
end L2
namespace L2
open PySem PySem.Spec PyProof.Rows ft
section
variable {ι:Type} {F:aY ι} {e a b c:Expr} {es:List Expr} {ρ:En} {t ta tb':Tr} {ts:List Tr} {pos:Pos}
theorem gT {k:Nat} {f:Addr} {fd:FuncData} {ps:List Str} {R:List Dv->Tr->Prop} {x:Str} {n:Int} {tk:Tok} (Fn:Kn F.P F.w F.K F.mg F.base aj k x f fd ps (spT F.K R)) (B:Binds F.K fd ps [.int n tk]) (hk:k<=F.room) (ha:gg F (e::es) ρ ts) (hR:R (eK ts++[di n]) t) {p':Pos} (hg:∀ i,Gl (F.cx i) x:=by intro _;rfl) (fk:(x==("__debug__" : Str))=false:=by decide)
    (he:∀ i,starEach (e::es) (F.cx i).env=(false,eval e (F.cx i).env)::starEach es (F.cx i).env:=by intro _;rfl) (eZ:∀ i,(backTo pos (starEach es (F.cx i).env)).any (·.1)=false:=by intro _;rfl):Ev F (.Call (.Name x p') (e::es) [] pos) ρ t:=by
  obtain ⟨τ,y,z⟩:=ha.use
  refine ⟨tu (spT F.K R) [.int n] E0 τ,fun i=>?_,fun σ G H Q s rr k=>z σ G H _ s rr fun vs G1 H1 s1 hx=>?_⟩
  · have qS:Kn (F.cx i).prog (F.cx i).w (F.cx i).K (F.cx i).mg (F.cx i).base aj k x f fd ps (spT F.K R):=by
      rw [F.hP i,F.hw i,F.hK i,F.hm i,F.hb i]
      exact Fn
    exact Eu qS.ok ((F.hr i).mono hk) (hg i) qS.JP qS.kp (by rw [F.hK i];exact B) (.cons ⟨tk,rfl⟩ .nil) Hi (y i) fk (he i) (eZ i)
  · show spT F.K R (vs++[.int n]) H1 Q E0
    have app:∀ {ds:List Dv} {vs:List V},aX F.K G1 ds vs->aX F.K G1 (ds++[di n]) (vs++[.int n]):=by
      intro ds
      induction ds with
      | nil=>intro vs h;have h':vs=[]:=h;subst h';exact ⟨_,_,rfl,⟨rfl,rfl⟩,rfl⟩
      | cons d ds ih=>intro vs ⟨x,r,h1,h2,h3⟩;subst h1;exact ⟨x,_,rfl,h2,ih h3⟩
    exact ⟨G1,_,t,s1.s,app hx,hR,k.step s1⟩
end
abbrev dF (p:Int×Int):Dv:=.tup [di p.1,di p.2]
abbrev tF (p:Int×Int):Tr:=.fz (dF p)
def fW (W s:Int):Int×Int:=(lT s W,lB s W)
theorem gD {W s:Int} (h : 0<W) : 0<(fW W s).2:=by have:=tI (t:=s) (show W ≠ 0 by omega);show 0<lB s W;omega
theorem TN {W s:Int} (h : 0<W):(fW W s).2<=W:=by have:=TJ (t:=s) (show W ≠ 0 by omega);show lB s W<=W;omega
theorem SQ {W s:Int} (h : 0<W):(fW W s).1.natAbs<=s.natAbs:=SH (show W ≠ 0 by omega)
theorem gx {W s:Int} (h : 0<W):(fW W s).1*W=s*(fW W s).2:=xf (show W ≠ 0 by omega)
theorem OS {W s:Int} (h : 0<W) (hs : 0<=s) : 0<=(fW W s).1:=by
  have c:=gx (s:=s) h
  have p:=gD (s:=s) h
  rcases Int.lt_or_le (fW W s).1 0 with z | z
  · have:(fW W s).1*W<0:=Int.mul_neg_of_neg_of_pos z h
    have : 0<=s*(fW W s).2:=Int.mul_nonneg hs (by omega)
    omega
  · exact z
theorem nD {W s t b:Int} (h : 0<W) (hb:b ≠ 0) (e:t*W=s*b):(lT t b,lB t b)=fW W s:=by
  obtain ⟨h1,h2⟩:=Uv hb (show W ≠ 0 by omega) e
  show _=(_,_)
  rw [h1,h2]
theorem xh {W s t:Int} (h : 0<W):(lT ((fW W s).1*(fW W t).2+(fW W t).1*(fW W s).2) ((fW W s).2*(fW W t).2),lB ((fW W s).1*(fW W t).2+(fW W t).1*(fW W s).2) ((fW W s).2*(fW W t).2))=fW W (s+t):=by
  have p1:=gD (s:=s) h
  have p2:=gD (s:=t) h
  have c1:=gx (s:=s) h
  have c2:=gx (s:=t) h
  generalize (fW W s).1=a at *
  generalize (fW W s).2=b at *
  generalize (fW W t).1=c at *
  generalize (fW W t).2=d at *
  refine nD h (by have:=Int.mul_pos p1 p2;omega) ?_
  have e1:(a*d+c*b)*W=(a*W)*d+(c*W)*b:=by
    rw [Int.add_mul,Int.mul_right_comm a d W,Int.mul_right_comm c b W]
  rw [e1,c1,c2,Int.add_mul,Int.mul_assoc s b d,Int.mul_assoc t d b,Int.mul_comm d b]
theorem FQ {W s t:Int} (h : 0<W) (e:fW W s=fW W t):s=t:=by
  have c1:=gx (s:=s) h
  have c2:=gx (s:=t) h
  rw [e] at c1
  have p:=gD (s:=t) h
  have:s*(fW W t).2=t*(fW W t).2:=by rw [<- c1,<- c2]
  exact Int.eq_of_mul_eq_mul_right (by omega) this
theorem QK {W:Int} (h : 0<W):fW W W=(1,1):=by
  have:=r6 (t:=W) (b:=W) (p:=1) (q:=1) (by omega) (by decide) (by decide) (by rw [Int.one_mul,Int.mul_one])
  show (_,_)=_
  rw [<- this.1,<- this.2]
theorem nF {W:Int} (h : 0<W):fW W 0=(0,1):=by
  have:=r6 (t:=0) (b:=W) (p:=0) (q:=1) (by omega) (by decide) (by decide) (by rw [Int.zero_mul,Int.zero_mul])
  show (_,_)=_
  rw [<- this.1,<- this.2]
theorem TQ {W s t:Int} (h : 0<W):(fW W s).1*(fW W t).2<(fW W t).1*(fW W s).2 ↔ s<t:=by
  have p1:=gD (s:=s) h
  have p2:=gD (s:=t) h
  have c1:=gx (s:=s) h
  have c2:=gx (s:=t) h
  generalize (fW W s).1=a at *
  generalize (fW W s).2=b at *
  generalize (fW W t).1=c at *
  generalize (fW W t).2=d at *
  have bd : 0<b*d:=Int.mul_pos p1 p2
  have e1:a*d*W=s*(b*d):=by rw [Int.mul_right_comm,c1,Int.mul_assoc]
  have e2:c*b*W=t*(b*d):=by rw [Int.mul_right_comm,c2,Int.mul_assoc,Int.mul_comm d b]
  constructor
  · intro z
    have:=Int.mul_lt_mul_of_pos_right z h
    rw [e1,e2] at this
    exact Int.lt_of_mul_lt_mul_right this (by omega)
  · intro z
    have:=Int.mul_lt_mul_of_pos_right z bd
    rw [<- e1,<- e2] at this
    exact Int.lt_of_mul_lt_mul_right this (by omega)
end L2
namespace L2
open PySem PySem.Spec PyProof.Rows
section
variable {ι:Type} {F:aY ι} {e a b c:Expr} {es:List Expr} {ρ:En} {t ta tb':Tr} {ts:List Tr} {pos:Pos}
theorem Rn.to {st:Stmt} {ρ1 ρ2:En} (h:Rn F st ρ (.nx ρ1)) (e : ρ1 = ρ2):Rn F st ρ (.nx ρ2):=e ▸ h
end
end L2
namespace L2
open PySem PySem.Spec PyProof.Rows
theorem TR {X:Cx} {jr:List Str} {jG:List Nat} {bP:Scope} {ki:List (Str×Addr)} {C:Addr} {s:Shared} {H:Hp} {ex:List Addr} {pn:List (Addr×Obj)} {sc:Scope} {fr:List Nat} (N2:List Str)
    (L:DL N2 bP sc fr) (oG:∀ y,(y,NameKind.free) ∈ bP.names->∃ c,ki.lookup y=some c) (eN:(jr++jG.map fun j=>X.N.getD j "")=N2:=by rfl) :
    gU (cH X jr jG bP ki C s H ex pn) sc (eG (cellsFrom (C+1) bP.names ki) sc.names []) fr:=by
  subst eN
  exact Up L oG
end L2
namespace L2
open PySem PySem.Spec PyProof.Rows
section
variable {ι:Type} {F:aY ι} {e a b c:Expr} {ρ:En} {t ta tb':Tr} {pos:Pos}
theorem SR {u v:V} (ha:Ev F a ρ (.fz (.fl u))) (hb:Ev F b ρ (.fz (.fl v))) (hs:tO u v=true):Et F (.Compare a [.Eq] [b] pos) ρ (decide (u=v)) :=
  gW (fun _=>xY) ha hb (fun G H x y Q s hx hy k=>by rw [aL hx,aL hy];exact ⟨hs,k⟩) (eR _)
end
end L2
namespace L2
open PySem PySem.Spec PyProof.Rows
theorem cX.to {ι:Type} {F:aY ι} {e:Expr} {ρ:En} {p q:Bool} (h:cX F e ρ p) (z:p=q):cX F e ρ q:=z ▸ h
theorem bb.to {ι:Type} {F:aY ι} {cC:List Stmt} {ρ:En} {o o':Out} (h:bb F cC ρ o) (z:o=o'):bb F cC ρ o':=z ▸ h
section
variable {ι:Type} {F:aY ι} {a:Expr} {ρ:En} {pos:Pos} {ta:Tr}
theorem FR {K:PySem.W.Frag} {G:Hp} {xs:List Dv} {d:Dv} {x:V} (e:d=.lst xs\/d=.tup xs) (h:Hv K G d x):∃ l,x=.ref l:=by
  rcases e with rfl | rfl
  · obtain ⟨l,_,h,_⟩:=h;exact ⟨l,h⟩
  · obtain ⟨l,_,h,_⟩:=h;exact ⟨l,h⟩
theorem QL {xs:List Dv} {j:Nat} {p':Pos} (ha:Ev F a ρ ta) (ea:er ta=.lst xs\/er ta=.tup xs):Et F (.Compare a [.Is] [.Constant .none j p'] pos) ρ false :=
  gW (fun _=>xC) ha pW (fun G H x y Q s hx hy k=>⟨aL hy,by
    obtain ⟨l,rfl⟩:=FR ea hx
    rw [show decide (V.ref l=V.aN)=false from decide_eq_false (fun z=>nomatch z)]
    exact k⟩) (eR _)
theorem FT {v:V} {j:Nat} {p':Pos} (ha:Ev F a ρ (.fz (.fl v))):Ev F (.Compare a [.Is] [.Constant .none j p'] pos) ρ (tb (decide (v=.aN))) :=
  kN (fun _=>xC) ha pW (fun G H x y Q s hx hy k=>⟨aL hy,by rw [aL hx];exact k⟩) (eR _)
theorem QM {xs:List Dv} {j:Nat} {p':Pos} (ha:Ev F a ρ ta) (ea:er ta=.lst xs\/er ta=.tup xs):Ev F (.Compare a [.Is] [.Constant .none j p'] pos) ρ (tb false) :=
  kN (fun _=>xC) ha pW (fun G H x y Q s hx hy k=>⟨aL hy,by
    obtain ⟨l,rfl⟩:=FR ea hx
    rw [show decide (V.ref l=V.aN)=false from decide_eq_false (fun z=>nomatch z)]
    exact k⟩) (eR _)
end
end L2
namespace L2
open PySem PySem.Spec PyProof.Rows
theorem vG (xs:Array Nat) (j k:Nat) (h0:∀ i,i<k->i<xs.size->xs.getD i j<j) (h9:∀ i,k<=i->i<xs.size->¬ xs.getD i j<j):∀ fuel lo hi,hi<=xs.size->lo<=k->k<=hi->hi-lo<=fuel->SetTable.below.go xs j fuel lo hi=k
  | 0,lo,hi,_,h2,h3,h4=>by
    have:lo=k:=by omega
    subst this
    rfl
  | fuel+1,lo,hi,h1,h2,h3,h4=>by
    unfold SetTable.below.go
    by_cases h:lo<hi
    · rw [if_pos h]
      dsimp only
      by_cases hm:(lo+hi) / 2<k
      · rw [if_pos (h0 _ hm (by omega))]
        exact vG xs j k h0 h9 fuel _ hi h1 (by omega) h3 (by omega)
      · rw [if_neg (h9 _ (by omega) (by omega))]
        exact vG xs j k h0 h9 fuel lo _ (by omega) h2 (by omega) (by omega)
    · rw [if_neg h]
      omega
theorem vZ {xs:Array Nat} {j k:Nat} (hk:k<=xs.size) (h0:∀ i,i<k->i<xs.size->xs.getD i j<j) (h9:∀ i,k<=i->i<xs.size->¬ xs.getD i j<j):SetTable.below xs j=k :=
  vG xs j k h0 h9 _ 0 _ (Nat.le_refl _) (Nat.zero_le _) hk (by omega)
theorem getD_list (ns:List Nat) (i j:Nat):ns.toArray.getD i j=ns.getD i j:=by
  simp [Array.getD,List.getD]
  split<;>simp_all
section
variable {prog:Program} {w:World} {A:Around} {E:Value->Shared->Prop} {s:Shared} {R:Result->Shared->Prop} {I:Addr} {fp wr:List Addr} {n:Nat} {P:Nat->Value->Prop} {St:Nat->Heap->Prop}
theorem OT (a:Value) {Q₁:Value->Shared->Prop}
    (h:Q₁ (.ref s.heap.objs.size) { s with heap:=s.heap.push { cls:=.type "set",dict:=none,data:=.set #[] 0 (.fresh 0 0 (!w.params.followText "set-order")) } }) :
    codeAny (model prog w) A (.call (.builtin "set.__new__") ⟨[.type "set",a],[]⟩) (wants Q₁ E) s:=by
  refine codeAny_of_tree ?_
  show wpAny _ A.in1 (do checkBuiltinCall "set.__new__" ⟨[.type "set",a],[]⟩;again (.builtin "set.__new__" ⟨[.type "set",a],[]⟩)) _ _ s
  refine wpAny_bind (wpAny_of_eq (F.newCall_set_1 a) (wpAny_pure ⟨plainId_quiet F.plain_set_new _,codeAny_builtin F.entry_set_new ?_⟩))
  rw [Around.under_plainId F.plain_set_new _]
  unfold Builtin.«set.__new__» Builtin.Frozenset.newClass
  have Uw:=sub_set_self
  obtain ⟨hp,g,d,tk,os⟩:=s
  dsimp only
  wp_walk
  refine wpAny_askSetting (wpAny_pure ?_)
  dsimp only
  simp only [newObj]
  refine wpAny_bind (wpAny_alloc (wpAny_pure ?_))
  exact wpAny_pure h
end
section
variable {prog:Program} {w:World} {A:Around} {E:Value->Shared->Prop} {s:Shared}
def lg (b:Bool):Obj:={ cls:=.type "set",dict:=none,data:=.set #[] 0 (.fresh 0 0 b) }
end
theorem mw:Slot "set_iterator" "__next__" "set_iterator.__next__" :=
  .of (owner := "set_iterator") (n := "__next__") (by rw [typeLookup_type,builtinLookup_eq_fast];kernel_rfl) (by decide +kernel) (by decide +kernel) (by decide +kernel)
    (by first | exact .inl (by decide +kernel) | exact .inr (by decide +kernel)) (by rw [isSubtype_type];kernel_rfl)
theorem CQ:entryFor table "set_iterator.__next__" = some Builtin.«set_iterator.__next__»:=entryFor_of_tree (by kernel_rfl)
theorem Du:Manifest.owners.lookup (String.ofList ['r', 'o', 't', 'a', 'r', 'e', 't', 'i', '_', 't', 'e', 's'].reverse)=some Manifest.sig_set_iterator:=by kernel_rfl
theorem CY (a:Value):argsOk "set_iterator.__next__" ⟨[a],[]⟩:=by
  unfold argsOk;rw [signature?_of (id := "set_iterator.__next__") (n:=['_', '_', 't', 'x', 'e', 'n', '_', '_']) (o:=['r', 'o', 't', 'a', 'r', 'e', 't', 'i', '_', 't', 'e', 's']) (by kernel_rfl) Du];kernel_rfl
theorem CZ:Slot "set_iterator" "__iter__" "set_iterator.__iter__" :=
  .of (owner := "set_iterator") (n := "__iter__") (by rw [typeLookup_type,builtinLookup_eq_fast];kernel_rfl) (by decide +kernel) (by decide +kernel) (by decide +kernel)
    (by first | exact .inl (by decide +kernel) | exact .inr (by decide +kernel)) (by rw [isSubtype_type];kernel_rfl)
theorem L7:entryFor table "set_iterator.__iter__" = some Builtin.«dict_keyiterator.__iter__» :=
  entryFor_alias (id' := "dict_keyiterator.__iter__") (by kernel_rfl) rfl (by decide +kernel) (by kernel_rfl)
theorem Mx (a:Value):argsOk "set_iterator.__iter__" ⟨[a],[]⟩:=by
  unfold argsOk;rw [signature?_of (id := "set_iterator.__iter__") (n:=['_', '_', 'r', 'e', 't', 'i', '_', '_']) (o:=['r', 'o', 't', 'a', 'r', 'e', 't', 'i', '_', 't', 'e', 's']) (by kernel_rfl) Du];kernel_rfl
theorem L8:entryFor table "set.__iter__" = some Builtin.«frozenset.__iter__» :=
  entryFor_alias (id' := "frozenset.__iter__") (by kernel_rfl) rfl (by decide +kernel) (by kernel_rfl)
theorem EL {α:Type} (next:Nat->Nat):∀ (fuel k:Nat) (left:List α) (out:Array α),fuel=left.length->(pickOrder.go next fuel k left out).toList.Perm (out.toList++left)
  | 0,k,left,out,h=>by
    have:left=[]:=List.eq_nil_of_length_eq_zero h.symm
    subst this
    unfold pickOrder.go
    rw [List.append_nil]
  | fuel+1,k,left,out,h=>by
    have bx:next k % left.length<left.length:=Nat.mod_lt _ (by omega)
    unfold pickOrder.go
    rw [List.getElem?_eq_getElem bx]
    dsimp only
    have ih:=EL next fuel (k+1) (left.eraseIdx (next k % left.length)) (out.push left[next k % left.length]) (by rw [List.length_eraseIdx_of_lt bx];omega)
    refine ih.trans ?_
    rw [Array.toList_push,List.append_assoc]
    refine List.Perm.append_left _ ?_
    have e:left=left.take (next k % left.length)++left[next k % left.length]::left.drop (next k % left.length+1):=by rw [List.getElem_cons_drop,List.take_append_drop]
    conv=>rhs;rw [e]
    rw [List.eraseIdx_eq_take_drop_succ]
    rw [List.singleton_append]
    exact (List.perm_middle (a:=left[next k % left.length])).symm
theorem OU {α:Type} (next:Nat->Nat) (xs:Array α):(pickOrder next xs).toList.Perm xs.toList:=by
  have:=EL next xs.size 0 xs.toList #[] (by simp)
  simpa [pickOrder] using this
section
variable {prog:Program} {w:World} {A:Around} {E:Value->Shared->Prop} {s:Shared}
theorem PL {r:Addr} {Q:Bool->Shared->Prop} (hT:s.TypeIs (.ref r) "set") (h:Q false s):wpAny (model prog w) A (Builtin.List.listLengthHint (.ref r)) Q E s:=by
  unfold Builtin.List.listLengthHint
  refine wpAny_bind (wpAny_specialOf hT PySem.F.slot_set_len.lookup ?_)
  generalize Ka:("set.__len__" : String)=id0
  wp_delta
  rw [show splitId id0=some ("set", "__len__") from by subst Ka;decide +kernel]
  subst Ka
  refine wpAny_bind (wpAny_isInstance (T := "set") (b:=true) hT (by rw [isSubtype_type];kernel_rfl) ?_)
  refine wpAny_ite_split (fun cg=>absurd cg (by decide)) (fun _=>?_)
  refine wpAny_ite_split (fun _=>?_) (fun cg=>absurd (by decide +kernel) cg)
  refine wpAny_bind (wpAny_typeOf hT ?_)
  exact wpAny_pure h
end
end L2
namespace So
open PySem PyProof.Rows
abbrev GC:=Option (Option Nat)×Nat×Nat
abbrev SM:=StateT SortSt Sem
def yP:Bool->Keyed->Array Keyed->Nat->Nat->Nat->SM (Option Nat):=sortPriv% PySem.Builtin.gallop
def mLo:Array Keyed->Array Keyed->SM (Array Keyed):=sortPriv% PySem.Builtin.mergeLo
def mHi:Array Keyed->Array Keyed->SM (Array Keyed):=sortPriv% PySem.Builtin.mergeHi
def qB (left:Bool) (key:Keyed) (arr:Array Keyed) (base i:Nat):SM (Option Bool):=do
  let x <- elem' arr (base+i)
  if left=true then lt' x key else do
    let r <- lt' key x
    pure (r.map fun b=>!b)
section
variable {prog:Program} {w:World} {A:Around} {E:Value->Shared->Prop} {s:Shared}
theorem ER {left:Bool} {key:Keyed} {arr:Array Keyed} {base n hint:Nat} {st:SortSt} {Q:Option Nat->SortSt->Prop} (p:Nat->Bool)
    (qY:∀ (i:Nat) (Q:Option Bool->SortSt->Prop),i<n->Q (some (p i)) st->wpS (model prog w) A E s (qB left key arr base i) Q st)
    (mono:∀ i j,i<=j->j<n->p j=true->p i=true) (hh:hint<n)
    (h:∀ k,k<=n->(∀ i,i<k->p i=true)->(∀ i,k<=i->i<n->p i=false)->Q (some k) st) :
    wpS (model prog w) A E s (yP left key arr base n hint) Q st:=by
  have x9:∀ i j,i<=j->j<n->p i=false->p j=false:=fun i j h1 h2 h3=>by
    cases e:p j with
    | false=>rfl
    | true=>rw [mono i j h1 h2 e] at h3;cases h3
  refine wpS_bind (qY hint _ hh ?_)
  dsimp only
  have bin:∀ lo hi,lo<=hi->hi<=n->(∀ i,i<lo->p i=true)->(∀ i,hi<=i->i<n->p i=false) ->
      ∀ f:Nat->GC->SM (ForInStep GC),(∀ (x lo hi:Nat) (Q:ForInStep GC->SortSt->Prop),hi<=n ->
        (hi<=lo->Q (.done (none,lo,hi)) st)->(lo<hi->p (lo+(hi-lo) / 2)=true->Q (.yield (none,lo+(hi-lo) / 2+1,hi)) st)->(lo<hi->p (lo+(hi-lo) / 2)=false->Q (.yield (none,lo,lo+(hi-lo) / 2)) st) ->
        wpS (model prog w) A E s (f x (none,lo,hi)) Q st) ->
      wpS (model prog w) A E s (forIn [0:n] ((none,lo,hi):GC) f) (fun c ag=>ag=st/\∃ lo,c=(none,lo,lo)/\lo<=n/\(∀ i,i<lo->p i=true)/\(∀ i,lo<=i->i<n->p i=false)) st:=by
    intro lo hi h1 h2 h3 h4 f hf
    refine wpS_forRange (I:=fun x c ag=>ag=st/\∃ lo hi,c=(none,lo,hi)/\lo<=hi/\hi<=n/\hi-lo<=n-x/\(∀ i,i<lo->p i=true)/\(∀ i,hi<=i->i<n->p i=false)) ?_ ?_ ⟨rfl,lo,hi,rfl,h1,h2,by omega,h3,h4⟩
    · rintro x c ag _ hx ⟨rfl,lo,hi,rfl,a1,a2,a3,a4,a5⟩
      refine hf x lo hi _ a2 (fun z=>?_) (fun z e=>?_) (fun z e=>?_)
      · have:lo=hi:=by omega
        subst this
        exact ⟨rfl,lo,rfl,a2,a4,a5⟩
      · exact ⟨rfl,_,_,rfl,by omega,a2,by omega,fun i iB=>mono i (lo+(hi-lo) / 2) (by omega) (by omega) e,a5⟩
      · exact ⟨rfl,_,_,rfl,by omega,by omega,by omega,a4,fun i b1 b2=>x9 (lo+(hi-lo) / 2) i b1 b2 e⟩
    · rintro c ag ⟨rfl,lo,hi,rfl,a1,a2,a3,a4,a5⟩
      have:lo=hi:=by omega
      subst this
      exact ⟨rfl,lo,rfl,a2,a4,a5⟩
  cases hp:p hint with
  | true =>
    simp only [if_true]
    refine wpS_bind (wpS_mono (wpS_forRange (I:=fun x c ag=>ag=st/\∃ l o,c=(none,l,o)/\o=2*l+1/\x<=l/\hint+l<n/\p (hint+l)=true)
      (Q:=fun c ag=>ag=st/\∃ l o,c=(none,l,o)/\l<o/\hint+l<n/\p (hint+l)=true/\(n-hint<=o\/p (hint+o)=false)) ?_ ?_ ⟨rfl,0,1,rfl,rfl,Nat.le_refl _,hh,hp⟩) ?_)
    · rintro x c ag _ hx ⟨rfl,l,o,rfl,a1,a2,a3,a4⟩
      dsimp only
      by_cases fu:o >= n-hint
      · rw [if_pos fu]
        exact wpS_pure ⟨rfl,l,o,rfl,by omega,a3,a4,.inl fu⟩
      · rw [if_neg fu]
        refine wpS_bind (qY (hint+o) _ (by omega) ?_)
        dsimp only
        cases e:p (hint+o) with
        | true =>
          simp only [Bool.not_true,Bool.false_eq_true,if_false]
          exact wpS_pure ⟨rfl,o,2*o+1,rfl,rfl,by omega,by omega,e⟩
        | false =>
          simp only [Bool.not_false,if_true]
          exact wpS_pure ⟨rfl,l,o,rfl,by omega,a3,a4,.inr e⟩
    · rintro c ag ⟨rfl,l,o,rfl,a1,a2,a3,a4⟩
      exact ⟨rfl,l,o,rfl,by omega,a3,a4,.inl (by omega)⟩
    · rintro c ag ⟨rfl,l,o,rfl,a1,a2,a3,a4⟩
      dsimp only
      refine wpS_bind (wpS_mono (bin (hint+l+1) (hint+min o (n-hint)) (by omega) (by omega) (fun i hi=>mono i (hint+l) (by omega) (by omega) a3) (fun i b1 b2=>?_) _ (fun x lo hi Q hn k1 k2 k3=>?_)) ?_)
      · rcases a4 with z | z
        · omega
        · by_cases ho:hint+o<=i
          · exact x9 (hint+o) i ho b2 z
          · omega
      · dsimp only
        by_cases fu:lo >= hi
        · rw [if_pos fu];exact wpS_pure (k1 fu)
        · rw [if_neg fu]
          refine wpS_bind (qY _ _ (by omega) ?_)
          dsimp only
          cases e:p (lo+(hi-lo) / 2) with
          | true=>simp only [if_true];exact wpS_pure (k2 (by omega) e)
          | false=>simp only [Bool.false_eq_true,if_false];exact wpS_pure (k3 (by omega) e)
      · rintro c ag ⟨rfl,lo,rfl,b1,b2,b3⟩
        exact wpS_pure (h lo b1 b2 b3)
  | false =>
    simp only [Bool.false_eq_true,if_false]
    refine wpS_bind (wpS_mono (wpS_forRange (I:=fun x c ag=>ag=st/\∃ l o,c=(none,l,o)/\o=2*l+1/\x<=l/\l<=hint/\p (hint-l)=false)
      (Q:=fun c ag=>ag=st/\∃ l o,c=(none,l,o)/\l<o/\l<=hint/\p (hint-l)=false/\(hint+1<=o\/(o<=hint/\p (hint-o)=true))) ?_ ?_ ⟨rfl,0,1,rfl,rfl,Nat.le_refl _,Nat.zero_le _,hp⟩) ?_)
    · rintro x c ag _ hx ⟨rfl,l,o,rfl,a1,a2,a3,a4⟩
      dsimp only
      by_cases fu:o >= hint+1
      · rw [if_pos fu]
        exact wpS_pure ⟨rfl,l,o,rfl,by omega,a3,a4,.inl fu⟩
      · rw [if_neg fu]
        refine wpS_bind (qY (hint-o) _ (by omega) ?_)
        dsimp only
        cases e:p (hint-o) with
        | true =>
          simp only [if_true]
          exact wpS_pure ⟨rfl,l,o,rfl,by omega,a3,a4,.inr ⟨by omega,e⟩⟩
        | false =>
          simp only [Bool.false_eq_true,if_false]
          exact wpS_pure ⟨rfl,o,2*o+1,rfl,rfl,by omega,by omega,e⟩
    · rintro c ag ⟨rfl,l,o,rfl,a1,a2,a3,a4⟩
      exact ⟨rfl,l,o,rfl,by omega,a3,a4,.inl (by omega)⟩
    · rintro c ag ⟨rfl,l,o,rfl,a1,a2,a3,a4⟩
      dsimp only
      refine wpS_bind (wpS_mono (bin (hint+1-min o (hint+1)) (hint-l) (by omega) (by omega) (fun i hi=>?_) (fun i b1 b2=>x9 (hint-l) i b1 b2 a3) _ (fun x lo hi Q hn k1 k2 k3=>?_)) ?_)
      · rcases a4 with z | z
        · omega
        · exact mono i (hint-o) (by omega) (by omega) z.2
      · dsimp only
        by_cases fu:lo >= hi
        · rw [if_pos fu];exact wpS_pure (k1 fu)
        · rw [if_neg fu]
          refine wpS_bind (qY _ _ (by omega) ?_)
          dsimp only
          cases e:p (lo+(hi-lo) / 2) with
          | true=>simp only [if_true];exact wpS_pure (k2 (by omega) e)
          | false=>simp only [Bool.false_eq_true,if_false];exact wpS_pure (k3 (by omega) e)
      · rintro c ag ⟨rfl,lo,rfl,b1,b2,b3⟩
        exact wpS_pure (h lo b1 b2 b3)
end
end So
namespace So
open PySem PyProof.Rows
section
variable {κ:KeyKind}
def kf (κ:KeyKind) (x:Keyed) : κ.α:=(κ.keyOf x.1).getD κ.dflt
def dg (κ:KeyKind) (l:List Keyed):Prop:=l.Pairwise fun x y=>κ.kle (kf κ x) (kf κ y)
def Kd (κ:KeyKind) (l:List Keyed):Prop:=∀ x ∈ l,(κ.keyOf x.1).isSome=true
structure MI (κ:KeyKind) (a b out:List Keyed) (ia ib:Nat):Prop where
  p:(out++(a.drop ia++b.drop ib)).Perm (a++b)
  x:dg κ (out++a.drop ia)
  y:dg κ (out++b.drop ib)
def Gd (κ:KeyKind) (a b m:List Keyed):Prop:=m.Perm (a++b)/\dg κ m
variable {a b out:List Keyed} {ia ib:Nat}
theorem cF {l r:List Keyed}:dg κ (l++r) ↔ dg κ l/\dg κ r/\∀ x ∈ l,∀ y ∈ r,κ.kle (kf κ x) (kf κ y):=List.pairwise_append
theorem MI.tJ (h:MI κ a b out ia ib) (hb:b.length<=ib):Gd κ a b (out++a.drop ia++b.drop ib):=by
  have e:b.drop ib=[]:=List.drop_eq_nil_of_le hb
  have p:=h.p
  rw [e,List.append_nil] at p ⊢
  exact ⟨p,h.x⟩
theorem MI.TU (h:MI κ a b out ia ib) (ha:a.length<=ia):Gd κ a b (out++a.drop ia++b.drop ib):=by
  have e:a.drop ia=[]:=List.drop_eq_nil_of_le ha
  have p:=h.p
  rw [e,List.nil_append] at p
  rw [e,List.append_nil]
  exact ⟨p,h.y⟩
theorem MI.TV (h:MI κ a b out ia ib) (hl:∀ x ∈ b.drop ib,∀ y ∈ a.drop ia,κ.kle (kf κ x) (kf κ y)):Gd κ a b (out++b.drop ib++a.drop ia):=by
  refine ⟨?_,?_⟩
  · refine List.Perm.trans ?_ h.p
    rw [List.append_assoc]
    exact List.Perm.append_left _ List.perm_append_comm
  · have hx:=cF.mp h.x
    refine cF.mpr ⟨h.y,hx.2.1,fun x cV y hy=>?_⟩
    rcases List.mem_append.mp cV with z | z
    · exact hx.2.2 x z y hy
    · exact hl x z y hy
theorem MI.qj (h:MI κ a b out ia ib) (k:Nat) (hl:∀ x ∈ (a.drop ia).take k,∀ y ∈ b.drop ib,κ.kle (kf κ x) (kf κ y)):MI κ a b (out++(a.drop ia).take k) (ia+k) ib:=by
  have e:(a.drop ia).take k++a.drop (ia+k)=a.drop ia:=by rw [<- List.drop_drop];exact List.take_append_drop k _
  have hy:=cF.mp h.y
  have hx:=cF.mp h.x
  refine ⟨?_,?_,?_⟩
  · have:=h.p
    rw [<- e] at this
    rw [List.append_assoc]
    rw [List.append_assoc] at this
    exact this
  · rw [List.append_assoc,e];exact h.x
  · rw [cF,cF]
    have hs:dg κ ((a.drop ia).take k):=List.Pairwise.sublist (List.take_sublist k _) hx.2.1
    refine ⟨⟨hy.1,hs,fun x cV y cf=>hx.2.2 x cV y (List.mem_of_mem_take cf)⟩,hy.2.1,fun x cV y cf=>?_⟩
    rcases List.mem_append.mp cV with z | z
    · exact hy.2.2 x z y cf
    · exact hl x z y cf
theorem MI.qk (h:MI κ a b out ia ib) (k:Nat) (hl:∀ x ∈ (b.drop ib).take k,∀ y ∈ a.drop ia,κ.kle (kf κ x) (kf κ y)):MI κ a b (out++(b.drop ib).take k) ia (ib+k):=by
  have e:(b.drop ib).take k++b.drop (ib+k)=b.drop ib:=by rw [<- List.drop_drop];exact List.take_append_drop k _
  have hy:=cF.mp h.y
  have hx:=cF.mp h.x
  refine ⟨?_,?_,?_⟩
  · refine List.Perm.trans ?_ h.p
    generalize (b.drop ib).take k=B1 at e
    generalize b.drop (ib+k)=B2 at e
    rw [<- e]
    generalize a.drop ia=A1
    rw [List.append_assoc]
    refine List.Perm.append_left _ ?_
    rw [<- List.append_assoc,<- List.append_assoc]
    exact List.Perm.append_right _ List.perm_append_comm
  · rw [cF,cF]
    have hs:dg κ ((b.drop ib).take k):=List.Pairwise.sublist (List.take_sublist k _) hy.2.1
    refine ⟨⟨hx.1,hs,fun x cV y cf=>hy.2.2 x cV y (List.mem_of_mem_take cf)⟩,hx.2.1,fun x cV y cf=>?_⟩
    rcases List.mem_append.mp cV with z | z
    · exact hx.2.2 x z y cf
    · exact hl x z y cf
  · rw [List.append_assoc,e];exact h.y
theorem nG {l:List Keyed} {i:Nat} {x:Keyed} (h:l[i]?=some x):l.drop i=x::l.drop (i+1):=by
  obtain ⟨h1,rfl⟩:=List.getElem?_eq_some_iff.mp h
  exact List.drop_eq_getElem_cons h1
theorem kD {l:List Keyed} {i:Nat} {x:Keyed} (h:dg κ (l.drop i)) (e:l[i]?=some x):∀ y ∈ l.drop i,κ.kle (kf κ x) (kf κ y):=fun y hy=>by
  rw [nG e] at h hy
  rcases List.mem_cons.mp hy with rfl | z
  · exact KeyOrd.kle_refl _
  · exact (List.pairwise_cons.mp h).1 y z
theorem MI.oa {y:Keyed} (h:MI κ a b out ia ib) (e:a[ia]?=some y) (hl:∀ z ∈ b.drop ib,κ.kle (kf κ y) (kf κ z)):MI κ a b (out++[y]) (ia+1) ib:=by
  have:=h.qj 1 (by rw [nG e];intro x hx z hz;rw [List.take_succ_cons,List.take_zero,List.mem_singleton] at hx;rw [hx];exact hl z hz)
  rw [nG e] at this
  exact this
theorem MI.oh {y:Keyed} (h:MI κ a b out ia ib) (e:b[ib]?=some y) (hl:∀ z ∈ a.drop ia,κ.kle (kf κ y) (kf κ z)):MI κ a b (out++[y]) ia (ib+1):=by
  have:=h.qk 1 (by rw [nG e];intro x hx z hz;rw [List.take_succ_cons,List.take_zero,List.mem_singleton] at hx;rw [hx];exact hl z hz)
  rw [nG e] at this
  exact this
end
abbrev dc (st:SortSt) (g:Nat):SortSt:=SortSt.mk' (kindOf st) (arrOf st) (pendingOf st) g (failedOf st)
theorem nH {α:Type} (a:Array α) (i:Nat):(a.extract i a.size).toList=a.toList.drop i:=by
  rw [Array.toList_extract,List.extract_eq_take_drop,List.take_of_length_le (by rw [List.length_drop,Array.length_toList];omega)]
theorem EV {α:Type} (a:Array α) (i k:Nat):(a.extract i (i+k)).toList=(a.toList.drop i).take k:=by simp [List.extract_eq_take_drop]
structure gk (prog:Program) (w:World) (A:Around) (E:Value->Shared->Prop) (s:Shared) (kd:SortKind) (κ:KeyKind):Prop where
  lt:∀ (st:SortSt) (x y:Keyed) (Q:Option Bool->SortSt->Prop),kindOf st=kd->(κ.keyOf x.1).isSome=true->(κ.keyOf y.1).isSome=true->Q (some (κ.blt (kf κ x) (kf κ y))) st->wpS (model prog w) A E s (lt' x y) Q st
section
variable {prog:Program} {w:World} {A:Around} {E:Value->Shared->Prop} {s:Shared} {kd:SortKind} {κ:KeyKind}
theorem cK {arr:Array Keyed} {i:Nat} {x:Keyed} {st:SortSt} {Q:Keyed->SortSt->Prop} (e:arr[i]?=some x) (h:Q x st):wpS (model prog w) A E s (elem' arr i) Q st:=by
  rw [elem'_eq,e];exact wpS_pure h
theorem byL (C:gk prog w A E s kd κ) {key x:Keyed} {arr:Array Keyed} {base i:Nat} {st:SortSt} {Q:Option Bool->SortSt->Prop} (hk:kindOf st=kd) (e:arr[base+i]?=some x) (k1:(κ.keyOf key.1).isSome=true) (k2:(κ.keyOf x.1).isSome=true) (h:Q (some (κ.blt (kf κ x) (kf κ key))) st) :
    wpS (model prog w) A E s (qB true key arr base i) Q st:=by
  unfold qB
  refine wpS_bind (cK e ?_)
  rw [if_pos rfl]
  exact C.lt st x key _ hk k2 k1 h
theorem byR (C:gk prog w A E s kd κ) {key x:Keyed} {arr:Array Keyed} {base i:Nat} {st:SortSt} {Q:Option Bool->SortSt->Prop} (hk:kindOf st=kd) (e:arr[base+i]?=some x) (k1:(κ.keyOf key.1).isSome=true) (k2:(κ.keyOf x.1).isSome=true) (h:Q (some (!κ.blt (kf κ key) (kf κ x))) st) :
    wpS (model prog w) A E s (qB false key arr base i) Q st:=by
  unfold qB
  refine wpS_bind (cK e ?_)
  rw [if_neg (by decide)]
  exact wpS_bind (C.lt st key x _ hk k1 k2 (wpS_pure h))
def kA (κ:KeyKind) (arr:Array Keyed) (i:Nat) : κ.α:=match arr[i]? with | some x=>kf κ x | none=>κ.dflt
theorem bD {arr:Array Keyed} {i:Nat} {x:Keyed} (e:arr[i]?=some x):kA κ arr i=kf κ x:=by unfold kA;rw [e]
theorem dm {α:Type} {arr:Array α} {i:Nat} (h:i<arr.size):∃ x,arr[i]?=some x/\x ∈ arr.toList:=⟨arr[i],getElem?_pos arr i h,by simp⟩
theorem jV {arr:Array Keyed} (h:dg κ arr.toList) {i j:Nat} (bz:i<=j) (hj:j<arr.size) : κ.kle (kA κ arr i) (kA κ arr j):=by
  have li:i<arr.toList.length:=by rw [Array.length_toList];omega
  have lj:j<arr.toList.length:=by rw [Array.length_toList];omega
  have ei:arr[i]?=some arr.toList[i]:=by rw [<- Array.getElem?_toList,List.getElem?_eq_getElem li]
  have ej:arr[j]?=some arr.toList[j]:=by rw [<- Array.getElem?_toList,List.getElem?_eq_getElem lj]
  rw [bD ei,bD ej]
  rcases Nat.lt_or_ge i j with z | z
  · exact List.pairwise_iff_getElem.mp h i j li lj z
  · have:i=j:=by omega
    subst this
    exact KeyOrd.kle_refl _
theorem mem_mid {arr:Array Keyed} {i k:Nat} {x:Keyed} (h:x ∈ (arr.toList.drop i).take k):∃ j,j<k/\arr[i+j]?=some x:=by
  obtain ⟨n,hn,e⟩:=List.getElem_of_mem h
  rw [List.length_take] at hn
  refine ⟨n,by omega,?_⟩
  rw [<- Array.getElem?_toList,<- List.getElem?_drop,<- e]
  rw [List.getElem_take,List.getElem?_eq_getElem]
theorem v5 (C:gk prog w A E s kd κ) {key:Keyed} {arr:Array Keyed} {base n hint:Nat} {st:SortSt} {Q:Option Nat->SortSt->Prop} (hk:kindOf st=kd) (k1:(κ.keyOf key.1).isSome=true) (ka:Kd κ arr.toList) (hn:base+n<=arr.size) (hh:hint<n)
    (qZ:∀ i j,i<=j->j<n -> κ.kle (kA κ arr (base+i)) (kA κ arr (base+j)))
    (h:∀ k,k<=n->(∀ i,i<k -> κ.kle (kA κ arr (base+i)) (kf κ key))->(∀ i,k<=i->i<n -> κ.klt (kf κ key) (kA κ arr (base+i)))->Q (some k) st) :
    wpS (model prog w) A E s (yP false key arr base n hint) Q st:=by
  refine ER (fun i=>!κ.blt (kf κ key) (kA κ arr (base+i))) (fun i Q hi hq=>?_) (fun i j bz hj e=>?_) hh (fun k oN h1 h2=>h k oN (fun i hi=>?_) (fun i b1 b2=>?_))
  · obtain ⟨x,ex,mx⟩:=dm (arr:=arr) (i:=base+i) (by omega)
    rw [bD ex] at hq
    exact byR C hk ex k1 (ka x mx) hq
  · have e' : κ.blt (kf κ key) (kA κ arr (base+j))=false:=by simpa using e
    have : κ.kle (kA κ arr (base+i)) (kf κ key):=KeyOrd.kle_trans (qZ i j bz hj) e'
    unfold KeyOrd.kle at this
    rw [this];rfl
  · have:=h1 i hi
    show κ.blt _ _=false
    simpa using this
  · have:=h2 i b1 b2
    show κ.blt _ _=true
    simpa using this
theorem wD (C:gk prog w A E s kd κ) {key:Keyed} {arr:Array Keyed} {base n hint:Nat} {st:SortSt} {Q:Option Nat->SortSt->Prop} (hk:kindOf st=kd) (k1:(κ.keyOf key.1).isSome=true) (ka:Kd κ arr.toList) (hn:base+n<=arr.size) (hh:hint<n)
    (qZ:∀ i j,i<=j->j<n -> κ.kle (kA κ arr (base+i)) (kA κ arr (base+j)))
    (h:∀ k,k<=n->(∀ i,i<k -> κ.klt (kA κ arr (base+i)) (kf κ key))->(∀ i,k<=i->i<n -> κ.kle (kf κ key) (kA κ arr (base+i)))->Q (some k) st) :
    wpS (model prog w) A E s (yP true key arr base n hint) Q st:=by
  refine ER (fun i=>κ.blt (kA κ arr (base+i)) (kf κ key)) (fun i Q hi hq=>?_) (fun i j bz hj e=>?_) hh (fun k oN h1 h2=>h k oN (fun i hi=>h1 i hi) (fun i b1 b2=>h2 i b1 b2))
  · obtain ⟨x,ex,mx⟩:=dm (arr:=arr) (i:=base+i) (by omega)
    rw [bD ex] at hq
    exact byL C hk ex k1 (ka x mx) hq
  · exact KeyOrd.klt_of_kle_of_klt (qZ i j bz hj) e
end
end So
namespace So
open PySem PyProof.Rows
section
variable {prog:Program} {w:World} {A:Around} {E:Value->Shared->Prop} {s:Shared} {kd:SortKind} {κ:KeyKind}
theorem QN (C:gk prog w A E s kd κ) {a b:Array Keyed} {st:SortSt} {Q:Array Keyed->SortSt->Prop} (hk:kindOf st=kd) (ka:Kd κ a.toList) (kb:Kd κ b.toList) (sa:dg κ a.toList) (sb:dg κ b.toList) (na : 0<a.size) (nb : 0<b.size)
    (h0:∀ x y,b[0]?=some x->a[0]?=some y -> κ.kle (kf κ x) (kf κ y)) (hl:∀ x ∈ b.toList,∀ y,a[a.size-1]?=some y -> κ.kle (kf κ x) (kf κ y))
    (h:∀ (m:Array Keyed) g,Gd κ a.toList b.toList m.toList->Q m (dc st g)):wpS (model prog w) A E s (mLo a b) Q st:=by
  have la:a.toList.length=a.size:=Array.length_toList
  have lb:b.toList.length=b.size:=Array.length_toList
  have ga:∀ {i x},a[i]?=some x->a.toList[i]?=some x:=fun {i x} e=>by rw [Array.getElem?_toList];exact e
  have gb:∀ {i x},b[i]?=some x->b.toList[i]?=some x:=fun {i x} e=>by rw [Array.getElem?_toList];exact e
  have dl:∀ (out:Array Keyed) ia ib,(out++a.extract ia a.size++b.extract ib b.size).toList=out.toList++a.toList.drop ia++b.toList.drop ib:=fun out ia ib=>by
    rw [Array.toList_append,Array.toList_append,nH,nH]
  have ll:∀ (out:Array Keyed) ia ib,(out++b.extract ib b.size++a.extract ia a.size).toList=out.toList++b.toList.drop ib++a.toList.drop ia:=fun out ia ib=>by
    rw [Array.toList_append,Array.toList_append,nH,nH]
  have last:∀ {out:Array Keyed} {ia ib},MI κ a.toList b.toList out.toList ia ib->ia+1=a.size->Gd κ a.toList b.toList (out++b.extract ib b.size++a.extract ia a.size).toList:=fun {out ia ib} mi e=>by
    rw [ll]
    refine mi.TV fun x hx y hy=>?_
    obtain ⟨z,ez,_⟩:=dm (arr:=a) (i:=ia) (by omega)
    rw [nG (ga ez),List.drop_eq_nil_of_le (by omega),List.mem_singleton] at hy
    rw [hy]
    exact hl x (List.mem_of_mem_drop hx) z (by rw [show a.size-1=ia by omega];exact ez)
  refine wpS_bind (wpS_lift (wpAny_rule ⟨rfl,?_⟩))
  (with_reducible conv=>arg 5;whnf)
  obtain ⟨x0,e0,m0⟩:=dm nb
  refine wpS_bind (cK e0 ?_)
  (with_reducible conv=>arg 5;whnf)
  obtain ⟨y0,f0,_⟩:=dm na
  have ra:MI κ a.toList b.toList [x0] 0 1:=by
    have:MI κ a.toList b.toList [] 0 0:=⟨List.Perm.refl _,sa,sb⟩
    refine this.oh (gb e0) fun z hz=>KeyOrd.kle_trans (h0 x0 y0 e0 f0) (kD (i:=0) sa (ga f0) z hz)
  by_cases gh:(1==b.size)=true
  · rw [if_pos gh]
    have:=(beq_iff_eq.mp gh).symm
    exact wpS_pure (h _ (gallopOf st) (by rw [dl];exact ra.tJ (by omega)))
  rw [if_neg gh]
  have Ux : 1 ≠ b.size:=fun z=>gh (beq_iff_eq.mpr z)
  by_cases jJ:(0+1==a.size)=true
  · rw [if_pos jJ]
    have:=(beq_iff_eq.mp jJ)
    exact wpS_pure (h _ (gallopOf st) (last ra this))
  rw [if_neg jJ]
  have Uy : 0+1 ≠ a.size:=fun z=>jJ (beq_iff_eq.mpr z)
  refine wpS_bind (wpS_get ?_)
  (with_reducible conv=>arg 5;whnf)
  generalize gallopOf st=mg0
  refine wpS_bind (wpS_mono (wpS_forRange (I:=fun t c ag=>(∃ g,ag=dc st g)/\∃ out ia ib mg,c=(none,out,ia,ib,mg)/\MI κ a.toList b.toList out.toList ia ib/\ia+1<a.size/\ib<b.size/\t<=ia+ib)
    (Q:=fun c ag=>(∃ g,ag=dc st g)/\∃ m,c.1=some m/\Gd κ a.toList b.toList m.toList) ?_ ?_ ⟨⟨gallopOf st,rfl⟩,_,0,1,_,rfl,ra,by omega,by omega,by omega⟩) ?_)
  rotate_left
  · rintro c ag ⟨_,out,ia,ib,mg,rfl,mi,h1,h2,h3⟩
    omega
  · rintro c ag ⟨⟨g,rfl⟩,m,e,gd⟩
    dsimp only
    rw [e]
    exact wpS_pure (h m g gd)
  rintro t c ag _ ht ⟨⟨g,rfl⟩,out,ia,ib,mg,rfl,mi,h1,h2,h3⟩
  (with_reducible conv=>arg 5;whnf)
  (try dsimp -zeta only)
  refine wpS_bind (wpS_mono (wpS_forRange (I:=fun q c ag=>ag=dc st g/\∃ out ia ib ac bc,c=(none,out,ia,ib,ac,bc)/\MI κ a.toList b.toList out.toList ia ib/\ia+1<a.size/\ib<b.size/\t+q<=ia+ib)
    (Q:=fun c ag=>ag=dc st g/\((∃ m,c.1=some m/\Gd κ a.toList b.toList m.toList)\/∃ out ia ib ac bc,c=(none,out,ia,ib,ac,bc)/\MI κ a.toList b.toList out.toList ia ib/\ia+1<a.size/\ib<b.size/\t+1<=ia+ib)) ?_ ?_ ⟨rfl,out,ia,ib,0,0,rfl,mi,h1,h2,by omega⟩) ?_)
  rotate_left
  · rintro c ag ⟨_,out,ia,ib,ac,bc,rfl,mi,h1,h2,h3⟩
    omega
  rotate_left
  · clear mi h1 h2 h3
    rintro q c ag _ hq ⟨rfl,out,ia,ib,ac,bc,rfl,mi,h1,h2,h3⟩
    (with_reducible conv=>arg 5;whnf)
    (try dsimp -zeta only)
    obtain ⟨xb,eb,mb⟩:=dm h2
    obtain ⟨xa,ea,ma⟩:=dm (arr:=a) (i:=ia) (by omega)
    have sA:=(cF.mp mi.x).2.1
    have sB:=(cF.mp mi.y).2.1
    refine wpS_bind (cK eb (wpS_bind (cK ea (wpS_bind (C.lt _ xb xa _ hk (kb _ mb) (ka _ ma) ?_)))))
    (try dsimp -zeta only)
    cases bx : κ.blt (kf κ xb) (kf κ xa) with
    | true =>
      rw [if_pos rfl]
      refine wpS_bind (cK eb ?_)
      (with_reducible conv=>arg 5;whnf)
      have bB:MI κ a.toList b.toList (out.push xb).toList ia (ib+1):=by
        rw [Array.toList_push]
        exact mi.oh (gb eb) fun z hz=>KeyOrd.kle_trans (KeyOrd.kle_of_klt bx) (kD sA (ga ea) z hz)
      by_cases hz:(ib+1==b.size)=true
      · rw [if_pos hz]
        have:=beq_iff_eq.mp hz
        exact wpS_pure ⟨rfl,.inl ⟨_,rfl,by rw [dl];exact bB.tJ (by omega)⟩⟩
      · rw [if_neg hz]
        have dU:ib+1 ≠ b.size:=fun z=>hz (beq_iff_eq.mpr z)
        split
        · exact wpS_pure ⟨rfl,.inr ⟨_,_,_,_,_,rfl,bB,h1,by omega,by omega⟩⟩
        · exact wpS_pure ⟨rfl,_,_,_,_,_,rfl,bB,h1,by omega,by omega⟩
    | false =>
      rw [if_neg (by decide)]
      refine wpS_bind (cK ea ?_)
      (with_reducible conv=>arg 5;whnf)
      have bB:MI κ a.toList b.toList (out.push xa).toList (ia+1) ib:=by
        rw [Array.toList_push]
        exact mi.oa (ga ea) fun z hz=>KeyOrd.kle_trans bx (kD sB (gb eb) z hz)
      by_cases hz:(ia+1+1==a.size)=true
      · rw [if_pos hz]
        exact wpS_pure ⟨rfl,.inl ⟨_,rfl,last bB (beq_iff_eq.mp hz)⟩⟩
      · rw [if_neg hz]
        have dU:ia+1+1 ≠ a.size:=fun z=>hz (beq_iff_eq.mpr z)
        split
        · exact wpS_pure ⟨rfl,.inr ⟨_,_,_,_,_,rfl,bB,by omega,h2,by omega⟩⟩
        · exact wpS_pure ⟨rfl,_,_,_,_,_,rfl,bB,by omega,h2,by omega⟩
  clear mi h1 h2 h3
  rintro c ag ⟨rfl,⟨m,e,gd⟩ | ⟨out,ia,ib,ac,bc,rfl,mi,h1,h2,h3⟩⟩
  · obtain ⟨c1,c2⟩:=c
    simp only at e
    subst e
    (with_reducible conv=>arg 5;whnf)
    (try dsimp -zeta only)
    exact wpS_pure ⟨⟨g,rfl⟩,m,rfl,gd⟩
  (with_reducible conv=>arg 5;whnf)
  (try dsimp -zeta only)
  refine wpS_bind (wpS_lift (wpAny_rule ⟨rfl,?_⟩))
  (with_reducible conv=>arg 5;whnf)
  refine wpS_bind (wpS_mono (wpS_forRange (I:=fun q c ag=>(∃ g,ag=dc st g)/\∃ out ia ib mg ac bc,c=(none,out,ia,ib,mg,ac,bc)/\MI κ a.toList b.toList out.toList ia ib/\ia+1<a.size/\ib<b.size/\t+1+q<=ia+ib)
    (Q:=fun c ag=>(∃ g,ag=dc st g)/\((∃ m,c.1=some m/\Gd κ a.toList b.toList m.toList)\/∃ out ia ib mg ac bc,c=(none,out,ia,ib,mg,ac,bc)/\MI κ a.toList b.toList out.toList ia ib/\ia+1<a.size/\ib<b.size/\t+1<=ia+ib)) ?_ ?_ ⟨⟨g,rfl⟩,out,ia,ib,_,ac,bc,rfl,mi,h1,h2,by omega⟩) ?_)
  rotate_left
  · rintro c ag ⟨_,out,ia,ib,mg,ac,bc,rfl,mi,h1,h2,h3⟩
    omega
  · rintro c ag ⟨⟨g,rfl⟩,⟨m,e,gd⟩ | ⟨out,ia,ib,mg,ac,bc,rfl,mi,h1,h2,h3⟩⟩
    · obtain ⟨c1,c2⟩:=c
      simp only at e
      subst e
      (with_reducible conv=>arg 5;whnf)
      (try dsimp -zeta only)
      exact wpS_pure ⟨⟨g,rfl⟩,m,rfl,gd⟩
    · (with_reducible conv=>arg 5;whnf)
      (try dsimp -zeta only)
      (with_reducible conv=>arg 5;whnf)
      exact wpS_bind (wpS_modify (wpS_pure ⟨⟨_,rfl⟩,out,ia,ib,_,rfl,mi,h1,h2,h3⟩))
  clear mi h1 h2 h3
  rintro q c ag _ hq ⟨⟨g,rfl⟩,out,ia,ib,mg,ac,bc,rfl,mi,h1,h2,h3⟩
  (extract_lets +onlyGivenNames -merge -underBinder QO QP QQ QR QS QT QU QV QW QX PN;subst QO QP QQ QR QS QT QU QV QW QX PN)
  (try dsimp -zeta only)
  extract_lets +onlyGivenNames -merge -underBinder FU
  obtain ⟨jp,dW⟩:∃ z,z=FU:=⟨FU,rfl⟩
  rw [<- dW]
  suffices J:∀ mg,wpS (model prog w) A E s (jp () mg) _ (dc st g) by
    (try dsimp -zeta only)
    split
    · (with_reducible conv=>arg 5;whnf);exact J _
    · exact J _
  intro mg
  rw [dW]
  (try dsimp -zeta only)
  refine wpS_bind (wpS_modify ?_)
  obtain ⟨xb,eb,mb⟩:=dm h2
  refine wpS_bind (cK eb ?_)
  refine wpS_bind (v5 C (key:=xb) hk (kb _ mb) ka (by omega) (by omega) (fun i j bz hj=>jV sa (by omega) (by omega)) fun k k1 k2 k3=>?_)
  (try dsimp -zeta only)
  (try dsimp -zeta only)
  (rw [show k=id k from rfl];extract_lets +onlyGivenNames -merge -underBinder TX;subst TX;(try dsimp -zeta only [id]))
  extract_lets +onlyGivenNames -merge -underBinder FV
  obtain ⟨rd,hW⟩:∃ z,z=FV:=⟨FV,rfl⟩
  rw [<- hW]
  have sB:=(cF.mp mi.y).2.1
  suffices J2:∀ (out:Array Keyed) (ia:Nat),MI κ a.toList b.toList out.toList ia ib->ia+1<a.size->t+1+q<=ia+ib -> κ.klt (kf κ xb) (kA κ a ia)->wpS (model prog w) A E s (rd () out ia) _ (dc st mg) by
    by_cases iC:k > 0
    · rw [if_pos iC]
      (with_reducible conv=>arg 5;whnf)
      have bB:MI κ a.toList b.toList (out++a.extract ia (ia+k)).toList (ia+k) ib:=by
        rw [Array.toList_append,EV]
        refine mi.qj k fun x hx z hz=>?_
        obtain ⟨j,hj,ex⟩:=mem_mid hx
        have:=k2 j hj
        rw [bD ex] at this
        exact KeyOrd.kle_trans this (kD sB (gb eb) z hz)
      by_cases hz:(ia+k+1==a.size)=true
      · rw [if_pos hz]
        exact wpS_pure ⟨⟨_,rfl⟩,.inl ⟨_,rfl,last bB (beq_iff_eq.mp hz)⟩⟩
      · rw [if_neg hz]
        have dU:ia+k+1 ≠ a.size:=fun z=>hz (beq_iff_eq.mpr z)
        by_cases hy:(ia+k==a.size)=true
        · rw [if_pos hy]
          have:=beq_iff_eq.mp hy
          exact wpS_pure ⟨⟨_,rfl⟩,.inl ⟨_,rfl,by rw [dl];exact bB.TU (by omega)⟩⟩
        · rw [if_neg hy]
          have cf:ia+k ≠ a.size:=fun z=>hy (beq_iff_eq.mpr z)
          exact J2 _ _ bB (by omega) (by omega) (k3 k (Nat.le_refl _) (by omega))
    · rw [if_neg iC]
      exact J2 _ _ mi h1 h3 (k3 0 (by omega) (by omega))
  clear mi h1 h3 k1 k2 k3 sB
  intro out ia mi h1 h3 bx
  rw [hW]
  (try dsimp -zeta only)
  obtain ⟨xa,ea,ma⟩:=dm (arr:=a) (i:=ia) (by omega)
  rw [bD ea] at bx
  have sA:=(cF.mp mi.x).2.1
  refine wpS_bind (cK eb ?_)
  (with_reducible conv=>arg 5;whnf)
  have bB:MI κ a.toList b.toList (out.push xb).toList ia (ib+1):=by
    rw [Array.toList_push]
    exact mi.oh (gb eb) fun z hz=>KeyOrd.kle_trans (KeyOrd.kle_of_klt bx) (kD sA (ga ea) z hz)
  by_cases hz:(ib+1==b.size)=true
  · rw [if_pos hz]
    have:=beq_iff_eq.mp hz
    exact wpS_pure ⟨⟨_,rfl⟩,.inl ⟨_,rfl,by rw [dl];exact bB.tJ (by omega)⟩⟩
  rw [if_neg hz]
  have dU:ib+1 ≠ b.size:=fun z=>hz (beq_iff_eq.mpr z)
  refine wpS_bind (cK ea ?_)
  refine wpS_bind (wD C (key:=xa) hk (ka _ ma) kb (by omega) (by omega) (fun i j bz hj=>jV sb (by omega) (by omega)) fun k k1 k2 k3=>?_)
  (try dsimp -zeta only)
  (try dsimp -zeta only)
  (rw [show k=id k from rfl];extract_lets +onlyGivenNames -merge -underBinder TY;subst TY;(try dsimp -zeta only [id]))
  extract_lets +onlyGivenNames -merge -underBinder FW
  obtain ⟨zK,qC⟩:∃ z,z=FW:=⟨FW,rfl⟩
  rw [<- qC]
  suffices J3:∀ (out:Array Keyed) (ib:Nat),MI κ a.toList b.toList out.toList ia ib->ib<b.size->t+1+q<=ia+ib -> κ.kle (kf κ xa) (kA κ b ib)->wpS (model prog w) A E s (zK () out ib) _ (dc st mg) by
    by_cases iC:k > 0
    · rw [if_pos iC]
      (with_reducible conv=>arg 5;whnf)
      have oO:MI κ a.toList b.toList (out.push xb++b.extract (ib+1) (ib+1+k)).toList ia (ib+1+k):=by
        rw [Array.toList_append,EV]
        refine bB.qk k fun x hx z hz=>?_
        obtain ⟨j,hj,ex⟩:=mem_mid hx
        have:=k2 j hj
        rw [bD ex] at this
        exact KeyOrd.kle_trans (KeyOrd.kle_of_klt this) (kD sA (ga ea) z hz)
      by_cases hy:(ib+1+k==b.size)=true
      · rw [if_pos hy]
        have:=beq_iff_eq.mp hy
        exact wpS_pure ⟨⟨_,rfl⟩,.inl ⟨_,rfl,by rw [dl];exact oO.tJ (by omega)⟩⟩
      · rw [if_neg hy]
        have cf:ib+1+k ≠ b.size:=fun z=>hy (beq_iff_eq.mpr z)
        exact J3 _ _ oO (by omega) (by omega) (k3 k (Nat.le_refl _) (by omega))
    · rw [if_neg iC]
      exact J3 _ _ bB (by omega) (by omega) (k3 0 (by omega) (by omega))
  clear mi bB h2 h3 k1 k2 k3 sA hz dU eb
  intro out ib mi h2 h3 hle
  rw [qC]
  (try dsimp -zeta only)
  obtain ⟨xc,ec,mc⟩:=dm h2
  rw [bD ec] at hle
  have sB:=(cF.mp mi.y).2.1
  refine wpS_bind (cK ea ?_)
  (with_reducible conv=>arg 5;whnf)
  have bB:MI κ a.toList b.toList (out.push xa).toList (ia+1) ib:=by
    rw [Array.toList_push]
    exact mi.oa (ga ea) fun z hz=>KeyOrd.kle_trans hle (kD sB (gb ec) z hz)
  by_cases hz:(ia+1+1==a.size)=true
  · rw [if_pos hz]
    exact wpS_pure ⟨⟨_,rfl⟩,.inl ⟨_,rfl,last bB (beq_iff_eq.mp hz)⟩⟩
  · rw [if_neg hz]
    have dU:ia+1+1 ≠ a.size:=fun z=>hz (beq_iff_eq.mpr z)
    split
    · exact wpS_pure ⟨⟨_,rfl⟩,.inr ⟨_,_,_,_,_,_,rfl,bB,by omega,h2,by omega⟩⟩
    · exact wpS_pure ⟨⟨_,rfl⟩,_,_,_,_,_,_,rfl,bB,by omega,h2,by omega⟩
end
end So
namespace So
open PySem PyProof.Rows
structure MH (κ:KeyKind) (a b r:List Keyed) (na nb:Nat):Prop where
  p:((a.take na++b.take nb)++r).Perm (a++b)
  x:dg κ (a.take na++r)
  y:dg κ (b.take nb++r)
section
variable {κ:KeyKind} {a b r:List Keyed} {na nb:Nat}
theorem MH.qj (h:MH κ a b r na nb) (t:Nat) (ht:t<=na) (hl:∀ x ∈ b.take nb,∀ y ∈ (a.take na).drop t,κ.kle (kf κ x) (kf κ y)):MH κ a b ((a.take na).drop t++r) t nb:=by
  have e:a.take t++(a.take na).drop t=a.take na:=by
    have:=List.take_append_drop t (a.take na)
    rwa [List.take_take,Nat.min_eq_left ht] at this
  have hx:=h.x
  have hp:=h.p
  have hy:=cF.mp h.y
  generalize (a.take na).drop t=A2 at e hl
  rw [<- e] at hx hp
  rw [List.append_assoc] at hx
  have hx2:=cF.mp hx
  refine ⟨List.Perm.trans ?_ hp,hx,cF.mpr ⟨hy.1,hx2.2.1,fun x cV y cf=>?_⟩⟩
  · generalize a.take t=A1
    generalize b.take nb=B
    rw [List.append_assoc,List.append_assoc A1 A2 B,List.append_assoc A1 (A2++B) r]
    refine List.Perm.append_left _ ?_
    rw [<- List.append_assoc]
    exact List.Perm.append_right _ List.perm_append_comm
  · rcases List.mem_append.mp cf with z | z
    · exact hl x cV y z
    · exact hy.2.2 x cV y z
theorem MH.qk (h:MH κ a b r na nb) (t:Nat) (ht:t<=nb) (hl:∀ x ∈ a.take na,∀ y ∈ (b.take nb).drop t,κ.kle (kf κ x) (kf κ y)):MH κ a b ((b.take nb).drop t++r) na t:=by
  have e:b.take t++(b.take nb).drop t=b.take nb:=by
    have:=List.take_append_drop t (b.take nb)
    rwa [List.take_take,Nat.min_eq_left ht] at this
  have hy:=h.y
  have hp:=h.p
  have hx:=cF.mp h.x
  generalize (b.take nb).drop t=B2 at e hl
  rw [<- e] at hy hp
  rw [List.append_assoc] at hy
  have hy2:=cF.mp hy
  refine ⟨?_,cF.mpr ⟨hx.1,hy2.2.1,fun x cV y cf=>?_⟩,hy⟩
  · rw [<- List.append_assoc,List.append_assoc (a.take na)]
    exact hp
  · rcases List.mem_append.mp cf with z | z
    · exact hl x cV y z
    · exact hx.2.2 x cV y z
theorem rT {l:List Keyed} {n:Nat} {x:Keyed} (e:l[n]?=some x):(l.take (n+1)).drop n=[x]:=by
  obtain ⟨h1,rfl⟩:=List.getElem?_eq_some_iff.mp e
  rw [List.take_succ_eq_append_getElem h1,List.drop_append_of_le_length (by rw [List.length_take];omega),List.drop_eq_nil_of_le (by rw [List.length_take];omega),List.nil_append]
theorem MH.oa {y:Keyed} (h:MH κ a b r (na+1) nb) (e:a[na]?=some y) (hl:∀ z ∈ b.take nb,κ.kle (kf κ z) (kf κ y)):MH κ a b (y::r) na nb:=by
  have:=h.qj na (Nat.le_succ _) (by rw [rT e];intro x hx z hz;rw [List.mem_singleton.mp hz];exact hl x hx)
  rwa [rT e] at this
theorem MH.oh {y:Keyed} (h:MH κ a b r na (nb+1)) (e:b[nb]?=some y) (hl:∀ z ∈ a.take na,κ.kle (kf κ z) (kf κ y)):MH κ a b (y::r) na nb:=by
  have:=h.qk nb (Nat.le_succ _) (by rw [rT e];intro x hx z hz;rw [List.mem_singleton.mp hz];exact hl x hx)
  rwa [rT e] at this
theorem MH.done (h:MH κ a b r na nb) (hz:na=0\/nb=0):Gd κ a b (a.take na++b.take nb++r):=by
  refine ⟨h.p,?_⟩
  rcases hz with rfl | rfl
  · rw [List.take_zero,List.nil_append];exact h.y
  · rw [List.take_zero,List.append_nil];exact h.x
theorem MH.first (h:MH κ a b r na nb) (hl:∀ x ∈ b.take nb,∀ y ∈ a.take na,κ.kle (kf κ x) (kf κ y)):Gd κ a b (b.take nb++a.take na++r):=by
  refine ⟨(List.Perm.append_right _ List.perm_append_comm).trans h.p,?_⟩
  have hy:=cF.mp h.y
  rw [List.append_assoc]
  refine cF.mpr ⟨hy.1,h.x,fun x hx y cf=>?_⟩
  rcases List.mem_append.mp cf with z | z
  · exact hl x hx y z
  · exact hy.2.2 x hx y z
theorem kS {arr:Array Keyed} {n:Nat} {x:Keyed} (h:x ∈ arr.toList.take n):∃ j,j<n/\arr[j]?=some x:=by
  obtain ⟨m,hm,e⟩:=List.getElem_of_mem h
  rw [List.length_take] at hm
  refine ⟨m,by omega,?_⟩
  rw [<- Array.getElem?_toList,<- e,List.getElem_take,List.getElem?_eq_getElem]
theorem xM {arr:Array Keyed} {t n:Nat} {x:Keyed} (h:x ∈ (arr.toList.take n).drop t):∃ j,t<=j/\j<n/\arr[j]?=some x:=by
  obtain ⟨m,hm,e⟩:=List.getElem_of_mem h
  rw [List.length_drop,List.length_take] at hm
  refine ⟨t+m,by omega,by omega,?_⟩
  rw [<- Array.getElem?_toList,<- e,List.getElem_drop,List.getElem_take,List.getElem?_eq_getElem]
theorem p8 {α:Type} (a:Array α) (n:Nat):(a.extract 0 n).toList=a.toList.take n:=by
  rw [Array.toList_extract,List.extract_eq_take_drop,List.drop_zero,Nat.sub_zero]
theorem nU {α:Type} (a:Array α) (t n:Nat):(a.extract t n).toList=(a.toList.take n).drop t:=by
  rw [Array.toList_extract,List.extract_eq_take_drop,List.drop_take]
end
section
variable {prog:Program} {w:World} {A:Around} {E:Value->Shared->Prop} {s:Shared} {kd:SortKind} {κ:KeyKind}
theorem QY (C:gk prog w A E s kd κ) {a b:Array Keyed} {st:SortSt} {Q:Array Keyed->SortSt->Prop} (hk:kindOf st=kd) (ka:Kd κ a.toList) (kb:Kd κ b.toList) (sa:dg κ a.toList) (sb:dg κ b.toList) (na0 : 0<a.size) (nb0 : 0<b.size)
    (h0:∀ x y,b[0]?=some x->a[0]?=some y -> κ.kle (kf κ x) (kf κ y)) (hl:∀ x ∈ b.toList,∀ y,a[a.size-1]?=some y -> κ.kle (kf κ x) (kf κ y))
    (h:∀ (m:Array Keyed) g,Gd κ a.toList b.toList m.toList->Q m (dc st g)):wpS (model prog w) A E s (mHi a b) Q st:=by
  have la:a.toList.length=a.size:=Array.length_toList
  have lb:b.toList.length=b.size:=Array.length_toList
  have ga:∀ {i x},a[i]?=some x->a.toList[i]?=some x:=fun {i x} e=>by rw [Array.getElem?_toList];exact e
  have gb:∀ {i x},b[i]?=some x->b.toList[i]?=some x:=fun {i x} e=>by rw [Array.getElem?_toList];exact e
  have Iq:∀ {n j:Nat} {x y:Keyed},x ∈ a.toList.take n->a[j]?=some y->n<=j+1 -> κ.kle (kf κ x) (kf κ y):=fun {n j x y} hx ey hn=>by
    obtain ⟨i,hi,ex⟩:=kS hx
    have:=jV (arr:=a) (κ:=κ) sa (i:=i) (j:=j) (by omega) (Array.getElem?_eq_some_iff.mp ey).1
    rwa [bD ex,bD ey] at this
  have Ir:∀ {n j:Nat} {x y:Keyed},x ∈ b.toList.take n->b[j]?=some y->n<=j+1 -> κ.kle (kf κ x) (kf κ y):=fun {n j x y} hx ey hn=>by
    obtain ⟨i,hi,ex⟩:=kS hx
    have:=jV (arr:=b) (κ:=κ) sb (i:=i) (j:=j) (by omega) (Array.getElem?_eq_some_iff.mp ey).1
    rwa [bD ex,bD ey] at this
  have dl:∀ (out:Array Keyed) na nb,(a.extract 0 na++b.extract 0 nb++out.reverse).toList=a.toList.take na++b.toList.take nb++out.toList.reverse:=fun out na nb=>by
    rw [Array.toList_append,Array.toList_append,p8,p8,Array.toList_reverse]
  have first:∀ {out:Array Keyed} {na nb},MH κ a.toList b.toList out.toList.reverse na nb->nb=1->Gd κ a.toList b.toList (b.extract 0 nb++a.extract 0 na++out.reverse).toList:=fun {out na nb} mi e=>by
    rw [Array.toList_append,Array.toList_append,p8,p8,Array.toList_reverse]
    refine mi.first fun x hx y hy=>?_
    obtain ⟨i,hi,ex⟩:=kS hx
    have hi0:i=0:=by omega
    subst hi0
    obtain ⟨j,hj,ey⟩:=kS hy
    obtain ⟨y0,f0,_⟩:=dm na0
    have:=jV (arr:=a) (κ:=κ) sa (i:=0) (j:=j) (by omega) (Array.getElem?_eq_some_iff.mp ey).1
    rw [bD f0,bD ey] at this
    exact KeyOrd.kle_trans (h0 x y0 ex f0) this
  refine wpS_bind (wpS_lift (wpAny_rule ⟨rfl,?_⟩))
  (with_reducible conv=>arg 5;whnf)
  obtain ⟨x0,e0,m0⟩:=dm (arr:=a) (i:=a.size-1) (by omega)
  refine wpS_bind (cK e0 ?_)
  (with_reducible conv=>arg 5;whnf)
  have ra:MH κ a.toList b.toList [x0] (a.size-1) b.size:=by
    have:MH κ a.toList b.toList [] (a.size-1+1) b.size:=by
      refine ⟨?_,?_,?_⟩
      · rw [List.append_nil,List.take_of_length_le (by omega),List.take_of_length_le (by omega)]
      · rw [List.append_nil,List.take_of_length_le (by omega)];exact sa
      · rw [List.append_nil,List.take_of_length_le (by omega)];exact sb
    exact this.oa (ga e0) fun z hz=>hl z (List.mem_of_mem_take hz) x0 e0
  have yQ:MH κ a.toList b.toList (#[x0]:Array Keyed).toList.reverse (a.size-1) b.size:=ra
  by_cases gh:(a.size-1==0)=true
  · rw [if_pos gh]
    have:=beq_iff_eq.mp gh
    exact wpS_pure (h _ (gallopOf st) (by rw [dl];exact yQ.done (.inl this)))
  rw [if_neg gh]
  have Ux:a.size-1 ≠ 0:=fun z=>gh (beq_iff_eq.mpr z)
  by_cases jJ:(b.size==1)=true
  · rw [if_pos jJ]
    exact wpS_pure (h _ (gallopOf st) (first yQ (beq_iff_eq.mp jJ)))
  rw [if_neg jJ]
  have Uy:b.size ≠ 1:=fun z=>jJ (beq_iff_eq.mpr z)
  refine wpS_bind (wpS_get ?_)
  (with_reducible conv=>arg 5;whnf)
  generalize gallopOf st=mg0
  refine wpS_bind (wpS_mono (wpS_forRange (I:=fun t c ag=>(∃ g,ag=dc st g)/\∃ out na nb mg,c=(none,na,nb,out,mg)/\MH κ a.toList b.toList out.toList.reverse na nb/\0<na/\1<nb/\na<=a.size/\nb<=b.size/\na+nb+t<=a.size+b.size)
    (Q:=fun c ag=>(∃ g,ag=dc st g)/\∃ m,c.1=some m/\Gd κ a.toList b.toList m.toList) ?_ ?_ ⟨⟨gallopOf st,rfl⟩,_,_,_,_,rfl,yQ,by omega,by omega,by omega,by omega,by omega⟩) ?_)
  rotate_left
  · rintro c ag ⟨_,out,na,nb,mg,rfl,mi,h1,h2,h3,h4,h5⟩
    omega
  · rintro c ag ⟨⟨g,rfl⟩,m,e,gd⟩
    dsimp only
    rw [e]
    exact wpS_pure (h m g gd)
  rintro t c ag _ ht ⟨⟨g,rfl⟩,out,na,nb,mg,rfl,mi,h1,h2,h3,h4,h5⟩
  (with_reducible conv=>arg 5;whnf)
  (try dsimp -zeta only)
  refine wpS_bind (wpS_mono (wpS_forRange (I:=fun q c ag=>ag=dc st g/\∃ out na nb ac bc,c=(none,na,nb,out,ac,bc)/\MH κ a.toList b.toList out.toList.reverse na nb/\0<na/\1<nb/\na<=a.size/\nb<=b.size/\na+nb+t+q<=a.size+b.size)
    (Q:=fun c ag=>ag=dc st g/\((∃ m,c.1=some m/\Gd κ a.toList b.toList m.toList)\/∃ out na nb ac bc,c=(none,na,nb,out,ac,bc)/\MH κ a.toList b.toList out.toList.reverse na nb/\0<na/\1<nb/\na<=a.size/\nb<=b.size/\na+nb+t+1<=a.size+b.size)) ?_ ?_ ⟨rfl,out,na,nb,0,0,rfl,mi,h1,h2,h3,h4,by omega⟩) ?_)
  rotate_left
  · rintro c ag ⟨_,out,na,nb,ac,bc,rfl,mi,h1,h2,h3,h4,h5⟩
    omega
  rotate_left
  · clear mi h1 h2 h3 h4 h5
    rintro q c ag _ hq ⟨rfl,out,na,nb,ac,bc,rfl,mi,h1,h2,h3,h4,h5⟩
    (with_reducible conv=>arg 5;whnf)
    (try dsimp -zeta only)
    obtain ⟨na,rfl⟩:∃ n,na=n+1:=⟨na-1,by omega⟩
    obtain ⟨nb,rfl⟩:∃ n,nb=n+1:=⟨nb-1,by omega⟩
    obtain ⟨xb,eb,mb⟩:=dm (arr:=b) (i:=nb) (by omega)
    obtain ⟨xa,ea,ma⟩:=dm (arr:=a) (i:=na) (by omega)
    simp only [Nat.add_sub_cancel]
    refine wpS_bind (cK eb (wpS_bind (cK ea (wpS_bind (C.lt _ xb xa _ hk (kb _ mb) (ka _ ma) ?_)))))
    (try dsimp -zeta only)
    cases bx : κ.blt (kf κ xb) (kf κ xa) with
    | true =>
      rw [if_pos rfl]
      (try dsimp -zeta only)
      refine wpS_bind (cK ea ?_)
      (try dsimp -zeta only)
      have bB:MH κ a.toList b.toList (out.push xa).toList.reverse na (nb+1):=by
        rw [Array.toList_push,List.reverse_append]
        exact mi.oa (ga ea) fun z hz=>KeyOrd.kle_trans (Ir hz eb (Nat.le_refl _)) (KeyOrd.kle_of_klt bx)
      by_cases hz:(na==0)=true
      · rw [if_pos hz]
        exact wpS_pure ⟨rfl,.inl ⟨_,rfl,by rw [dl];exact bB.done (.inl (beq_iff_eq.mp hz))⟩⟩
      · rw [if_neg hz]
        have dU:na ≠ 0:=fun z=>hz (beq_iff_eq.mpr z)
        split
        · exact wpS_pure ⟨rfl,.inr ⟨_,_,_,_,_,rfl,bB,by omega,by omega,by omega,by omega,by omega⟩⟩
        · exact wpS_pure ⟨rfl,_,_,_,_,_,rfl,bB,by omega,by omega,by omega,by omega,by omega⟩
    | false =>
      rw [if_neg (by decide)]
      (try dsimp -zeta only)
      refine wpS_bind (cK eb ?_)
      (try dsimp -zeta only)
      have bB:MH κ a.toList b.toList (out.push xb).toList.reverse (na+1) nb:=by
        rw [Array.toList_push,List.reverse_append]
        exact mi.oh (gb eb) fun z hz=>KeyOrd.kle_trans (Iq hz ea (Nat.le_refl _)) bx
      by_cases hz:(nb==1)=true
      · rw [if_pos hz]
        exact wpS_pure ⟨rfl,.inl ⟨_,rfl,first bB (beq_iff_eq.mp hz)⟩⟩
      · rw [if_neg hz]
        have dU:nb ≠ 1:=fun z=>hz (beq_iff_eq.mpr z)
        split
        · exact wpS_pure ⟨rfl,.inr ⟨_,_,_,_,_,rfl,bB,by omega,by omega,by omega,by omega,by omega⟩⟩
        · exact wpS_pure ⟨rfl,_,_,_,_,_,rfl,bB,by omega,by omega,by omega,by omega,by omega⟩
  clear mi h1 h2 h3 h4 h5
  rintro c ag ⟨rfl,⟨m,e,gd⟩ | ⟨out,na,nb,ac,bc,rfl,mi,h1,h2,h3,h4,h5⟩⟩
  · obtain ⟨c1,c2⟩:=c
    simp only at e
    subst e
    (with_reducible conv=>arg 5;whnf)
    (try dsimp -zeta only)
    exact wpS_pure ⟨⟨g,rfl⟩,m,rfl,gd⟩
  (with_reducible conv=>arg 5;whnf)
  (try dsimp -zeta only)
  refine wpS_bind (wpS_lift (wpAny_rule ⟨rfl,?_⟩))
  (with_reducible conv=>arg 5;whnf)
  refine wpS_bind (wpS_mono (wpS_forRange (I:=fun q c ag=>(∃ g,ag=dc st g)/\∃ out na nb mg ac bc,c=(none,na,nb,out,mg,ac,bc)/\MH κ a.toList b.toList out.toList.reverse na nb/\0<na/\1<nb/\na<=a.size/\nb<=b.size/\na+nb+t+1+q<=a.size+b.size)
    (Q:=fun c ag=>(∃ g,ag=dc st g)/\((∃ m,c.1=some m/\Gd κ a.toList b.toList m.toList)\/∃ out na nb mg ac bc,c=(none,na,nb,out,mg,ac,bc)/\MH κ a.toList b.toList out.toList.reverse na nb/\0<na/\1<nb/\na<=a.size/\nb<=b.size/\na+nb+t+1<=a.size+b.size)) ?_ ?_ ⟨⟨g,rfl⟩,out,na,nb,_,ac,bc,rfl,mi,h1,h2,h3,h4,by omega⟩) ?_)
  rotate_left
  · rintro c ag ⟨_,out,na,nb,mg,ac,bc,rfl,mi,h1,h2,h3,h4,h5⟩
    omega
  · rintro c ag ⟨⟨g,rfl⟩,⟨m,e,gd⟩ | ⟨out,na,nb,mg,ac,bc,rfl,mi,h1,h2,h3,h4,h5⟩⟩
    · obtain ⟨c1,c2⟩:=c
      simp only at e
      subst e
      (with_reducible conv=>arg 5;whnf)
      (try dsimp -zeta only)
      exact wpS_pure ⟨⟨g,rfl⟩,m,rfl,gd⟩
    · (with_reducible conv=>arg 5;whnf)
      (try dsimp -zeta only)
      (with_reducible conv=>arg 5;whnf)
      exact wpS_bind (wpS_modify (wpS_pure ⟨⟨_,rfl⟩,out,na,nb,_,rfl,mi,h1,h2,h3,h4,h5⟩))
  clear mi h1 h2 h3 h4 h5
  rintro q c ag _ hq ⟨⟨g,rfl⟩,out,na,nb,mg,ac,bc,rfl,mi,h1,h2,h3,h4,h5⟩
  (extract_lets +onlyGivenNames -merge -underBinder QZ Q0 Q1 Q2 Q3 Q4 Q5 Q6 Q7 Q8 PQ;subst QZ Q0 Q1 Q2 Q3 Q4 Q5 Q6 Q7 Q8 PQ)
  (try dsimp -zeta only)
  extract_lets +onlyGivenNames -merge -underBinder FX
  obtain ⟨jp,dW⟩:∃ z,z=FX:=⟨FX,rfl⟩
  rw [<- dW]
  suffices J:∀ mg,wpS (model prog w) A E s (jp () mg) _ (dc st g) by
    (try dsimp -zeta only)
    split
    · (with_reducible conv=>arg 5;whnf);exact J _
    · exact J _
  intro mg
  rw [dW]
  (try dsimp -zeta only)
  refine wpS_bind (wpS_modify ?_)
  obtain ⟨xb,eb,mb⟩:=dm (arr:=b) (i:=nb-1) (by omega)
  refine wpS_bind (cK eb ?_)
  refine wpS_bind (v5 C (key:=xb) hk (kb _ mb) ka (by omega) (by omega) (fun i j bz hj=>jV sa (by omega) (by omega)) fun k k1 k2 k3=>?_)
  simp only [Nat.zero_add] at k2 k3
  (try dsimp -zeta only)
  (try dsimp -zeta only)
  (extract_lets +onlyGivenNames -merge -underBinder Q9 Ra;subst Q9 Ra)
  extract_lets +onlyGivenNames -merge -underBinder FY
  obtain ⟨rd,hW⟩:∃ z,z=FY:=⟨FY,rfl⟩
  rw [<- hW]
  suffices J2:∀ (na:Nat) (out:Array Keyed),MH κ a.toList b.toList out.toList.reverse na nb->0<na->na<=a.size->na+nb+t+1+q<=a.size+b.size->(∀ i,i<na -> κ.kle (kA κ a i) (kf κ xb))->wpS (model prog w) A E s (rd () na out) _ (dc st mg) by
    by_cases iC:na-k > 0
    · rw [if_pos iC]
      (with_reducible conv=>arg 5;whnf)
      have bB:MH κ a.toList b.toList (out++(a.extract k na).reverse).toList.reverse k nb:=by
        rw [Array.toList_append,Array.toList_reverse,List.reverse_append,List.reverse_reverse,nU]
        refine mi.qj k (by omega) fun x hx y hy=>?_
        obtain ⟨j,iV,jI,ey⟩:=xM hy
        have:=k3 j iV jI
        rw [bD ey] at this
        exact KeyOrd.kle_trans (Ir hx eb (by omega)) (KeyOrd.kle_of_klt this)
      by_cases hz:(k==0)=true
      · rw [if_pos hz]
        exact wpS_pure ⟨⟨_,rfl⟩,.inl ⟨_,rfl,by rw [dl];exact bB.done (.inl (beq_iff_eq.mp hz))⟩⟩
      · rw [if_neg hz]
        have dU:k ≠ 0:=fun z=>hz (beq_iff_eq.mpr z)
        exact J2 _ _ bB (by omega) (by omega) (by omega) k2
    · rw [if_neg iC]
      have:k=na:=by omega
      subst this
      exact J2 _ _ mi h1 h3 (by omega) k2
  clear mi h1 h3 h5 k1 k2 k3
  intro na out mi h1 h3 h5 hle
  rw [hW]
  (with_reducible conv=>arg 5;whnf)
  obtain ⟨nb,rfl⟩:∃ n,nb=n+1:=⟨nb-1,by omega⟩
  simp -zeta only [Nat.add_sub_cancel] at eb ⊢
  refine wpS_bind (cK eb ?_)
  (with_reducible conv=>arg 5;whnf)
  have bB:MH κ a.toList b.toList (out.push xb).toList.reverse na nb:=by
    rw [Array.toList_push,List.reverse_append]
    refine mi.oh (gb eb) fun z hz=>?_
    obtain ⟨i,hi,ez⟩:=kS hz
    have:=hle i hi
    rwa [bD ez] at this
  by_cases hz:(nb==1)=true
  · rw [if_pos hz]
    exact wpS_pure ⟨⟨_,rfl⟩,.inl ⟨_,rfl,first bB (beq_iff_eq.mp hz)⟩⟩
  rw [if_neg hz]
  have dU:nb ≠ 1:=fun z=>hz (beq_iff_eq.mpr z)
  obtain ⟨xa,ea,ma⟩:=dm (arr:=a) (i:=na-1) (by omega)
  refine wpS_bind (cK ea ?_)
  refine wpS_bind (wD C (key:=xa) hk (ka _ ma) kb (by omega) (by omega) (fun i j bz hj=>jV sb (by omega) (by omega)) fun k k1 k2 k3=>?_)
  simp only [Nat.zero_add] at k2 k3
  (try dsimp -zeta only)
  (try dsimp -zeta only)
  (extract_lets +onlyGivenNames -merge -underBinder Rb Rc;subst Rb Rc)
  extract_lets +onlyGivenNames -merge -underBinder FZ
  obtain ⟨zK,qC⟩:∃ z,z=FZ:=⟨FZ,rfl⟩
  rw [<- qC]
  suffices J3:∀ (nb:Nat) (out:Array Keyed),MH κ a.toList b.toList out.toList.reverse na nb->1<nb->nb<=b.size->na+nb+t+1+q+1<=a.size+b.size->(∀ i,i<nb -> κ.kle (kA κ b i) (kf κ xa))->wpS (model prog w) A E s (zK () nb out) _ (dc st mg) by
    by_cases iC:nb-k > 0
    · rw [if_pos iC]
      (with_reducible conv=>arg 5;whnf)
      have oO:MH κ a.toList b.toList (out.push xb++(b.extract k nb).reverse).toList.reverse na k:=by
        rw [Array.toList_append,Array.toList_reverse,List.reverse_append,List.reverse_reverse,nU]
        refine bB.qk k (by omega) fun x hx y hy=>?_
        obtain ⟨j,iV,jI,ey⟩:=xM hy
        have:=k3 j iV jI
        rw [bD ey] at this
        exact KeyOrd.kle_trans (Iq hx ea (by omega)) this
      by_cases hy:(k==1)=true
      · rw [if_pos hy]
        exact wpS_pure ⟨⟨_,rfl⟩,.inl ⟨_,rfl,first oO (beq_iff_eq.mp hy)⟩⟩
      · rw [if_neg hy]
        have cf:k ≠ 1:=fun z=>hy (beq_iff_eq.mpr z)
        by_cases hx:(k==0)=true
        · rw [if_pos hx]
          exact wpS_pure ⟨⟨_,rfl⟩,.inl ⟨_,rfl,by rw [dl];exact oO.done (.inr (beq_iff_eq.mp hx))⟩⟩
        · rw [if_neg hx]
          have cV:k ≠ 0:=fun z=>hx (beq_iff_eq.mpr z)
          exact J3 _ _ oO (by omega) (by omega) (by omega) fun i hi=>KeyOrd.kle_of_klt (k2 i hi)
    · rw [if_neg iC]
      have:k=nb:=by omega
      subst this
      exact J3 _ _ bB (by omega) (by omega) (by omega) fun i hi=>KeyOrd.kle_of_klt (k2 i hi)
  clear mi bB h2 h4 h5 k1 k2 k3 hz dU eb
  intro nb out mi h2 h4 h5 Uz
  rw [qC]
  (with_reducible conv=>arg 5;whnf)
  obtain ⟨na,rfl⟩:∃ n,na=n+1:=⟨na-1,by omega⟩
  simp only [Nat.add_sub_cancel] at ea ⊢
  refine wpS_bind (cK ea ?_)
  (try dsimp -zeta only)
  have bB:MH κ a.toList b.toList (out.push xa).toList.reverse na nb:=by
    rw [Array.toList_push,List.reverse_append]
    refine mi.oa (ga ea) fun z hz=>?_
    obtain ⟨i,hi,ez⟩:=kS hz
    have:=Uz i hi
    rwa [bD ez] at this
  by_cases hz:(na==0)=true
  · rw [if_pos hz]
    exact wpS_pure ⟨⟨_,rfl⟩,.inl ⟨_,rfl,by rw [dl];exact bB.done (.inl (beq_iff_eq.mp hz))⟩⟩
  · rw [if_neg hz]
    have dU:na ≠ 0:=fun z=>hz (beq_iff_eq.mpr z)
    split
    · exact wpS_pure ⟨⟨_,rfl⟩,.inr ⟨_,_,_,_,_,_,rfl,bB,by omega,h2,by omega,h4,by omega⟩⟩
    · exact wpS_pure ⟨⟨_,rfl⟩,_,_,_,_,_,_,rfl,bB,by omega,h2,by omega,h4,by omega⟩
end
end So
namespace So
open PySem PyProof.Rows
structure SB (kd:SortKind) (a0:Array Keyed) (p:Array (Nat×Nat×Nat)) (lo:Nat) (x0:Array Keyed) (st:SortSt):Prop where
  perm:(arrOf st).Perm a0
  kind:kindOf st=kd
  fail:failedOf st=none
  pend:pendingOf st=p
  low:∀ i,i<lo->(arrOf st)[i]?=x0[i]?
def SS (κ:KeyKind) (xs:Array Keyed) (lo n:Nat):Prop:=∀ i j,i<=j->j<n -> κ.kle (kA κ xs (lo+i)) (kA κ xs (lo+j))
def DS (κ:KeyKind) (xs:Array Keyed) (lo n:Nat):Prop:=∀ i j,i<=j->j<n -> κ.kle (kA κ xs (lo+j)) (kA κ xs (lo+i))
section
variable {κ:KeyKind} {kd:SortKind} {a0 x0:Array Keyed} {p:Array (Nat×Nat×Nat)} {lo:Nat} {st:SortSt}
theorem SB.size (h:SB kd a0 p lo x0 st):(arrOf st).size=a0.size:=h.perm.size_eq
theorem SB.set (h:SB kd a0 p lo x0 st) {xs:Array Keyed} (hp:xs.Perm (arrOf st)) (hl:∀ i,i<lo->xs[i]?=(arrOf st)[i]?):SB kd a0 p lo x0 (setArr st xs) :=
  ⟨hp.trans h.perm,h.kind,h.fail,h.pend,fun i hi=>(hl i hi).trans (h.low i hi)⟩
theorem SB.keys (h:SB kd a0 p lo x0 st) (k:Kd κ a0.toList):Kd κ (arrOf st).toList:=fun x hx=>k x ((Array.perm_iff_toList_perm.mp h.perm).mem_iff.mp hx)
theorem kE {xs ys:Array Keyed} {i j:Nat} (e:xs[i]?=ys[j]?):kA κ xs i=kA κ ys j:=by unfold kA;rw [e]
theorem v7 {xs:Array Keyed} {i j:Nat} (hj:j<=xs.size) (k:Nat):kA κ (mirror xs i j ((j-i) / 2)) k=if i<=k/\k<j then kA κ xs (i+j-1-k) else kA κ xs k:=by
  have e:=getElem?_mirror_all (i:=i) hj k
  split
  · rename_i z;rw [if_pos z] at e;exact kE e
  · rename_i z;rw [if_neg z] at e;exact kE e
theorem rN {xs:Array Keyed} {i j:Nat} (hj:j<=xs.size) (k:Nat) (hk:k<i):(mirror xs i j ((j-i) / 2))[k]?=xs[k]?:=by
  rw [getElem?_mirror_all hj,if_neg (by omega)]
theorem pQ {xs:Array Keyed} {i j:Nat} (hj:j<=xs.size) (he:∀ k,i<=k->k<j->kA κ xs k=kA κ xs (j-1)) (k:Nat):kA κ (mirror xs i j ((j-i) / 2)) k=kA κ xs k:=by
  rw [v7 hj]
  split
  · rw [he _ (by omega) (by omega),he k (by omega) (by omega)]
  · rfl
theorem Dw {xs:Array Keyed} {src d:Nat} (hs:src<xs.size) (hd:d<=src) (k:Nat):kA κ (bubble xs src d) k=if k=src-d then kA κ xs src else if src-d<k/\k<=src then kA κ xs (k-1) else kA κ xs k:=by
  have e:=getElem?_bubble hs d hd k
  split
  · rename_i z;rw [if_pos z] at e;exact kE e
  · rename_i z
    rw [if_neg z] at e
    split
    · rename_i z2;rw [if_pos z2] at e;exact kE e
    · rename_i z2;rw [if_neg z2] at e;exact kE e
theorem NZ {xs:Array Keyed} {src d:Nat} (hs:src<xs.size) (hd:d<=src) (k:Nat) (hk:k<src-d):(bubble xs src d)[k]?=xs[k]?:=by
  rw [getElem?_bubble hs d hd,if_neg (by omega),if_neg (by omega)]
end
section
variable {prog:Program} {w:World} {A:Around} {E:Value->Shared->Prop} {s:Shared} {kd:SortKind} {κ:KeyKind} {a0 x0:Array Keyed} {p:Array (Nat×Nat×Nat)} {lo:Nat}
theorem nV (C:gk prog w A E s kd κ) (k0:Kd κ a0.toList) {st:SortSt} (hB:SB kd a0 p lo x0 st) {i j:Nat} {Q:Option Bool->SortSt->Prop} (hi:i<a0.size) (hj:j<a0.size) (h:Q (some (κ.blt (kA κ (arrOf st) i) (kA κ (arrOf st) j))) st):wpS (model prog w) A E s (ltAt' i j) Q st:=by
  obtain ⟨x,ex,mx⟩:=dm (arr:=arrOf st) (i:=i) (by rw [hB.size];exact hi)
  obtain ⟨y,ey,my⟩:=dm (arr:=arrOf st) (i:=j) (by rw [hB.size];exact hj)
  rw [bD ex,bD ey] at h
  rw [ltAt'_eq]
  refine wpS_bind (wpS_get ?_)
  show wpS _ _ _ _ (elem' (arrOf st) i >>= fun x=>elem' (arrOf st) j >>= fun y=>lt' x y) Q st
  exact wpS_bind (cK ex (wpS_bind (cK ey (C.lt st x y _ hB.kind (hB.keys k0 x mx) (hB.keys k0 y my) h))))
theorem F0 (C:gk prog w A E s kd κ) (k0:Kd κ a0.toList) {st:SortSt} (hB:SB kd a0 p lo x0 st) {n dr:Nat} (n1 : 1<=n) (hn:n<=dr) (hr:lo+dr<=a0.size) (hs:SS κ (arrOf st) lo n)
    (f:Nat->(Option (Option Nat)×Nat)->SM (ForInStep (Option (Option Nat)×Nat)))
    (hf:∀ (x n:Nat) (Q:ForInStep (Option (Option Nat)×Nat)->SortSt->Prop),1<=n->n<dr->(κ.klt (kA κ (arrOf st) (lo+n)) (kA κ (arrOf st) (lo+n-1))->Q (.done (none,n)) st)->(κ.kle (kA κ (arrOf st) (lo+n-1)) (kA κ (arrOf st) (lo+n))->Q (.yield (none,n+1)) st)->wpS (model prog w) A E s (f x (none,n)) Q st) :
    wpS (model prog w) A E s (forIn [n:dr] ((none,n):Option (Option Nat)×Nat) f) (fun c ag=>ag=st/\∃ m,c=(none,m)/\n<=m/\m<=dr/\SS κ (arrOf st) lo m/\(m=dr \/ κ.klt (kA κ (arrOf st) (lo+m)) (kA κ (arrOf st) (lo+m-1)))) st:=by
  refine wpS_forRange (I:=fun t c ag=>ag=st/\c=(none,t)/\SS κ (arrOf st) lo t) ?_ ?_ ⟨rfl,rfl,hs⟩
  · rintro t c ag h1 h2 ⟨rfl,rfl,jK⟩
    refine hf t t _ (by omega) h2 (fun z=>⟨rfl,t,rfl,h1,by omega,jK,.inr z⟩) (fun z=>⟨rfl,rfl,fun i j bz hj=>?_⟩)
    by_cases e:j<t
    · exact jK i j bz e
    · have:j=t:=by omega
      subst this
      by_cases e2:i=j
      · subst e2;exact KeyOrd.kle_refl _
      · refine KeyOrd.kle_trans (jK i (j-1) (by omega) (by omega)) ?_
        rw [show lo+(j-1)=lo+j-1 by omega];exact z
  · rintro c ag ⟨rfl,rfl,jK⟩
    rw [show max n dr=dr by omega] at jK ⊢
    exact ⟨rfl,dr,rfl,hn,Nat.le_refl _,jK,.inl rfl⟩
theorem Ge (C:gk prog w A E s kd κ) (k0:Kd κ a0.toList) {st:SortSt} (hB:SB kd a0 p lo x0 st) {dr:Nat} {Q:Option Nat->SortSt->Prop} (n1 : 1<=dr) (hr:lo+dr<=a0.size)
    (h:∀ m ag,SB kd a0 p lo x0 ag->1<=m->m<=dr->SS κ (arrOf ag) lo m->Q (some m) ag):wpS (model prog w) A E s (countRun' lo dr) Q st:=by
  have s1:SS κ (arrOf st) lo 1:=fun i j bz hj=>by
    have:i=j:=by omega
    subst this
    exact KeyOrd.kle_refl _
  refine wpS_bind (wpS_mono (F0 C k0 hB (Nat.le_refl 1) n1 hr s1 _ fun x n Q h1 h2 q1 q2=>?_) ?_)
  · (with_reducible conv=>arg 5;whnf)
    refine wpS_bind (nV C k0 hB (by omega) (by omega) ?_)
    (try dsimp -zeta only)
    cases e : κ.blt (kA κ (arrOf st) (lo+n)) (kA κ (arrOf st) (lo+n-1)) with
    | true=>rw [if_pos rfl];exact wpS_pure (q1 e)
    | false=>rw [if_neg (by decide)];(with_reducible conv=>arg 5;whnf);exact wpS_pure (q2 e)
  rintro c ag ⟨rfl,n,rfl,m1,m2,hs,uw⟩
  (with_reducible conv=>arg 5;whnf)
  (try dsimp -zeta only)
  by_cases hz:(n==dr)=true
  · rw [if_pos hz]
    exact wpS_pure (h n _ hB m1 m2 hs)
  rw [if_neg hz]
  have dU:n ≠ dr:=fun z=>hz (beq_iff_eq.mpr z)
  have bx:=uw.resolve_left dU
  extract_lets +onlyGivenNames -merge -underBinder Hr
  obtain ⟨jp,dW⟩:∃ z,z=Hr:=⟨Hr,rfl⟩
  rw [<- dW]
  suffices J:∀ st,SB kd a0 p lo x0 st->DS κ (arrOf st) lo (n+1)->wpS (model prog w) A E s (jp ()) Q st by
    by_cases hg:n > 1
    · rw [if_pos hg]
      refine wpS_bind (nV C k0 hB (by omega) (by omega) ?_)
      (try dsimp -zeta only)
      cases e : κ.blt (kA κ (arrOf ag) lo) (kA κ (arrOf ag) (lo+n-1)) with
      | true=>rw [if_pos rfl];exact wpS_pure (h n _ hB m1 m2 hs)
      | false =>
        rw [if_neg (by decide)]
        have bS:lo+n<=(arrOf ag).size:=by rw [hB.size];omega
        have all:∀ k,lo<=k->k<lo+n->kA κ (arrOf ag) k=kA κ (arrOf ag) (lo+n-1):=fun k b1 b2=>by
          have c1:=hs 0 (k-lo) (by omega) (by omega)
          have c2:=hs (k-lo) (n-1) (by omega) (by omega)
          rw [show lo+(k-lo)=k by omega] at c1 c2
          rw [show lo+(n-1)=lo+n-1 by omega] at c2
          exact KeyOrd.kle_antisymm c2 (KeyOrd.kle_trans (show κ.kle _ _ from e) c1)
        refine wpS_bind (wpS_modify (J _ (hB.set (mirror_perm _ _ _ _) fun i hi=>rN bS i hi) fun i j bz hj=>?_))
        show κ.kle (kA κ (mirror (arrOf ag) _ _ _) _) (kA κ (mirror (arrOf ag) _ _ _) _)
        rw [pQ bS all,pQ bS all]
        by_cases hjn:j<n
        · rw [all (lo+i) (by omega) (by omega),all (lo+j) (by omega) (by omega)];exact KeyOrd.kle_refl _
        · have:j=n:=by omega
          subst this
          by_cases e2:i=j
          · subst e2;exact KeyOrd.kle_refl _
          · rw [all (lo+i) (by omega) (by omega)];exact KeyOrd.kle_of_klt bx
    · rw [if_neg hg]
      have:n=1:=by omega
      subst this
      refine J _ hB fun i j bz hj=>?_
      by_cases e2:i=j
      · subst e2;exact KeyOrd.kle_refl _
      · have i0:i=0:=by omega
        have j1:j=1:=by omega
        subst i0 j1
        exact KeyOrd.kle_of_klt bx
  clear hs uw bx hB s1
  intro st hB hd
  rw [dW]
  (try dsimp -zeta only)
  refine wpS_bind (wpS_lift (wpAny_rule ⟨rfl,?_⟩))
  (with_reducible conv=>arg 5;whnf)
  refine wpS_bind (wpS_mono (wpS_forRange (I:=fun t c ag=>∃ q,c=(none,t,q)/\SB kd a0 p lo x0 ag/\DS κ (arrOf ag) lo t/\q+1<=t/\∀ i,t-(q+1)<=i->i<t->kA κ (arrOf ag) (lo+i)=kA κ (arrOf ag) (lo+t-1))
    (Q:=fun c ag=>∃ t q,c=(none,t,q)/\1<=t/\t<=dr/\SB kd a0 p lo x0 ag/\DS κ (arrOf ag) lo t/\q+1<=t/\∀ i,t-(q+1)<=i->i<t->kA κ (arrOf ag) (lo+i)=kA κ (arrOf ag) (lo+t-1)) ?_ ?_ ⟨0,rfl,hB,hd,by omega,fun i b1 b2=>by rw [show lo+i=lo+(n+1)-1 by omega]⟩) ?_)
  · rintro t c ag t1 t2 ⟨q,rfl,hB,hd,hq,he⟩
    have bS:lo+t<=(arrOf ag).size:=by rw [hB.size];omega
    (with_reducible conv=>arg 5;whnf)
    (try dsimp -zeta only)
    refine wpS_bind (nV C k0 hB (by omega) (by omega) ?_)
    (try dsimp -zeta only)
    extract_lets +onlyGivenNames -merge -underBinder Gf
    obtain ⟨j1,iV⟩:∃ z,z=Gf:=⟨Gf,rfl⟩
    rw [<- iV]
    cases e : κ.blt (kA κ (arrOf ag) (lo+t)) (kA κ (arrOf ag) (lo+t-1)) with
    | true =>
      rw [if_pos rfl]
      extract_lets +onlyGivenNames -merge -underBinder Gg
      obtain ⟨j2,jI⟩:∃ z,z=Gg:=⟨Gg,rfl⟩
      rw [<- jI]
      have step:∀ xs:Array Keyed,(∀ k,kA κ xs k=kA κ (arrOf ag) k)->DS κ xs lo (t+1):=fun xs hk i j bz hj=>by
        rw [hk,hk]
        by_cases zL:j<t
        · exact hd i j bz zL
        · have:j=t:=by omega
          subst this
          by_cases e2:i=j
          · subst e2;exact KeyOrd.kle_refl _
          · refine KeyOrd.kle_trans (KeyOrd.kle_of_klt e) ?_
            have:=hd i (j-1) (by omega) (by omega)
            rwa [show lo+(j-1)=lo+j-1 by omega] at this
      have gQ:∀ k,lo+t-(q+1)<=k->k<lo+t->kA κ (arrOf ag) k=kA κ (arrOf ag) (lo+t-1):=fun k b1 b2=>by
        have:=he (k-lo) (by omega) (by omega)
        rwa [show lo+(k-lo)=k by omega] at this
      split
      · refine wpS_bind (wpS_modify ?_)
        rw [jI]
        (with_reducible conv=>arg 5;whnf)
        rw [iV]
        (with_reducible conv=>arg 5;whnf)
        exact wpS_pure ⟨0,rfl,hB.set (mirror_perm _ _ _ _) fun i hi=>rN bS i (by omega),step _ (pQ bS gQ),by omega,fun i b1 b2=>by rw [show lo+i=lo+(t+1)-1 by omega]⟩
      · rw [jI]
        (with_reducible conv=>arg 5;whnf)
        rw [iV]
        (with_reducible conv=>arg 5;whnf)
        exact wpS_pure ⟨0,rfl,hB,step _ (fun _=>rfl),by omega,fun i b1 b2=>by rw [show lo+i=lo+(t+1)-1 by omega]⟩
    | false =>
      rw [if_neg (by decide)]
      refine wpS_bind (nV C k0 hB (by omega) (by omega) ?_)
      (try dsimp -zeta only)
      cases e2 : κ.blt (kA κ (arrOf ag) (lo+t-1)) (kA κ (arrOf ag) (lo+t)) with
      | true =>
        rw [if_pos rfl]
        exact wpS_pure ⟨t,q,rfl,by omega,by omega,hB,hd,hq,he⟩
      | false =>
        rw [if_neg (by decide)]
        (with_reducible conv=>arg 5;whnf)
        rw [iV]
        (with_reducible conv=>arg 5;whnf)
        have eq:kA κ (arrOf ag) (lo+t)=kA κ (arrOf ag) (lo+t-1):=KeyOrd.kle_antisymm e2 e
        refine wpS_pure ⟨q+1,rfl,hB,fun i j bz hj=>?_,by omega,fun i b1 b2=>?_⟩
        · by_cases zL:j<t
          · exact hd i j bz zL
          · have:j=t:=by omega
            subst this
            by_cases e3:i=j
            · subst e3;exact KeyOrd.kle_refl _
            · rw [eq]
              have:=hd i (j-1) (by omega) (by omega)
              rwa [show lo+(j-1)=lo+j-1 by omega] at this
        · rw [show lo+(t+1)-1=lo+t by omega]
          by_cases hit:i=t
          · subst hit;rfl
          · rw [eq];exact he i (by omega) (by omega)
  · rintro c ag ⟨q,rfl,hB,hd,hq,he⟩
    rw [show max (n+1) dr=dr by omega] at hd hq he ⊢
    exact ⟨dr,q,rfl,by omega,Nat.le_refl _,hB,hd,hq,he⟩
  clear hB hd
  rintro c ag ⟨t,q,rfl,t1,t2,hB,hd,hq,he⟩
  have bS:lo+t<=(arrOf ag).size:=by rw [hB.size];omega
  (extract_lets +onlyGivenNames -merge -underBinder Rf Rg Rh Ri;subst Rf Rg Rh Ri)
  (try dsimp -zeta only)
  extract_lets +onlyGivenNames -merge -underBinder Gh
  obtain ⟨j3,Kb⟩:∃ z,z=Gh:=⟨Gh,rfl⟩
  rw [<- Kb]
  suffices J3:∀ st,SB kd a0 p lo x0 st->DS κ (arrOf st) lo t->wpS (model prog w) A E s (j3 ()) Q st by
    split
    · have gQ:∀ k,lo+t-(q+1)<=k->k<lo+t->kA κ (arrOf ag) k=kA κ (arrOf ag) (lo+t-1):=fun k b1 b2=>by
        have:=he (k-lo) (by omega) (by omega)
        rwa [show lo+(k-lo)=k by omega] at this
      refine wpS_bind (wpS_modify (J3 _ (hB.set (mirror_perm _ _ _ _) fun i hi=>rN bS i (by omega)) fun i j bz hj=>?_))
      show κ.kle (kA κ (mirror (arrOf ag) _ _ _) _) (kA κ (mirror (arrOf ag) _ _ _) _)
      rw [pQ bS gQ,pQ bS gQ]
      exact hd i j bz hj
    · exact J3 _ hB hd
  clear hB hd he bS
  intro st hB hd
  rw [Kb]
  (try dsimp -zeta only)
  have bS:lo+t<=(arrOf st).size:=by rw [hB.size];omega
  refine wpS_bind (wpS_modify ?_)
  have iD:SB kd a0 p lo x0 (setArr st (mirror (arrOf st) lo (lo+t) ((lo+t-lo) / 2))):=hB.set (mirror_perm _ _ _ _) fun i hi=>rN bS i hi
  refine wpS_bind (wpS_mono (F0 C k0 iD t1 t2 hr (fun i j bz hj=>?_) _ fun x n Q h1 h2 q1 q2=>?_) ?_)
  · show κ.kle (kA κ (mirror (arrOf st) _ _ _) _) (kA κ (mirror (arrOf st) _ _ _) _)
    rw [v7 bS,v7 bS,if_pos (by omega),if_pos (by omega)]
    have:=hd (t-1-j) (t-1-i) (by omega) (by omega)
    rwa [show lo+(t-1-i)=lo+(lo+t)-1-(lo+i) by omega,show lo+(t-1-j)=lo+(lo+t)-1-(lo+j) by omega] at this
  · (with_reducible conv=>arg 5;whnf)
    refine wpS_bind (nV C k0 iD (by omega) (by omega) ?_)
    (try dsimp -zeta only)
    cases e : κ.blt (kA κ (arrOf (setArr st (mirror (arrOf st) lo (lo+t) ((lo+t-lo) / 2)))) (lo+n)) (kA κ (arrOf (setArr st (mirror (arrOf st) lo (lo+t) ((lo+t-lo) / 2)))) (lo+n-1)) with
    | true=>rw [if_pos rfl];exact wpS_pure (q1 e)
    | false=>rw [if_neg (by decide)];(with_reducible conv=>arg 5;whnf);exact wpS_pure (q2 e)
  · rintro c ag ⟨rfl,m,rfl,b1,b2,hs,_⟩
    (with_reducible conv=>arg 5;whnf)
    (try dsimp -zeta only)
    exact wpS_pure (h m _ iD (by omega) b2 hs)
end
end So
namespace So
open PySem PyProof.Rows
section
variable {prog:Program} {w:World} {A:Around} {E:Value->Shared->Prop} {s:Shared} {kd:SortKind} {κ:KeyKind} {a0 x0:Array Keyed} {p:Array (Nat×Nat×Nat)} {lo:Nat}
theorem Gi (C:gk prog w A E s kd κ) (k0:Kd κ a0.toList) {st:SortSt} (hB:SB kd a0 p lo x0 st) {n ok:Nat} {Q:Bool->SortSt->Prop} (hn:lo+n<=a0.size) (aF:ok<=n) (hs:SS κ (arrOf st) lo ok)
    (h:∀ ag,SB kd a0 p lo x0 ag->SS κ (arrOf ag) lo n->Q true ag):wpS (model prog w) A E s (binarySort' lo n ok) Q st:=by
  refine wpS_bind (wpS_mono (wpS_forRange (I:=fun t c ag=>c=(none,())/\SB kd a0 p lo x0 ag/\SS κ (arrOf ag) lo (min t n))
    (Q:=fun c ag=>c=(none,())/\SB kd a0 p lo x0 ag/\SS κ (arrOf ag) lo n) ?_ ?_ ⟨rfl,hB,fun i j bz hj=>?_⟩) ?_)
  · rintro t c ag t1 t2 ⟨rfl,hB,hs⟩
    rw [show min t n=t by omega] at hs
    (with_reducible conv=>arg 5;whnf)
    refine wpS_bind (wpS_mono (wpS_forRange (I:=fun x c aK=>aK=ag/\∃ l r,c=(none,l,r)/\l<=r/\r<=t/\r-l<=t-x/\(∀ i,i<l -> κ.kle (kA κ (arrOf ag) (lo+i)) (kA κ (arrOf ag) (lo+t)))/\(∀ i,r<=i->i<t -> κ.klt (kA κ (arrOf ag) (lo+t)) (kA κ (arrOf ag) (lo+i))))
      (Q:=fun c aK=>aK=ag/\∃ l,c=(none,l,l)/\l<=t/\(∀ i,i<l -> κ.kle (kA κ (arrOf ag) (lo+i)) (kA κ (arrOf ag) (lo+t)))/\(∀ i,l<=i->i<t -> κ.klt (kA κ (arrOf ag) (lo+t)) (kA κ (arrOf ag) (lo+i)))) ?_ ?_ ⟨rfl,0,t,rfl,by omega,by omega,by omega,fun i z=>by omega,fun i z1 z2=>by omega⟩) ?_)
    · rintro x c aK _ hx ⟨rfl,l,r,rfl,a1,a2,a3,a4,a5⟩
      (with_reducible conv=>arg 5;whnf)
      (try dsimp -zeta only)
      by_cases hg:l >= r
      · rw [if_pos hg]
        have:l=r:=by omega
        subst this
        exact wpS_pure ⟨rfl,l,rfl,a2,a4,a5⟩
      · rw [if_neg hg]
        (with_reducible conv=>arg 5;whnf)
        refine wpS_bind (nV C k0 hB (by omega) (by omega) ?_)
        (try dsimp -zeta only)
        cases e : κ.blt (kA κ (arrOf aK) (lo+t)) (kA κ (arrOf aK) (lo+(l+r) / 2)) with
        | true =>
          rw [if_pos rfl]
          (with_reducible conv=>arg 5;whnf)
          exact wpS_pure ⟨rfl,l,(l+r) / 2,rfl,by omega,by omega,by omega,a4,fun i z1 z2=>KeyOrd.klt_of_klt_of_kle e (hs _ _ z1 z2)⟩
        | false =>
          rw [if_neg (by decide)]
          (with_reducible conv=>arg 5;whnf)
          exact wpS_pure ⟨rfl,(l+r) / 2+1,r,rfl,by omega,by omega,by omega,fun i z=>KeyOrd.kle_trans (hs i ((l+r) / 2) (by omega) (by omega)) e,a5⟩
    · rintro c aK ⟨rfl,l,r,rfl,a1,a2,a3,a4,a5⟩
      have:l=r:=by omega
      subst this
      exact ⟨rfl,l,rfl,a2,a4,a5⟩
    · rintro c aK ⟨rfl,l,rfl,a2,a4,a5⟩
      (with_reducible conv=>arg 5;whnf)
      (try dsimp -zeta only)
      have bS:lo+t<(arrOf aK).size:=by rw [hB.size];omega
      refine wpS_bind (wpS_modify (wpS_pure ⟨rfl,hB.set (bubble_perm _ _ _) fun i hi=>NZ bS (by omega) i (by omega),?_⟩))
      rw [show min (t+1) n=t+1 by omega]
      intro i j bz hj
      show κ.kle (kA κ (bubble (arrOf aK) (lo+t) (lo+t-(lo+l))) _) (kA κ (bubble (arrOf aK) (lo+t) (lo+t-(lo+l))) _)
      rw [Dw bS (by omega),Dw bS (by omega),show lo+t-(lo+t-(lo+l))=lo+l by omega]
      repeat' split
      all_goals first
        | (exfalso;omega)
        | exact KeyOrd.kle_refl _
        | exact a4 _ (by omega)
        | exact hs _ _ (by omega) (by omega)
        | (have z:=a5 (j-1) (by omega) (by omega);rw [show lo+(j-1)=lo+j-1 by omega] at z;exact KeyOrd.kle_of_klt z)
        | (have z:=hs (i-1) (j-1) (by omega) (by omega);rw [show lo+(i-1)=lo+i-1 by omega,show lo+(j-1)=lo+j-1 by omega] at z;exact z)
        | (have z:=hs i (j-1) (by omega) (by omega);rw [show lo+(j-1)=lo+j-1 by omega] at z;exact z)
  · rintro c ag ⟨rfl,hB,hs⟩
    rw [show min (max (max ok 1) n) n=n by omega] at hs
    exact ⟨rfl,hB,hs⟩
  · by_cases e:ok=0
    · have:i=j:=by omega
      subst this;exact KeyOrd.kle_refl _
    · exact hs i j bz (by omega)
  · rintro c ag ⟨rfl,hB,hs⟩
    (with_reducible conv=>arg 5;whnf)
    (try dsimp -zeta only)
    exact wpS_pure (h ag hB hs)
theorem DY {α:Type} (sa:Nat):∀ (m:List α) (k:Nat) (xs:Array α),sa+k+m.length<=xs.size->((m.zipIdx k).foldl (fun a x=>a.setIfInBounds (sa+x.2) x.1) xs).toList=xs.toList.take (sa+k)++m++xs.toList.drop (sa+k+m.length)
  | [],k,xs,h=>by
    rw [List.zipIdx_nil,List.foldl_nil,List.append_nil,List.length_nil,Nat.add_zero,List.take_append_drop]
  | x::m,k,xs,h=>by
    rw [List.length_cons] at h
    rw [List.zipIdx_cons,List.foldl_cons,DY sa m (k+1) _ (by rw [Array.size_setIfInBounds];omega),Array.toList_setIfInBounds]
    have hl:sa+k<xs.toList.length:=by rw [Array.length_toList];omega
    rw [show sa+(k+1)=sa+k+1 by omega,List.take_succ_eq_append_getElem (by rw [List.length_set];exact hl),List.getElem_set_self,List.take_set_of_le (Nat.le_refl _),List.drop_set_of_lt (by omega),List.length_cons,show sa+k+1+m.length=sa+k+(m.length+1) by omega]
    simp
theorem nI {arr:Array Keyed} {x:Keyed} {i n:Nat} (h:x ∈ (arr.extract i n).toList):∃ j,i<=j/\j<n/\arr[j]?=some x:=by
  rw [nU] at h
  exact xM h
theorem sH {arr:Array Keyed} {i n:Nat} (h:∀ a b,i<=a->a<=b->b<n -> κ.kle (kA κ arr a) (kA κ arr b)) (hn:n<=arr.size):dg κ (arr.extract i n).toList:=by
  unfold dg
  rw [List.pairwise_iff_getElem]
  intro a b ha hb cg
  have get:∀ c (hc:c<(arr.extract i n).toList.length),arr[i+c]?=some ((arr.extract i n).toList[c]):=fun c hc=>by
    have e1:(arr.extract i n).toList[c]?=some ((arr.extract i n).toList[c]):=List.getElem?_eq_getElem hc
    have e3:c<(arr.extract i n).size:=by rw [<- Array.length_toList];exact hc
    rw [Array.size_extract] at e3
    rw [<- e1,nU,List.getElem?_drop,List.getElem?_take,if_pos (by omega),Array.getElem?_toList]
  have lb:b<(arr.extract i n).size:=by rw [<- Array.length_toList];exact hb
  rw [Array.size_extract] at lb
  have:=h (i+a) (i+b) (by omega) (by omega) (by omega)
  rwa [bD (get a ha),bD (get b hb)] at this
end
end So
namespace So
open PySem PyProof.Rows
section
variable {prog:Program} {w:World} {A:Around} {E:Value->Shared->Prop} {s:Shared} {kd:SortKind} {κ:KeyKind} {a0 x0:Array Keyed}
theorem EW {arr:Array Keyed} {n1 n:Nat} (h1:SS κ arr 0 n1) (h2:SS κ arr n1 (n-n1)) (h:∀ i j,i<n1->n1<=j->j<n -> κ.kle (kA κ arr i) (kA κ arr j)):∀ i j,i<=j->j<n -> κ.kle (kA κ arr i) (kA κ arr j):=fun i j bz hj=>by
  by_cases z1:j<n1
  · have:=h1 i j bz z1
    rwa [Nat.zero_add,Nat.zero_add] at this
  · by_cases z2:i<n1
    · exact h i j z2 (by omega) hj
    · have:=h2 (i-n1) (j-n1) (by omega) (by omega)
      rwa [show n1+(i-n1)=i by omega,show n1+(j-n1)=j by omega] at this
structure yR (kd:SortKind) (κ:KeyKind) (a0:Array Keyed) (st:SortSt):Prop where
  perm:(arrOf st).Perm a0
  fail:failedOf st=none
  one:(pendingOf st).size=1
  qZ:∀ i j,i<=j->j<a0.size -> κ.kle (kA κ (arrOf st) i) (kA κ (arrOf st) j)
theorem Np (C:gk prog w A E s kd κ) (k0:Kd κ a0.toList) {st:SortSt} {n1 pw q:Nat} (hB:SB kd a0 #[(0,n1,pw),(n1,a0.size-n1,q)] 0 x0 st) {Q:Bool->SortSt->Prop} (h1 : 1<=n1) (h2:n1<a0.size) (s1:SS κ (arrOf st) 0 n1) (s2:SS κ (arrOf st) n1 (a0.size-n1))
    (h:∀ ag,yR kd κ a0 ag->Q true ag):wpS (model prog w) A E s (mergeAt' 0) Q st:=by
  have sz:=hB.size
  have kk:=hB.keys k0
  refine wpS_bind (wpS_get ?_)
  (try dsimp -zeta only)
  have e0:(pendingOf st)[0]?=some (0,n1,pw):=by rw [hB.pend];rfl
  have e1:(pendingOf st)[0+1]?=some (n1,a0.size-n1,q):=by rw [hB.pend];rfl
  obtain ⟨P,eP,hP⟩:∃ P,((pendingOf st).setIfInBounds 0 (0,n1+(a0.size-n1),pw)).eraseIdxIfInBounds (0+1)=P/\P.size=1:=⟨_,rfl,by rw [hB.pend];simp [Array.eraseIdxIfInBounds]⟩
  show wpS (model prog w) A E s (match ((pendingOf st)[0]?,(pendingOf st)[0+1]?) with | _=>_) Q st
  rw [e0,e1]
  (try dsimp -zeta only)
  refine wpS_bind ?_
  show wpS (model prog w) A E s (set (SortSt.mk' (kindOf st) (arrOf st) (((pendingOf st).setIfInBounds 0 (0,n1+(a0.size-n1),pw)).eraseIdxIfInBounds (0+1)) (gallopOf st) (failedOf st))) _ st
  rw [eP]
  unfold wpS
  rw [StateT.run_set]
  refine wpAny_pure ⟨rfl,?_⟩
  show wpS (model prog w) A E s _ Q (SortSt.mk' (kindOf st) (arrOf st) P (gallopOf st) (failedOf st))
  obtain ⟨xb,eb,mb⟩:=dm (arr:=arrOf st) (i:=n1) (by omega)
  refine wpS_bind (cK eb ?_)
  refine wpS_bind (v5 C (arr:=arrOf st) (key:=xb) hB.kind (kk _ mb) kk (by omega) (by omega) (fun i j bz hj=>s1 i j bz hj) fun k k1 k2 k3=>?_)
  simp only [Nat.zero_add] at k2 k3
  (try dsimp -zeta only)
  have up:∀ i j,n1<=i->i<=j->j<a0.size -> κ.kle (kA κ (arrOf st) i) (kA κ (arrOf st) j):=fun i j z1 z2 z3=>by
    have:=s2 (i-n1) (j-n1) (by omega) (by omega)
    rwa [show n1+(i-n1)=i by omega,show n1+(j-n1)=j by omega] at this
  have dn:∀ i j,i<=j->j<n1 -> κ.kle (kA κ (arrOf st) i) (kA κ (arrOf st) j):=fun i j z1 z2=>by
    have:=s1 i j z1 z2
    rwa [Nat.zero_add,Nat.zero_add] at this
  by_cases hz:(n1-k==0)=true
  · rw [if_pos hz]
    have dU:=beq_iff_eq.mp hz
    refine wpS_pure (h _ ⟨hB.perm,hB.fail,hP,EW s1 s2 fun i j z1 z2 z3=>?_⟩)
    have:=k2 i (by omega)
    rw [<- bD (κ:=κ) eb] at this
    exact KeyOrd.kle_trans this (up n1 j (Nat.le_refl _) z2 z3)
  rw [if_neg hz]
  have dU:n1-k ≠ 0:=fun z=>hz (beq_iff_eq.mpr z)
  obtain ⟨xa,ea,ma⟩:=dm (arr:=arrOf st) (i:=0+k+(n1-k)-1) (by omega)
  refine wpS_bind (cK ea ?_)
  rw [show 0+k+(n1-k)-1=n1-1 by omega] at ea
  refine wpS_bind (wD C (arr:=arrOf st) (key:=xa) hB.kind (kk _ ma) kk (by omega) (by omega) (fun i j bz hj=>s2 i j bz hj) fun l l1 l2 l3=>?_)
  (try dsimp -zeta only)
  by_cases hy:(l==0)=true
  · rw [if_pos hy]
    have cf:=beq_iff_eq.mp hy
    refine wpS_pure (h _ ⟨hB.perm,hB.fail,hP,EW s1 s2 fun i j z1 z2 z3=>?_⟩)
    have:=l3 (j-n1) (by omega) (by omega)
    rw [<- bD (κ:=κ) ea,show n1+(j-n1)=j by omega] at this
    exact KeyOrd.kle_trans (dn i (n1-1) (by omega) (by omega)) this
  rw [if_neg hy]
  have cf:l ≠ 0:=fun z=>hy (beq_iff_eq.mpr z)
  (extract_lets +onlyGivenNames -merge -underBinder SU SV;subst SU SV)
  extract_lets +onlyGivenNames -merge -underBinder ya
  obtain ⟨jp,dW⟩:∃ z,z=ya:=⟨ya,rfl⟩
  rw [<- dW]
  unfold ya at dW
  rw [Nat.zero_add] at dW ⊢
  have sA:dg κ ((arrOf st).extract k n1).toList:=sH (fun a b z1 z2 z3=>dn a b z2 z3) (by omega)
  have sB:dg κ ((arrOf st).extract n1 (n1+l)).toList:=sH (fun a b z1 z2 z3=>up a b z1 z2 (by omega)) (by omega)
  have Kc:Kd κ ((arrOf st).extract k n1).toList:=fun x hx=>by
    obtain ⟨j,_,_,e⟩:=nI hx
    exact kk x (by have:=List.mem_of_getElem? (by rw [Array.getElem?_toList];exact e:(arrOf st).toList[j]?=some x);exact this)
  have Ke:Kd κ ((arrOf st).extract n1 (n1+l)).toList:=fun x hx=>by
    obtain ⟨j,_,_,e⟩:=nI hx
    exact kk x (by have:=List.mem_of_getElem? (by rw [Array.getElem?_toList];exact e:(arrOf st).toList[j]?=some x);exact this)
  have zA:((arrOf st).extract k n1).size=n1-k:=by rw [Array.size_extract];omega
  have zB:((arrOf st).extract n1 (n1+l)).size=l:=by rw [Array.size_extract];omega
  have gA:∀ i,i<n1-k->((arrOf st).extract k n1)[i]?=(arrOf st)[k+i]?:=fun i hi=>by rw [Array.getElem?_extract,if_pos (by omega)]
  have gB:∀ i,i<l->((arrOf st).extract n1 (n1+l))[i]?=(arrOf st)[n1+i]?:=fun i hi=>by rw [Array.getElem?_extract,if_pos (by omega)]
  have first:∀ x y,((arrOf st).extract n1 (n1+l))[0]?=some x->((arrOf st).extract k n1)[0]?=some y -> κ.kle (kf κ x) (kf κ y):=fun x y ex ey=>by
    rw [gB 0 (by omega)] at ex
    rw [gA 0 (by omega)] at ey
    have:=k3 k (Nat.le_refl _) (by omega)
    rw [<- bD (κ:=κ) eb] at this
    rw [<- bD (κ:=κ) ex,<- bD (κ:=κ) ey]
    exact KeyOrd.kle_of_klt this
  have last:∀ x ∈ ((arrOf st).extract n1 (n1+l)).toList,∀ y,((arrOf st).extract k n1)[((arrOf st).extract k n1).size-1]?=some y -> κ.kle (kf κ x) (kf κ y):=fun x hx y ey=>by
    obtain ⟨j,j1,j2,e⟩:=nI hx
    rw [zA,gA _ (by omega),show k+(n1-k-1)=n1-1 by omega,ea] at ey
    cases ey
    have:=l2 (j-n1) (by omega)
    rw [show n1+(j-n1)=j by omega,bD e] at this
    exact KeyOrd.kle_of_klt this
  suffices J:∀ (m:Array Keyed) g,Gd κ ((arrOf st).extract k n1).toList ((arrOf st).extract n1 (n1+l)).toList m.toList->wpS (model prog w) A E s (jp m) Q (dc (SortSt.mk' (kindOf st) (arrOf st) P (gallopOf st) (failedOf st)) g) by
    split
    · exact wpS_bind (QN C (a:=(arrOf st).extract k n1) (b:=(arrOf st).extract n1 (n1+l)) hB.kind Kc Ke sA sB (by rw [zA];omega) (by rw [zB];omega) first last J)
    · exact wpS_bind (QY C (a:=(arrOf st).extract k n1) (b:=(arrOf st).extract n1 (n1+l)) hB.kind Kc Ke sA sB (by rw [zA];omega) (by rw [zB];omega) first last J)
  intro m g gd
  rw [dW]
  (try dsimp -zeta only)
  have lm:m.toList.length=(n1-k)+l:=by
    rw [gd.1.length_eq,List.length_append,Array.length_toList,Array.length_toList,zA,zB]
  have eL:=DY k m.toList 0 (arrOf st) (by omega)
  rw [Nat.add_zero,lm,show k+(n1-k+l)=n1+l by omega] at eL
  refine wpS_bind (wpS_modify (wpS_bind (wpS_get ?_)))
  have fin:∀ xs:Array Keyed,xs.toList=(arrOf st).toList.take k++m.toList++(arrOf st).toList.drop (n1+l)->xs.Perm a0/\∀ i j,i<=j->j<a0.size -> κ.kle (kA κ xs i) (kA κ xs j):=fun xs ex=>by
    have hp:xs.toList.Perm (arrOf st).toList:=by
      rw [ex]
      have e1:(arrOf st).toList=(arrOf st).toList.take k++(((arrOf st).extract k n1).toList++((arrOf st).extract n1 (n1+l)).toList)++(arrOf st).toList.drop (n1+l):=by
        rw [nU,nU]
        have t1:(arrOf st).toList.take k++((arrOf st).toList.take n1).drop k=(arrOf st).toList.take n1:=by
          have:=List.take_append_drop k ((arrOf st).toList.take n1)
          rwa [List.take_take,Nat.min_eq_left (by omega)] at this
        have t2:(arrOf st).toList.take n1++((arrOf st).toList.take (n1+l)).drop n1=(arrOf st).toList.take (n1+l):=by
          have:=List.take_append_drop n1 ((arrOf st).toList.take (n1+l))
          rwa [List.take_take,Nat.min_eq_left (by omega)] at this
        rw [<- List.append_assoc,t1,t2,List.take_append_drop]
      exact (List.Perm.append_right _ (List.Perm.append_left _ gd.1)).trans (by rw [<- e1])
    refine ⟨(Array.perm_iff_toList_perm.mpr hp).trans hB.perm,fun i j bz hj=>?_⟩
    have hs:dg κ xs.toList:=by
      rw [ex]
      have mm:∀ x ∈ m.toList,(∃ j,k<=j/\j<n1/\(arrOf st)[j]?=some x)\/(∃ j,n1<=j/\j<n1+l/\(arrOf st)[j]?=some x):=fun x hx=>by
        rcases List.mem_append.mp (gd.1.mem_iff.mp hx) with z | z
        · exact .inl (nI z)
        · exact .inr (nI z)
      have mT:∀ x ∈ (arrOf st).toList.take k,∃ j,j<k/\(arrOf st)[j]?=some x:=fun x hx=>kS hx
      have mD:∀ x ∈ (arrOf st).toList.drop (n1+l),∃ j,n1+l<=j/\j<a0.size/\(arrOf st)[j]?=some x:=fun x hx=>by
        rw [<- nH] at hx
        obtain ⟨j,j1,j2,e⟩:=nI hx
        exact ⟨j,j1,by omega,e⟩
      refine cF.mpr ⟨cF.mpr ⟨?_,gd.2,fun x hx y hy=>?_⟩,?_,fun x hx y hy=>?_⟩
      · rw [<- p8]
        exact sH (fun a b z1 z2 z3=>dn a b z2 (by omega)) (by omega)
      · obtain ⟨i,i1,ei⟩:=mT x hx
        rw [<- bD (κ:=κ) ei]
        rcases mm y hy with ⟨j,j1,j2,ej⟩ | ⟨j,j1,j2,ej⟩
        · rw [<- bD (κ:=κ) ej]
          exact dn i j (by omega) j2
        · rw [<- bD (κ:=κ) ej]
          have:=k2 i i1
          rw [<- bD (κ:=κ) eb] at this
          exact KeyOrd.kle_trans this (up n1 j (Nat.le_refl _) j1 (by omega))
      · rw [<- nH]
        exact sH (fun a b z1 z2 z3=>up a b (by omega) z2 (by omega)) (Nat.le_refl _)
      · obtain ⟨j,j1,j2,ej⟩:=mD y hy
        rw [<- bD (κ:=κ) ej]
        have tail:∀ i,i<n1 -> κ.kle (kA κ (arrOf st) i) (kA κ (arrOf st) j):=fun i hi=>by
          have:=l3 (j-n1) (by omega) (by omega)
          rw [<- bD (κ:=κ) ea,show n1+(j-n1)=j by omega] at this
          exact KeyOrd.kle_trans (dn i (n1-1) (by omega) (by omega)) this
        rcases List.mem_append.mp hx with z | z
        · obtain ⟨i,i1,ei⟩:=mT x z
          rw [<- bD (κ:=κ) ei]
          exact tail i (by omega)
        · rcases mm x z with ⟨i,i1,i2,ei⟩ | ⟨i,i1,i2,ei⟩
          · rw [<- bD (κ:=κ) ei]
            exact tail i i2
          · rw [<- bD (κ:=κ) ei]
            exact up i j i1 (by omega) j2
    refine jV hs bz ?_
    rw [<- Array.length_toList,hp.length_eq,Array.length_toList];omega
  obtain ⟨f1,f2⟩:=fin _ eL
  have:=wpS_pure (M:=model prog w) (A:=A) (E:=E) (s:=s) (a:=true) (Q:=Q) (h (SortSt.mk' (kindOf st) ((m.toList.zipIdx 0).foldl (fun a x=>a.setIfInBounds (k+x.2) x.1) (arrOf st)) P g (failedOf st)) ⟨f1,hB.fail,hP,f2⟩)
  show wpS (model prog w) A E s (pure (failedOf st).isNone) Q _
  have e:(failedOf st).isNone=true:=by rw [hB.fail];rfl
  rw [e]
  exact this
end
end So
namespace So
open PySem PyProof.Rows
theorem Rj {n:Nat} (h2 : 2<=n) (h:n<128):n<=2*minRun' n n 0/\minRun' n n 0<=n:=by
  obtain ⟨f,rfl⟩:∃ f,n=f+2:=⟨n-2,by omega⟩
  have e:minRun' (f+2) (f+2) 0=if f+2<64 then f+2+0 else if (f+2) / 2<64 then (f+2) / 2+max 0 ((f+2) % 2) else minRun' f ((f+2) / 2 / 2) (max (max 0 ((f+2) % 2)) ((f+2) / 2 % 2)):=by
    rw [minRun'_succ,minRun'_succ]
  rw [e]
  split
  · omega
  · rw [if_pos (by omega)];omega
section
variable {prog:Program} {w:World} {A:Around} {E:Value->Shared->Prop} {s:Shared} {kd:SortKind} {κ:KeyKind} {a0:Array Keyed}
theorem PR (C:gk prog w A E s kd κ) (k0:Kd κ a0.toList) {st:SortSt} (hB:SB kd a0 #[] 0 a0 st) {Q:Unit->SortSt->Prop} (h2 : 2<=a0.size) (tU:a0.size<128)
    (h:∀ ag,(arrOf ag).Perm a0->failedOf ag=none->(∀ i j,i<=j->j<a0.size -> κ.kle (kA κ (arrOf ag) i) (kA κ (arrOf ag) j))->Q () ag):wpS (model prog w) A E s sortRuns' Q st:=by
  obtain ⟨m1,m2⟩:=Rj h2 tU
  refine wpS_bind (wpS_get ?_)
  show wpS (model prog w) A E s (have size:=(arrOf st).size;have aad:=minRun' size size 0;_) Q st
  rw [hB.size]
  (with_reducible conv=>arg 5;whnf)
  obtain ⟨mr,Kf⟩:∃ mr,minRun' a0.size a0.size 0=mr:=⟨_,rfl⟩
  rw [Kf] at m1 m2
  rw [show (sortPriv% PySem.Builtin.minRun) a0.size a0.size 0=mr from Kf]
  refine wpS_bind (wpS_mono (wpS_forRange (I:=fun t c ag=>(t=0/\c=(none,0)/\SB kd a0 #[] 0 a0 ag) \/
      (t=1/\∃ n1,c=(none,n1)/\1<=n1/\n1<=a0.size/\mr<=n1/\SB kd a0 #[(0,n1,0)] 0 a0 ag/\SS κ (arrOf ag) 0 n1) \/
      (2<=t/\∃ n1 pw,c=(none,a0.size)/\1<=n1/\n1<a0.size/\SB kd a0 #[(0,n1,pw),(n1,a0.size-n1,0)] 0 a0 ag/\SS κ (arrOf ag) 0 n1/\SS κ (arrOf ag) n1 (a0.size-n1)))
    (Q:=fun c ag=>c.1=none/\((SB kd a0 #[(0,a0.size,0)] 0 a0 ag/\SS κ (arrOf ag) 0 a0.size)\/∃ n1 pw,1<=n1/\n1<a0.size/\SB kd a0 #[(0,n1,pw),(n1,a0.size-n1,0)] 0 a0 ag/\SS κ (arrOf ag) 0 n1/\SS κ (arrOf ag) n1 (a0.size-n1))) ?_ ?_ (.inl ⟨rfl,rfl,hB⟩)) ?_)
  · rintro t c ag _ ht (⟨rfl,rfl,hB⟩ | ⟨rfl,n1,rfl,b1,b2,b3,hB,s1⟩ | ⟨t2,n1,pw,rfl,b1,b2,hB,s1,s2⟩)
    · (with_reducible conv=>arg 5;whnf)
      rw [if_neg (by show ¬ 0 >= a0.size;omega)]
      refine wpS_bind (Ge C k0 hB (by show 1<=a0.size-0;omega) (by show 0+(a0.size-0)<=a0.size;omega) fun m aK iD r1 r2 hs=>?_)
      (try dsimp -zeta only)
      (rw [show m=id m from rfl];extract_lets +onlyGivenNames -merge -underBinder UA;subst UA;(try dsimp -zeta only [id]))
      extract_lets +onlyGivenNames -merge -underBinder Hs
      obtain ⟨jp,dW⟩:∃ z,z=Hs:=⟨Hs,rfl⟩
      rw [<- dW]
      suffices J:∀ n aK,SB kd a0 #[] 0 a0 aK->1<=n->n<=a0.size->mr<=n->SS κ (arrOf aK) 0 n->wpS (model prog w) A E s (jp () n) _ aK by
        by_cases bx:m<mr
        · rw [if_pos bx]
          refine wpS_bind (wpS_lift (wpAny_rule ⟨rfl,?_⟩))
          (with_reducible conv=>arg 5;whnf)
          rw [show min (a0.size-0) mr=mr by omega]
          refine wpS_bind (Gi C k0 iD (by omega) (by omega) hs fun dJ zM gf=>?_)
          rw [if_neg (by decide)]
          (with_reducible conv=>arg 5;whnf)
          exact J _ _ zM (by omega) m2 (Nat.le_refl _) gf
        · rw [if_neg bx]
          have r2':m<=a0.size-0:=r2
          exact J _ _ iD r1 (by omega) (by omega) hs
      clear hB iD hs
      intro n aK hB r1 r2 r3 hs
      rw [dW]
      (try dsimp -zeta only)
      refine wpS_bind (wpS_get ?_)
      skip
      extract_lets +onlyGivenNames -merge -underBinder Ht
      obtain ⟨rd,hW⟩:∃ z,z=Ht:=⟨Ht,rfl⟩
      rw [<- hW]
      show wpS (model prog w) A E s (match (pendingOf aK).back? with | _=>_) _ aK
      rw [show (pendingOf aK).back?=none by rw [hB.pend];rfl]
      (try dsimp -zeta only)
      rw [hW]
      (try dsimp -zeta only)
      refine wpS_bind (wpS_modify ?_)
      (with_reducible conv=>arg 5;whnf)
      refine wpS_pure (.inr (.inl ⟨rfl,n,by show (none,0+n)=(none,n);rw [Nat.zero_add],r1,r2,r3,⟨hB.perm,hB.kind,hB.fail,?_,hB.low⟩,hs⟩))
      show (pendingOf aK).push _=_
      rw [hB.pend];rfl
    · (with_reducible conv=>arg 5;whnf)
      by_cases full:n1 >= a0.size
      · rw [if_pos (by exact full)]
        have:n1=a0.size:=by omega
        subst this
        exact wpS_pure ⟨rfl,.inl ⟨hB,s1⟩⟩
      rw [if_neg (by exact full)]
      have hB1:SB kd a0 #[(0,n1,0)] n1 (arrOf ag) ag:=⟨hB.perm,hB.kind,hB.fail,hB.pend,fun _ _=>rfl⟩
      refine wpS_bind (Ge C k0 hB1 (by show 1<=a0.size-n1;omega) (by show n1+(a0.size-n1)<=a0.size;omega) fun m aK iD r1 r2 hs=>?_)
      have r2':m<=a0.size-n1:=r2
      (try dsimp -zeta only)
      (rw [show m=id m from rfl];extract_lets +onlyGivenNames -merge -underBinder UB;subst UB;(try dsimp -zeta only [id]))
      extract_lets +onlyGivenNames -merge -underBinder Hu
      obtain ⟨jp,dW⟩:∃ z,z=Hu:=⟨Hu,rfl⟩
      rw [<- dW]
      suffices J:∀ aK,SB kd a0 #[(0,n1,0)] n1 (arrOf ag) aK->SS κ (arrOf aK) n1 (a0.size-n1)->wpS (model prog w) A E s (jp () (a0.size-n1)) _ aK by
        by_cases bx:m<mr
        · rw [if_pos bx]
          refine wpS_bind (wpS_lift (wpAny_rule ⟨rfl,?_⟩))
          (with_reducible conv=>arg 5;whnf)
          rw [show min (a0.size-n1) mr=a0.size-n1 by omega]
          refine wpS_bind (Gi C k0 iD (by omega) (by omega) hs fun dJ zM gf=>?_)
          rw [if_neg (by decide)]
          (with_reducible conv=>arg 5;whnf)
          exact J _ zM gf
        · rw [if_neg bx]
          have:m=a0.size-n1:=by omega
          subst this
          exact J _ iD hs
      clear hB iD hs
      intro aK hB hs
      have s1':SS κ (arrOf aK) 0 n1:=fun i j bz hj=>by
        have:=s1 i j bz hj
        rwa [kE (κ:=κ) (hB.low (0+i) (by omega)),kE (κ:=κ) (hB.low (0+j) (by omega))]
      rw [dW]
      (try dsimp -zeta only)
      refine wpS_bind (wpS_get ?_)
      skip
      extract_lets +onlyGivenNames -merge -underBinder Gj
      obtain ⟨rd,hW⟩:∃ z,z=Gj:=⟨Gj,rfl⟩
      rw [<- hW]
      show wpS (model prog w) A E s (match (pendingOf aK).back? with | _=>_) _ aK
      rw [show (pendingOf aK).back?=some (0,n1,0) by rw [hB.pend];rfl]
      (try dsimp -zeta only)
      (with_reducible conv=>arg 5;whnf)
      generalize (sortPriv% PySem.Builtin.power) a0.size (2*0+n1) (2*0+n1+n1+(a0.size-n1)) a0.size=pw
      refine wpS_bind (wpS_mono (wpS_forRange (I:=fun t c ag=>ag=aK/\c=(none,())) (Q:=fun c ag=>ag=aK/\c=(none,())) ?_ (fun c ag z=>z) ⟨rfl,rfl⟩) ?_)
      · rintro t c dJ _ _ ⟨rfl,rfl⟩
        refine wpS_bind (wpS_get ?_)
        show wpS (model prog w) A E s (match if (pendingOf dJ).size > 1 then (pendingOf dJ)[(pendingOf dJ).size-2]? else none with | _=>_) _ dJ
        rw [if_neg (by rw [hB.pend];show ¬ 1 > 1;omega)]
        exact wpS_pure ⟨rfl,rfl⟩
      · rintro c dJ ⟨rfl,rfl⟩
        (with_reducible conv=>arg 5;whnf)
        (try dsimp -zeta only)
        refine wpS_bind (wpS_modify ?_)
        rw [hW]
        (try dsimp -zeta only)
        refine wpS_bind (wpS_modify ?_)
        (with_reducible conv=>arg 5;whnf)
        refine wpS_pure (.inr (.inr ⟨Nat.le_refl _,n1,pw,by show (none,n1+(a0.size-n1))=(none,a0.size);rw [show n1+(a0.size-n1)=a0.size by omega],b1,by omega,⟨hB.perm,hB.kind,hB.fail,?_,fun i hi=>by omega⟩,s1',hs⟩))
        show ((pendingOf dJ).modify ((pendingOf dJ).size-1) _).push _=_
        rw [hB.pend];rfl
    · (with_reducible conv=>arg 5;whnf)
      rw [if_pos (by show a0.size >= a0.size;exact Nat.le_refl _)]
      exact wpS_pure ⟨rfl,.inr ⟨n1,pw,b1,b2,hB,s1,s2⟩⟩
  · rintro c ag (⟨z,_⟩ | ⟨z,_⟩ | ⟨t2,n1,pw,rfl,b1,b2,hB,s1,s2⟩)
    · omega
    · omega
    · exact ⟨rfl,.inr ⟨n1,pw,b1,b2,hB,s1,s2⟩⟩
  · rintro c ag ⟨e,uw⟩
    obtain ⟨c1,c2⟩:=c
    simp only at e
    subst e
    (with_reducible conv=>arg 5;whnf)
    (try dsimp -zeta only)
    refine wpS_bind (wpS_mono (wpS_forRange (I:=fun t c aK=>c=(none,())/\((t=0/\aK=ag)\/(yR kd κ a0 aK)))
      (Q:=fun c aK=>c=(none,())/\yR kd κ a0 aK) ?_ ?_ ⟨rfl,.inl ⟨rfl,rfl⟩⟩) ?_)
    · rintro t c aK _ ht ⟨rfl,z⟩
      (try dsimp -zeta only)
      refine wpS_bind (wpS_get ?_)
      show wpS (model prog w) A E s (have p:=pendingOf aK;_) _ aK
      rcases z with ⟨rfl,rfl⟩ | f
      · rcases uw with ⟨hB,hs⟩ | ⟨n1,pw,b1,b2,hB,s1,s2⟩
        · have hp1:(pendingOf aK).size=1:=by rw [hB.pend];rfl
          (with_reducible conv=>arg 5;whnf)
          rw [if_pos (by show (pendingOf aK).size<=1;omega)]
          exact wpS_pure ⟨rfl,⟨hB.perm,hB.fail,by rw [hB.pend];rfl,fun i j bz hj=>by have:=hs i j bz hj;rwa [Nat.zero_add,Nat.zero_add] at this⟩⟩
        · have hp2:(pendingOf aK).size=2:=by rw [hB.pend];rfl
          (with_reducible conv=>arg 5;whnf)
          rw [if_neg (by show ¬ (pendingOf aK).size<=1;omega)]
          (with_reducible conv=>arg 5;whnf)
          refine wpS_bind ?_
          show wpS (model prog w) A E s (mergeAt' (if Option.any _ (if (pendingOf aK).size-2 > 0 then _ else none)=true then _ else (pendingOf aK).size-2)) _ aK
          rw [if_neg (c:=(pendingOf aK).size-2 > 0) (by omega),if_neg (by rw [Option.any_none];decide),hp2]
          refine Np C k0 hB b1 b2 s1 s2 fun dJ f=>?_
          rw [if_neg (by decide)]
          exact wpS_pure ⟨rfl,.inr f⟩
      · (with_reducible conv=>arg 5;whnf)
        rw [if_pos (by show (pendingOf aK).size<=1;rw [f.one];decide)]
        exact wpS_pure ⟨rfl,f⟩
    · rintro c aK ⟨rfl,z⟩
      rcases z with ⟨z,_⟩ | f
      · omega
      · exact ⟨rfl,f⟩
    · rintro c aK ⟨rfl,f⟩
      (with_reducible conv=>arg 5;whnf)
      (try dsimp -zeta only)
      exact wpS_pure (h aK f.perm f.fail f.qZ)
end
end So
namespace So
open PySem PyProof.Rows
def lexLt:List Int->List Int->Bool
  | [],[] => false
  | [],_::_=>true
  | _::_,[] => false
  | x::xs,y::ys=>if x=y then lexLt xs ys else decide (x<y)
theorem xi:∀ a,lexLt a a=false
  | [] => rfl
  | x::xs=>by unfold lexLt;rw [if_pos rfl];exact xi xs
theorem xN:∀ a b c,lexLt a b=true->lexLt b c=true->lexLt a c=true
  | [],[],_,h,_=>by cases h
  | [],_::_,[],_,h=>by cases h
  | [],_::_,_::_,_,_=>rfl
  | _::_,[],_,h,_=>by cases h
  | _::_,_::_,[],_,h=>by cases h
  | x::xs,y::ys,z::zs,h1,h2=>by
    unfold lexLt at h1 h2 ⊢
    by_cases e1:x=y
    · subst e1
      rw [if_pos rfl] at h1
      by_cases e2:x=z
      · subst e2
        rw [if_pos rfl] at h2 ⊢
        exact xN xs ys zs h1 h2
      · rw [if_neg e2] at h2 ⊢;exact h2
    · rw [if_neg e1] at h1
      have:=of_decide_eq_true h1
      by_cases e2:y=z
      · subst e2
        rw [if_neg e1];exact h1
      · rw [if_neg e2] at h2
        have:=of_decide_eq_true h2
        rw [if_neg (by omega)]
        exact decide_eq_true (by omega)
theorem xO:∀ a b c,lexLt a c=true->lexLt a b=true\/lexLt b c=true
  | [],[],c,h=>.inr h
  | [],_::_,_,_=>.inl rfl
  | _::_,_,[],h=>by cases h
  | _::_,[],_::_,_=>.inr rfl
  | x::xs,y::ys,z::zs,h=>by
    unfold lexLt at h ⊢
    by_cases e1:x=y
    · subst e1
      rw [if_pos rfl]
      by_cases e2:x=z
      · subst e2
        rw [if_pos rfl] at h ⊢
        exact xO xs ys zs h
      · rw [if_neg e2] at h ⊢;exact .inr h
    · rw [if_neg e1]
      by_cases e2:x=z
      · subst e2
        rw [if_neg (fun z=>e1 z.symm)]
        rcases Int.lt_or_le x y with q | q
        · exact .inl (decide_eq_true q)
        · exact .inr (decide_eq_true (by omega))
      · rw [if_neg e2] at h
        have:=of_decide_eq_true h
        rcases Int.lt_or_le x y with q | q
        · exact .inl (decide_eq_true q)
        · refine .inr ?_
          rw [if_neg (by omega)]
          exact decide_eq_true (by omega)
theorem xj:∀ a b,lexLt a b=false->lexLt b a=false->a=b
  | [],[],_,_=>rfl
  | [],_::_,h,_=>by cases h
  | _::_,[],_,h=>by cases h
  | x::xs,y::ys,h1,h2=>by
    unfold lexLt at h1 h2
    by_cases e1:x=y
    · subst e1
      rw [if_pos rfl] at h1 h2
      rw [xj xs ys h1 h2]
    · rw [if_neg e1] at h1
      rw [if_neg (fun z=>e1 z.symm)] at h2
      have:=of_decide_eq_false h1
      have:=of_decide_eq_false h2
      omega
def intsOf:List Value->Option (List Int)
  | [] => some []
  | .int n _::r=>(intsOf r).map (n :: ·)
  | _::_=>none
def cO (h:Heap):Value->Option (List Int)
  | .ref t=>match h.get? t with
    | some ⟨.type "tuple",_,.seq vs _,_⟩=>intsOf vs.toList
    | _=>none
  | _=>none
def iE (h:Heap):KeyKind:={ α:=List Int,blt:=lexLt,irrefl:=xi,trans:=xN,negTrans:=xO,total:=xj,keyOf:=cO h,dflt:=[] }
theorem ints_of {vs:List Value} {ns:List Int} (h:IntsAre vs ns):intsOf vs=some ns:=by
  induction h with
  | nil=>rfl
  | cons n t _ ih=>show (intsOf _).map _=_;rw [ih];rfl
theorem EX:∀ {vs:List Value} {ns:List Int},intsOf vs=some ns->IntsAre vs ns
  | [],_,h=>by cases h;exact .nil
  | .int n t::r,_,h=>by
    have h':(intsOf r).map (n :: ·)=some _:=h
    cases e:intsOf r with
    | none=>rw [e] at h';cases h'
    | some ms=>rw [e] at h';cases h';exact .cons n t (EX e)
  | .none::_,_,h=>by cases h
  | .ellipsis::_,_,h=>by cases h
  | .notImplemented::_,_,h=>by cases h
  | .bool _::_,_,h=>by cases h
  | .float _ _::_,_,h=>by cases h
  | .str _ _::_,_,h=>by cases h
  | .bytes _ _::_,_,h=>by cases h
  | .type _::_,_,h=>by cases h
  | .builtin _::_,_,h=>by cases h
  | .ref _::_,_,h=>by cases h
theorem Gk {h:Heap} {t:Addr} {ws:List Value} {ns:List Int} (p:IsTup h t ws.toArray) (q:IntsAre ws ns):cO h (.ref t)=some ns:=by
  obtain ⟨⟨c,d,dt,sl⟩,ho,hc,n,hd⟩:=p
  simp only at hc hd
  subst hc hd
  show (match h.get? t with | some ⟨.type "tuple",_,.seq vs _,_⟩=>intsOf vs.toList | _=>none)=_
  rw [ho]
  exact ints_of q
theorem sS {h:Heap} {v:Value} {ns:List Int} (e:cO h v=some ns):∃ t ws,v=.ref t/\IsTup h t ws.toArray/\IntsAre ws ns:=by
  unfold cO at e
  split at e
  next t =>
    split at e
    next o d vs n sl ho=>exact ⟨t,vs.toList,rfl,⟨_,ho,rfl,n,by rw [Array.toArray_toList]⟩,EX e⟩
    next=>cases e
  next=>cases e
section
variable {prog:Program} {w:World} {A:Around} {E:Value->Shared->Prop} {s:Shared}
theorem v8 {t:Addr} {ws:Array Value} {Q:Array Value->Shared->Prop} (p:IsTup s.heap t ws) (h:Q ws s):wpAny (model prog w) A (Builtin.List.listItems (.ref t)) Q E s:=by
  obtain ⟨o,ho,hc,n,hd⟩:=p
  exact listItems_at ho hd h
theorem Rk {a b:Int} {t u:Tok} {Q:Bool->Shared->Prop} (h:Q (decide (a<b)) s):wpAny (model prog w) A (oneLt' false (.int a t) (.int b u)) Q E s:=by
  rw [oneLt'_eq]
  simp only [Bool.false_eq_true,if_false]
  refine wpAny_bind ?_
  exact wpAny_lt_int (wpAny_truthy_bool h)
theorem Rl {a b:Int} {t u:Tok} {c:Bool} {Q:Bool->Shared->Prop} (h:Q (decide (a<b)) s):wpAny (model prog w) A (oneLt' c (.int a t) (.int b u)) Q E s:=by
  cases c with
  | true=>exact oneLt_int h
  | false=>exact Rk h
theorem EY {g:((Value×Value)×Nat)->(Option Bool×Unit)->Sem (ForInStep (Option Bool×Unit))}
    (hg:∀ (m n:Int) (t t':Tok) (i:Nat) (Q:ForInStep (Option Bool×Unit)->Shared->Prop),(m ≠ n->Q (.done (some (decide (m<n)),())) s)->(m=n->Q (.yield (none,())) s)->wpAny (model prog w) A (g ((.int m t,.int n t'),i) (none,())) Q E s) :
    ∀ {us vs:List Value} {ms ns:List Int},IntsAre us ms->IntsAre vs ns->∀ (k:Nat) (Q:Option Bool×Unit->Shared->Prop),(lexLt ms ns=decide (us.length<vs.length)->Q (none,()) s)->Q (some (lexLt ms ns),()) s ->
      wpAny (model prog w) A (forIn ((us.zip vs).zipIdx k) ((none,()):Option Bool×Unit) g) Q E s
  | [],[],_,_,.nil,.nil,k,Q,h,_=>wpAny_pure (h rfl)
  | [],_::_,_,_,.nil,.cons n t hr,k,Q,h,_=>wpAny_pure (h (by rw [decide_eq_true (by simp)];rfl))
  | _::_,[],_,_,.cons n t hr,.nil,k,Q,h,_=>wpAny_pure (h (by rw [decide_eq_false (by simp)];rfl))
  | _::us,_::vs,_,_,.cons m t hu,.cons n t' hv,k,Q,h,h2=>by
    rw [List.zip_cons_cons,List.zipIdx_cons,List.forIn_cons]
    unfold lexLt at h h2
    refine wpAny_bind (hg m n t t' k _ (fun e=>?_) (fun e=>?_))
    · rw [if_neg e] at h2
      exact wpAny_pure h2
    · rw [if_pos e] at h h2
      exact EY hg hu hv (k+1) Q (fun z=>h (by rw [z];simp)) h2
theorem PU:gk prog w A E s (tuples' true) (iE s.heap) where
  lt st x y Q hk k1 k2 h:=by
    obtain ⟨ms,e1⟩:=Option.isSome_iff_exists.mp k1
    obtain ⟨ns,e2⟩:=Option.isSome_iff_exists.mp k2
    have f1:kf (iE s.heap) x=ms:=by unfold kf;rw [e1];rfl
    have f2:kf (iE s.heap) y=ns:=by unfold kf;rw [e2];rfl
    rw [f1,f2] at h
    obtain ⟨t,us,ex,px,ix⟩:=sS e1
    obtain ⟨t',vs,ey,py,iy⟩:=sS e2
    rw [lt'_eq]
    refine wpS_bind (wpS_get ?_)
    rw [hk,ex,ey]
    refine wpS_bind (wpS_lift (wpAny_attempt ?_))
    refine wpAny_bind (v8 px (wpAny_bind (v8 py ?_)))
    refine wpAny_bind (EY (fun m n t t' i Q q1 q2=>?_) ix iy 0 _ (fun e=>?_) ?_)
    · refine wpAny_bind (wpAny_eqBool_int ?_)
      by_cases e:m=n
      · rw [show (m==n)=true by simpa using e]
        exact wpAny_pure (q2 e)
      · rw [show (m==n)=false by simpa using e]
        exact wpAny_bind (Rl (wpAny_pure (q1 e)))
    · show wpAny _ _ (pure (decide (us.toArray.size<vs.toArray.size))) _ _ _
      refine wpAny_pure ⟨rfl,wpS_pure ?_⟩
      rw [List.size_toArray,List.size_toArray,<- e]
      exact h
    · exact wpAny_pure ⟨rfl,wpS_pure h⟩
theorem Gm:∀ {vs:List Value},(∀ v ∈ vs,∃ n ns,cO s.heap v=some (n::ns))->∀ Q:List (Option Value)->Shared->Prop,(∀ fs:List (Int×Tok),fs.length=vs.length->Q (fs.map fun p=>some (.int p.1 p.2)) s) ->
    wpAny (model prog w) A (vs.mapM firstOfTuple') Q E s
  | [],_,Q,h=>by rw [List.mapM_nil];exact wpAny_pure (h [] rfl)
  | v::vs,hv,Q,h=>by
    obtain ⟨n,ns,e⟩:=hv v (.head _)
    obtain ⟨t,ws,rfl,pt,it⟩:=sS e
    cases it with
    | cons _ tk it =>
      rw [List.mapM_cons]
      refine wpAny_bind ?_
      obtain ⟨o,ho,hc,m,hd⟩:=id pt
      refine wpAny_bind (wpAny_typeOf (T := "tuple") ⟨o,ho,hc⟩ ?_)
      rw [if_neg (by decide)]
      refine wpAny_bind (v8 pt (wpAny_pure ?_))
      refine wpAny_bind (Gm (fun v lV=>hv v (.tail _ lV)) _ fun fs hf=>wpAny_pure ?_)
      exact h ((n,tk)::fs) (by rw [List.length_cons,List.length_cons,hf])
theorem Dx:∀ (fs:List (Int×Tok)),(fs.map fun p=>Value.int p.1 p.2).mapM typeOf=pure (fs.map fun _=>Value.type "int")
  | [] => by simp
  | p::fs=>by
    rw [List.map_cons,List.mapM_cons,Dx fs]
    show (pure (Value.type "int") >>= fun b=>pure _ >>= fun bs=>pure (b::bs))=_
    simp
theorem OV {vs:List Value} {Q:SortKind->Shared->Prop} (hv:∀ v ∈ vs,∃ n ns,cO s.heap v=some (n::ns)) (ne:vs ≠ []) (h:Q (tuples' true) s):wpAny (model prog w) A (keyKind' vs.toArray) Q E s:=by
  rw [keyKind'_eq,List.mapM_toArray]
  refine wpAny_bind ?_
  rw [map_eq_pure_bind]
  refine wpAny_bind (Gm hv _ fun fs hf=>wpAny_pure ?_)
  rw [if_pos (by simp)]
  refine wpAny_bind (wpAny_rule ?_)
  have e1:((fs.map fun p=>some (Value.int p.1 p.2)).toArray.filterMap id)=(fs.map fun p=>Value.int p.1 p.2).toArray:=by
    simp [List.filterMap_map]
  rw [e1,oneTypeOnly'_eq,List.mapM_toArray,Dx]
  simp only [map_pure,pure_bind]
  have h0:(fs.map fun _=>Value.type "int").toArray[0]?=some (Value.type "int"):=by
    cases fs with
    | nil =>
      cases vs with
      | nil=>exact absurd rfl ne
      | cons _ _=>cases hf
    | cons p fs=>simp
  have fU:((fs.map fun _=>Value.type "int").toArray.all fun x=>x==Value.type "int")=true:=by
    simp only [List.all_toArray,List.all_map,List.all_eq_true]
    intro _ _
    rfl
  rw [h0]
  simp only [fU,if_true,pure_bind]
  exact wpAny_pure h
end
end So
namespace So
open PySem PyProof.Rows
def j7 (h:Heap) (v:Value):List Int:=(cO h v).getD []
def lh (h:Heap) (l:List Value):Prop:=l.Pairwise fun x y=>lexLt (j7 h y) (j7 h x)=false
section
variable {prog:Program} {w:World} {A:Around} {E:Value->Shared->Prop} {s:Shared}
theorem wF {h h':Heap} {v:Value} {ns:List Int} (e:cO h v=some ns) (k:∀ t o,v=.ref t->h.get? t=some o->o.cls=.type "tuple" -> h'.get? t=some o):cO h' v=some ns:=by
  obtain ⟨t,ws,rfl,⟨o,ho,hc,n,hd⟩,it⟩:=sS e
  exact Gk ⟨o,k t o rfl ho hc,hc,n,hd⟩ it
theorem mem_zip_self {α:Type}:∀ {l:List α} {p : α × α},p ∈ l.zip l->p.1=p.2/\p.1 ∈ l
  | x::l,p,h=>by
    rw [List.zip_cons_cons] at h
    rcases List.mem_cons.mp h with rfl | z
    · exact ⟨rfl,.head _⟩
    · have:=mem_zip_self z
      exact ⟨this.1,.tail _ this.2⟩
theorem EZ {α:Type}:∀ l:List α,(l.zip l).map Prod.snd=l
  | [] => rfl
  | x::l=>by rw [List.zip_cons_cons,List.map_cons,EZ l]
theorem Dy {vs:List Value} {xs:Array Keyed} {h:Heap} (hp:xs.Perm (pairsOf vs)) (hs:∀ i j,i<=j->j<(pairsOf vs).size->(iE h).kle (kA (iE h) xs i) (kA (iE h) xs j)) :
    (xs.map (·.2)).toList.Perm vs/\lh h (xs.map (·.2)).toList:=by
  have hl:xs.toList.Perm (vs.zip vs):=by
    have:=Array.perm_iff_toList_perm.mp hp
    unfold pairsOf at this
    rwa [Array.toList_zip] at this
  refine ⟨?_,?_⟩
  · rw [Array.toList_map]
    have:=hl.map Prod.snd
    rwa [EZ] at this
  · unfold lh
    rw [Array.toList_map,List.pairwise_map,List.pairwise_iff_getElem]
    intro i j hi hj bz
    have qX:j<(pairsOf vs).size:=by rw [<- hp.size_eq];rw [Array.length_toList] at hj;exact hj
    have:=hs i j (by omega) qX
    have gt:∀ c (hc:c<xs.toList.length),kA (iE h) xs c=j7 h (xs.toList[c]).2:=fun c hc=>by
      have e:xs[c]?=some (xs.toList[c]):=by rw [<- Array.getElem?_toList,List.getElem?_eq_getElem hc]
      rw [bD e]
      have:=(mem_zip_self (hl.mem_iff.mp (List.getElem_mem hc))).1
      unfold kf j7
      rw [<- this]
      rfl
    rw [gt i hi,gt j hj] at this
    exact this
theorem CT {a:Addr} {vs:List Value} {n:Nat} {P:Fin->Shared->Prop} (ho:s.heap.get? a=some (seqObj "list" vs.toArray n)) (hv:∀ v ∈ vs,∃ n ns,cO s.heap v=some (n::ns)) (tU:vs.length<128)
    (h:∀ out:Array Value,out.toList.Perm vs->lh s.heap out.toList->P (.done (.ret .none)) { s with heap:=sortedHeap s.heap a vs out }):wpAny (model prog w) A (Builtin.«list.sort» ⟨[.ref a],[]⟩) P E s:=by
  rw [list_sort_plain]
  have ha:a<s.heap.objs.size:=Heap.lt_size ho
  refine wpAny_bind (listItems_at ho rfl (wpAny_bind (listUpdate_at ho rfl ?_)))
  obtain ⟨e1,rg⟩:∃ e1,(s.heap.update a (Obj.mapSeq fun _=>#[])).get? a=some (seqObj "list" #[] e1):=⟨_,get?_update_seq ho (fun _=>#[])⟩
  refine wpAny_bind (seqEpoch_at rg rfl (wpAny_bind (wpAny_newTuple (wpAny_bind (wpAny_newList (wpAny_holding ?_))))))
  obtain ⟨hB,eB⟩:∃ hB,hB=((s.heap.update a (Obj.mapSeq fun _=>#[])).push (seqObj "tuple" vs.toArray 0)).push (seqObj "list" #[] 0):=⟨_,rfl⟩
  have ux:hB.get? a=some (seqObj "list" #[] e1):=by
    rw [eB,Heap.get?_push_ne _ _ _ (by rw [size_push',Heap.size_update];exact Nat.ne_of_lt (Nat.lt_succ_of_lt ha)),Heap.get?_push_ne _ _ _ (by rw [Heap.size_update];exact Nat.ne_of_lt ha)]
    exact rg
  have keep:∀ t o,s.heap.get? t=some o->t ≠ a->hB.get? t=some o:=fun t o e ne=>by
    have lt:=Heap.lt_size e
    rw [eB,Heap.get?_push_ne _ _ _ (by rw [size_push',Heap.size_update];exact Nat.ne_of_lt (Nat.lt_succ_of_lt lt)),Heap.get?_push_ne _ _ _ (by rw [Heap.size_update];exact Nat.ne_of_lt lt),(Heap.SameBut.update ..).2 t ne]
    exact e
  have keys:∀ v ns,cO s.heap v=some ns->cO hB v=some ns:=fun v ns e=>wF e fun t o _ ht hc=>keep t o ht fun z=>by
    rw [z,ho] at ht
    cases ht
    exact absurd (Value.type.inj hc) (by decide)
  have fin:∀ out:Array Value,out.toList.Perm vs->lh hB out.toList->P (.done (.ret .none)) { s with heap:=sortedHeap s.heap a vs out }:=fun out hp hs=>by
    refine h out hp (hs.imp_of_mem fun {x y} hx hy z=>?_)
    obtain ⟨n1,ns1,q1⟩:=hv x (hp.mem_iff.mp hx)
    obtain ⟨n2,ns2,q2⟩:=hv y (hp.mem_iff.mp hy)
    unfold j7 at z ⊢
    rw [keys _ _ q1,keys _ _ q2] at z
    rw [q1,q2]
    exact z
  have last:∀ out:Array Value,out.size<=1000->sortedHeap s.heap a vs out=hB.update a (Obj.mapSeq fun _=>out):=fun out _=>by rw [eB];rfl
  show wpAny (model prog w) A _ P E { s with heap:=((s.heap.update a (Obj.mapSeq fun _=>#[])).push (seqObj "tuple" vs.toArray 0)).push (seqObj "list" #[] 0) }
  rw [<- eB]
  have bS:vs.toArray.size=vs.length:=by simp
  have line:sizeLine=16777216:=sizeLine_eq
  dsimp only
  by_cases h2:vs.toArray.size<2
  · rw [if_pos h2,if_pos h2]
    refine wpAny_bind (wpAny_pure ?_)
    rw [StateT.run_pure]
    refine wpAny_bind (wpAny_pure ?_)
    dsimp only
    have pp:(pairsOf vs).Perm (pairsOf vs):=Array.Perm.refl _
    obtain ⟨f1,f2⟩:=Dy (h:=hB) pp fun i j bz hj=>by
      rw [pairsOf_size] at hj
      have:i=j:=by omega
      subst this
      exact KeyOrd.kle_refl _
    have sz:((pairsOf vs).map (·.2)).size=vs.length:=by rw [Array.size_map,pairsOf_size]
    refine wpAny_bind (seqEpoch_at (s:={ s with heap:=hB }) ux rfl ?_)
    refine wpAny_bind (listUpdate_at (s:={ s with heap:=hB }) ux rfl ?_ (hsz2:=by show ((pairsOf vs).map (·.2)).size<=_;omega))
    simp only [bne_self_eq_false,Bool.false_eq_true,if_false]
    have:=fin _ f1 f2
    rw [last _ (by omega)] at this
    exact wpAny_pure this
  · rw [if_neg h2,if_neg h2]
    refine wpAny_bind (OV (s:={ s with heap:=hB }) (fun v lV=>?_) (fun z=>by rw [z] at h2;simp at h2) ?_)
    · obtain ⟨n,ns,e⟩:=hv v lV
      exact ⟨n,ns,keys _ _ e⟩
    have k0:Kd (iE hB) (pairsOf vs).toList:=fun x hx=>by
      unfold pairsOf at hx
      rw [Array.toList_zip] at hx
      obtain ⟨n,ns,e⟩:=hv x.1 (mem_zip_self hx).2
      show (cO hB x.1).isSome=true
      rw [keys _ _ e];rfl
    have run:=PR (prog:=prog) (w:=w) (A:=A) (E:=E) (s:={ s with heap:=hB }) (a0:=pairsOf vs) PU k0 (st:=SortSt.mk' (tuples' true) (pairsOf vs) #[] 7 none) ⟨Array.Perm.refl _,rfl,rfl,rfl,fun _ z=>absurd z (Nat.not_lt_zero _)⟩
      (Q:=fun _ ag=>(arrOf ag).Perm (pairsOf vs)/\failedOf ag=none/\∀ i j,i<=j->j<(pairsOf vs).size->(iE hB).kle (kA (iE hB) (arrOf ag) i) (kA (iE hB) (arrOf ag) j)) (by rw [pairsOf_size];omega) (by rw [pairsOf_size];omega) fun ag p1 p2 p3=>⟨p1,p2,p3⟩
    refine wpAny_bind (wpAny_mono run ?_ fun _ _ e=>e)
    rintro ⟨⟨⟩,ag⟩ s' ⟨rfl,hp,hf,hs⟩
    dsimp only
    obtain ⟨f1,f2⟩:=Dy hp hs
    have sz:((arrOf ag).map (·.2)).size=vs.length:=by rw [Array.size_map,hp.size_eq,pairsOf_size]
    refine wpAny_bind (seqEpoch_at (s:={ s with heap:=hB }) ux rfl ?_)
    refine wpAny_bind (listUpdate_at (s:={ s with heap:=hB }) ux rfl ?_ (hsz2:=by show ((arrOf ag).map (·.2)).size<=_;omega))
    rw [hf]
    simp only [bne_self_eq_false,Bool.false_eq_true,if_false]
    have:=fin _ f1 f2
    rw [last _ (by show ((arrOf ag).map (·.2)).size<=1000;omega)] at this
    exact wpAny_pure this
theorem Nq {l:Addr} {vs:List Value} {Q:Value->Shared->Prop} (hl:s.heap.IsList l vs.toArray) (hv:∀ v ∈ vs,∃ n ns,cO s.heap v=some (n::ns)) (tU:vs.length<128)
    (h:∀ out:Array Value,out.toList.Perm vs->lh s.heap out.toList->Q (.ref (s.heap.objs.size+1)) { s with heap:=sortedAll s.heap vs out }):wpAny (model prog w) A (call (.builtin "sorted") [.ref l]) Q E s:=by
  refine Calls.call_function_entry kind_sorted plain_sorted entry_sorted (args_sorted1 _) ?_
  unfold Builtin.«sorted»
  refine wpAny_bind (m:=checkCount "sorted" 1 1 _) (wpAny_pure (wpAny_bind (collect_list hl (wpAny_bind (wpAny_newList ?_)))))
  have z1:((s.heap.push (seqObj "list" #[] 0)).update s.heap.objs.size (Obj.mapSeq (·++vs.toArray))).objs.size=s.heap.objs.size+1:=by
    rw [Heap.size_update,size_push']
  obtain ⟨hC,eC⟩:∃ hC,hC=((s.heap.push (seqObj "list" #[] 0)).update s.heap.objs.size (Obj.mapSeq (·++vs.toArray))).push (seqObj "list" vs.toArray 0):=⟨_,rfl⟩
  have ke:hC.get? (s.heap.objs.size+1)=some (seqObj "list" vs.toArray 0):=by
    rw [eC,<- z1];exact Heap.get?_push_size _ rfl
  have keep:∀ t o,s.heap.get? t=some o->hC.get? t=some o:=fun t o e=>by
    have lt:=Heap.lt_size e
    rw [eC,Heap.get?_push_ne _ _ _ (by rw [z1];exact Nat.ne_of_lt (Nat.lt_succ_of_lt lt)),(Heap.SameBut.update ..).2 t (Nat.ne_of_lt lt),Heap.get?_push_ne _ _ _ (Nat.ne_of_lt lt)]
    exact e
  have keys:∀ v ns,cO s.heap v=some ns->cO hC v=some ns:=fun v ns e=>wF e fun t o _ ht _=>keep t o ht
  show wpAny _ _ _ _ _ { s with heap:=((s.heap.push (seqObj "list" #[] 0)).update s.heap.objs.size (Obj.mapSeq (·++vs.toArray))).push (seqObj "list" vs.toArray 0) }
  rw [z1,<- eC]
  refine wpAny_bind (wpAny_holding (wpAny_call_entry slot_list_sort ⟨_,ke,rfl⟩ entry_list_sort (CT (s:={ s with heap:=hC }) ke (fun v lV=>?_) tU fun out p1 p2=>⟨_,rfl,?_⟩) (args_list_sort _)))
  · obtain ⟨n,ns,e⟩:=hv v lV
    exact ⟨n,ns,keys _ _ e⟩
  · refine wpAny_pure ⟨_,rfl,?_⟩
    have:=h out p1 (p2.imp_of_mem fun {x y} hx hy z=>?_)
    · unfold sortedAll at this
      rw [<- eC] at this
      exact this
    · obtain ⟨n1,ns1,q1⟩:=hv x (p1.mem_iff.mp hx)
      obtain ⟨n2,ns2,q2⟩:=hv y (p1.mem_iff.mp hy)
      unfold j7 at z ⊢
      rw [keys _ _ q1,keys _ _ q2] at z
      rw [q1,q2]
      exact z
end
end So
namespace L2
open PySem PySem.Spec PyProof.Rows
def addrOf:Value->Addr
  | .ref a=>a
  | _=>0
theorem v9 {l:List Value} {ks:List Addr} (h:l.Perm (ks.map Value.ref)):∃ as:List Addr,as.Perm ks/\l=as.map Value.ref:=by
  refine ⟨l.map addrOf,?_,?_⟩
  · have:=h.map addrOf
    rw [List.map_map] at this
    rwa [show ks.map (addrOf ∘ Value.ref)=ks from (List.map_congr_left (g:=id) fun _ _=>rfl).trans (List.map_id ks)] at this
  · rw [List.map_map]
    refine ((List.map_congr_left (g:=id) fun v hv=>?_).trans (List.map_id l)).symm
    obtain ⟨a,_,rfl⟩:=List.mem_map.mp (h.mem_iff.mp hv)
    rfl
theorem wc:∀ as:List Addr,Vals (as.map V.ref) (as.map Value.ref)
  | [] => .nil
  | a::as=>.cons rfl (wc as)
end L2
namespace L2
open PySem PySem.Spec PyProof.Rows
theorem DZ {K:PySem.W.Frag} {G H:Hp}:∀ {ns:List Int} {vs:List V} {fq:List Addr},aS K G H (ns.map fun n=>Tr.fz (di n)) vs fq->vs=ns.map V.int/\fq=[]
  | [],vs,fq,h=>h
  | n::ns,vs,fq,h=>by
    obtain ⟨v,r,f1,f2,rfl,rfl,⟨rfl,h1⟩,h2⟩:=h
    obtain ⟨rfl,rfl⟩:=DZ h2
    rw [aL h1]
    exact ⟨rfl,rfl⟩
end L2
namespace L2
open PySem PySem.Spec PyProof.Rows
theorem OW {K:PySem.W.Frag} {G H:Hp} (l:List Int):aS K G H (l.map fun n=>Tr.fz (di n)) (l.map V.int) []:=by
  have:=(nj (K:=K) (G:=G) (ns:=l)).iz (H:=H)
  rw [iI] at this
  exact this
end L2
namespace Ts
open PySem PySem.SetTable
def iX (m:Nat) (p:Probe):Probe:=if p.more > 0 then { p with j:=p.j+1,more:=p.more-1 } else
  { p with j:=(leap m p.i p.perturb).1,more:=runEnd m (leap m p.i p.perturb).1-(leap m p.i p.perturb).1,i:=(leap m p.i p.perturb).1,perturb:=(leap m p.i p.perturb).2 }
def dX (m i pt:Nat):Probe:={ j:=i,more:=runEnd m i-i,i:=i,perturb:=pt,dummy:=none }
def p0 (m:Nat) (h:Int):Probe:=dX m (bits h % (m+1)) (bits h)
def go (m:Nat):Nat->Probe->Probe
  | 0,p=>p
  | n+1,p=>go m n (iX m p)
theorem p9 (m:Nat):∀ a b p,go m (a+b) p=go m b (go m a p)
  | 0,b,p=>by rw [Nat.zero_add];rfl
  | a+1,b,p=>by rw [Nat.add_right_comm];exact p9 m a b _
theorem sT (m i pt:Nat):∀ k r j,k<=r->go m k ⟨j,r,i,pt,none⟩=⟨j+k,r-k,i,pt,none⟩
  | 0,r,j,_=>rfl
  | k+1,r,j,h=>by
    show go m k (iX m _)=_
    have e:iX m ⟨j,r,i,pt,none⟩=⟨j+1,r-1,i,pt,none⟩:=by unfold iX;rw [if_pos (show r > 0 by omega)]
    rw [e,sT m i pt k (r-1) (j+1) (by omega),show j+1+k=j+(k+1) by omega,show r-1-k=r-(k+1) by omega]
theorem Iu (m i:Nat):runEnd m i-i<=9:=by unfold runEnd;split<;>omega
theorem Gn {m i:Nat} (h:i<=m):i<=runEnd m i/\runEnd m i<=m:=by unfold runEnd;split<;>omega
theorem xk (m i pt:Nat):go m (runEnd m i-i+1) (dX m i pt)=dX m (leap m i pt).1 (leap m i pt).2:=by
  rw [p9]
  unfold dX
  rw [sT m i pt _ _ _ (Nat.le_refl _),Nat.sub_self]
  rw [show ∀ p,go m 1 p=iX m p from fun _=>rfl]
  unfold iX
  rw [if_neg (Nat.lt_irrefl 0)]
def lp (m:Nat):Nat->Nat×Nat->Nat×Nat
  | 0,s=>s
  | n+1,s=>lp m n (leap m s.1 s.2)
theorem Hw (m:Nat):∀ L i pt,∃ n,n<=10*L/\go m n (dX m i pt)=dX m (lp m L (i,pt)).1 (lp m L (i,pt)).2
  | 0,i,pt=>⟨0,by omega,rfl⟩
  | L+1,i,pt=>by
    obtain ⟨n,h1,h2⟩:=Hw m L (leap m i pt).1 (leap m i pt).2
    have:=Iu m i
    exact ⟨runEnd m i-i+1+n,by omega,by rw [p9,xk,h2];rfl⟩
theorem Gp (m:Nat):∀ a b s,lp m (a+b) s=lp m b (lp m a s)
  | 0,b,s=>by rw [Nat.zero_add];rfl
  | a+1,b,s=>by rw [Nat.add_right_comm];exact Gp m a b _
theorem Hx (m:Nat):∀ L s,(lp m L s).2=s.2 / 32 ^ L
  | 0,s=>by show s.2=s.2 / 32 ^ 0;rw [Nat.pow_zero,Nat.div_one]
  | L+1,s=>by
    show (lp m L _).2=_
    rw [Hx m L,Nat.pow_succ,Nat.mul_comm,<- Nat.div_div_eq_div_mul]
    rfl
theorem Hy (m:Nat):∀ L s,s.1<=m->(lp m L s).1<=m
  | 0,s,h=>h
  | L+1,s,h=>Hy m L _ (Nat.le_of_lt_succ (Nat.mod_lt _ (Nat.succ_pos m)))
def it (m:Nat):Nat->Nat->Nat
  | 0,i=>i
  | k+1,i=>it m k ((i*5+1) % (m+1))
theorem sU (m:Nat):∀ a b i,it m (a+b) i=it m b (it m a i)
  | 0,b,i=>by rw [Nat.zero_add];rfl
  | a+1,b,i=>by rw [Nat.add_right_comm];exact sU m a b _
theorem E1 (m:Nat):∀ k i,lp m k (i,0)=(it m k i,0)
  | 0,i=>rfl
  | k+1,i=>by
    show lp m k ((i*5+1+0 / 32) % (m+1),0 / 32)=_
    rw [Nat.zero_div,Nat.add_zero]
    exact E1 m k _
def Good (m:Nat):Prop:=m=7\/m=31\/m=127
theorem orb {m:Nat} (hm:Good m):it m (m+1) 0=0/\∀ j,j<=m->∃ a,a<=m/\it m a 0=j:=by
  have key:∀ m,it m (m+1) 0=0->((List.range (m+1)).all fun j=>((List.range (m+1)).map fun a=>it m a 0).contains j)=true->it m (m+1) 0=0/\∀ j,j<=m->∃ a,a<=m/\it m a 0=j:=fun m h1 h2=>⟨h1,fun j hj=>by
    have:=List.all_eq_true.mp h2 j (List.mem_range.mpr (by omega))
    obtain ⟨a,ha,e⟩:=List.mem_map.mp (List.contains_iff_mem.mp this)
    exact ⟨a,by have:=List.mem_range.mp ha;omega,e⟩⟩
  rcases hm with rfl | rfl | rfl<;>exact key _ (by decide +kernel) (by decide +kernel)
theorem cover {m i pt j:Nat} (hm:Good m) (hp:pt<2 ^ 64) (hi:i<=m) (hj:j<=m):∃ L,L<=m+13/\(lp m L (i,pt)).1=j:=by
  obtain ⟨o1,o2⟩:=orb hm
  have z:(lp m 13 (i,pt)).2=0:=by
    rw [Hx]
    exact Nat.div_eq_of_lt (Nat.lt_of_lt_of_le hp (by decide))
  have l:=Hy m 13 (i,pt) hi
  generalize hs:lp m 13 (i,pt)=s at z l
  obtain ⟨i',pt'⟩:=s
  dsimp only at z l
  subst z
  obtain ⟨a,ha,ea⟩:=o2 i' l
  obtain ⟨b,hb,eb⟩:=o2 j hj
  have:∃ k,k<=m/\it m k i'=j:=by
    rcases Nat.le_total a b with h | h
    · exact ⟨b-a,by omega,by rw [<- ea,<- sU,show a+(b-a)=b by omega,eb]⟩
    · rcases Nat.eq_or_lt_of_le h with h | h
      · subst h
        exact ⟨0,by omega,by show i'=j;rw [<- ea,eb]⟩
      · exact ⟨m+1-a+b,by omega,by rw [<- ea,<- sU,show a+(m+1-a+b)=(m+1)+b by omega,sU,o1,eb]⟩
  obtain ⟨k,hk,e⟩:=this
  exact ⟨13+k,by omega,by rw [Gp,hs,E1,e]⟩
theorem zN:∀ (n:Nat) (ns:List Nat),(∀ j,j<n->j ∈ ns)->n<=ns.length
  | 0,_,_=>Nat.zero_le _
  | n+1,ns,h=>by
    have hn:=h n (Nat.lt_succ_self n)
    have:=zN n (ns.erase n) fun j hj=>(List.mem_erase_of_ne (by omega)).mpr (h j (by omega))
    rw [List.length_erase_of_mem hn] at this
    have:=List.length_pos_of_mem hn
    omega
theorem least {p:Nat->Prop}:∀ {n:Nat},p n->∃ k,k<=n/\p k/\∀ i,i<k->¬ p i:=by
  intro n
  induction n using Nat.strongRecOn with
  | _ n ih =>
    intro hn
    by_cases h:∃ i,i<n/\p i
    · obtain ⟨i,hi,pi⟩:=h
      obtain ⟨k,h1,h2,h3⟩:=ih i hi pi
      exact ⟨k,by omega,h2,h3⟩
    · exact ⟨n,Nat.le_refl _,hn,fun i hi pi=>h ⟨i,hi,pi⟩⟩
def iY (m:Nat) (ns:List Nat) (h:Int) (j:Nat):Prop:=∃ n,n<10*turns m/\(go m n (p0 m h)).j=j/\∀ k,k<n->(go m k (p0 m h)).j ∈ ns
theorem iY.mono {m:Nat} {ns Kg:List Nat} {h:Int} {j:Nat} (r:iY m ns h j) (s:∀ x ∈ ns,x ∈ Kg):iY m Kg h j :=
  let ⟨n,a,b,c⟩:=r;⟨n,a,b,fun k hk=>s _ (c k hk)⟩
theorem E2 (h:Int):bits h<2 ^ 64:=by
  unfold bits
  have:=Int.emod_lt_of_pos h (show (0:Int)<2 ^ 64 by decide)
  have:=Int.emod_nonneg h (show (2 ^ 64:Int) ≠ 0 by decide)
  omega
theorem OX {m:Nat} {ns:List Nat} (hm:Good m) (h:Int) (hl:ns.length<=m):∃ j,j ∉ ns/\j<=m/\iY m ns h j:=by
  obtain ⟨j0,h0,h1⟩:∃ j,j<=m/\j ∉ ns:=by
    apply Classical.byContradiction
    intro z
    have:=zN (m+1) ns fun j hj=>Classical.byContradiction fun q=>z ⟨j,by omega,q⟩
    omega
  obtain ⟨L,hL,eL⟩:=cover (pt:=bits h) (i:=bits h % (m+1)) hm (E2 h) (Nat.le_of_lt_succ (Nat.mod_lt _ (Nat.succ_pos m))) h0
  obtain ⟨n,hn,en⟩:=Hw m L (bits h % (m+1)) (bits h)
  have hpn:(go m n (p0 m h)).j ∉ ns:=by
    show (go m n (dX m _ _)).j ∉ ns
    rw [en]
    show (lp m L _).1 ∉ ns
    rw [eL];exact h1
  obtain ⟨k,k1,k2,k3⟩:=least (p:=fun n=>(go m n (p0 m h)).j ∉ ns) hpn
  refine ⟨(go m k (p0 m h)).j,k2,?_,k,?_,rfl,fun i hi=>Classical.byContradiction fun q=>k3 i hi q⟩
  · have key:∀ n i pt,i<=m->(go m n (dX m i pt)).j<=m:=by
      intro n
      induction n using Nat.strongRecOn with
      | _ n ih =>
        intro i pt hi
        have:=Gn hi
        rcases Nat.lt_or_ge (runEnd m i-i) n with h | h
        · rw [show n=runEnd m i-i+1+(n-(runEnd m i-i+1)) by omega,p9,xk]
          exact ih _ (by omega) _ _ (Nat.le_of_lt_succ (Nat.mod_lt _ (Nat.succ_pos m)))
        · unfold dX
          rw [sT m i pt n _ _ h]
          show i+n<=m
          omega
    exact key k _ _ (Nat.le_of_lt_succ (Nat.mod_lt _ (Nat.succ_pos m)))
  · show k<10*(m+15)
    omega
theorem wg {t:SetTable} {ns:List Nat} {i j:Nat} (hp:t.place=ns.toArray) (up:ns.Pairwise (· < ·)) (hi:ns[i]?=some j):t.slot j=.live i:=by
  have hl:=(List.getElem?_eq_some_iff.mp hi).1
  have ej:=(List.getElem?_eq_some_iff.mp hi).2
  have hb:below t.place j=i:=by
    rw [hp]
    refine L2.vZ (by rw [List.size_toArray];omega) (fun q h1 h2=>?_) fun q h1 h2=>?_
    · rw [List.size_toArray] at h2
      rw [L2.getD_list,List.getD_eq_getElem?_getD,List.getElem?_eq_getElem h2]
      have:=List.pairwise_iff_getElem.mp up q i h2 hl h1
      show ns[q]<j
      omega
    · rw [List.size_toArray] at h2
      rw [L2.getD_list,List.getD_eq_getElem?_getD,List.getElem?_eq_getElem h2]
      show ¬ ns[q]<j
      rcases Nat.eq_or_lt_of_le h1 with h | h
      · subst h;omega
      · have:=List.pairwise_iff_getElem.mp up i q hl h2 h;omega
  unfold slot
  dsimp only
  rw [hb,hp,List.getElem?_toArray,hi,if_pos (by simp)]
theorem N0 {t:SetTable} {ns:List Nat} {j:Nat} (hp:t.place=ns.toArray) (hd:t.dummies = #[]) (hj:j ∉ ns):t.slot j=.empty:=by
  unfold slot
  dsimp only
  rw [if_neg,if_neg]
  · rw [hd,show has #[] j=false from rfl];exact Bool.false_ne_true
  · intro z
    have z:=eq_of_beq z
    rw [hp,List.getElem?_toArray] at z
    exact hj (List.mem_of_getElem? z)
theorem zO (t:SetTable) (hashAt:Nat->Int) (h:Int):∀ n fuel p,n<fuel->(∀ k,k<n->∃ i,t.slot (go t.mask k p).j=.live i/\hashAt i ≠ h)->probe.go t hashAt h fuel p=probe.go t hashAt h (fuel-n) (go t.mask n p)
  | 0,fuel,p,_,_=>rfl
  | n+1,0,p,hf,_=>by omega
  | n+1,fuel+1,p,hf,hk=>by
    obtain ⟨i,h1,h2⟩:=hk 0 (Nat.succ_pos n)
    have e:probe.go t hashAt h (fuel+1) p=probe.go t hashAt h fuel (iX t.mask p):=by
      conv=>lhs;unfold probe.go
      rw [show t.slot p.j=.live i from h1]
      dsimp only
      rw [if_neg (by simpa using h2)]
      rfl
    rw [e,zO t hashAt h n fuel (iX t.mask p) (by omega) fun k oN=>hk (k+1) (by omega)]
    rw [show fuel+1-(n+1)=fuel-n by omega]
    rfl
abbrev Ent:=Nat×Int×Value
structure Tb (led:Bool) (t:SetTable) (L:List Ent):Prop where
  place:t.place=(L.map (·.1)).toArray
  rh:t.dummies = #[]
  plain:t.plain=true
  led:t.led=led
  mask:Good t.mask
  room:L.length*5<t.mask*3
  up:(L.map (·.1)).Pairwise (· < ·)
  le:∀ e ∈ L,e.1<=t.mask
  nd:(L.map (·.2.1)).Nodup
  rj:∀ e ∈ L,iY t.mask (L.map (·.1)) e.2.1 e.1
theorem Tb.lt {led:Bool} {t:SetTable} {L:List Ent} (T:Tb led t L):L.length<=t.mask:=by have:=T.room;omega
theorem Tb.fits {led:Bool} {t:SetTable} {L:List Ent} (T:Tb led t L):t.fits (L.map (·.2)).toArray.size=true:=by
  unfold SetTable.fits SetTable.fill
  rw [T.place,T.rh]
  have:=T.lt
  simp
  omega
theorem Tb.hit {led:Bool} {t:SetTable} {L:List Ent} (T:Tb led t L) {hashAt:Nat->Int} (hh:∀ i e,L[i]?=some e->hashAt i=e.2.1) {i:Nat} {e:Ent} (hi:L[i]?=some e):∃ nx,t.probe hashAt e.2.1 (t.probeStart e.2.1)=some (.candidate e.1 i nx):=by
  obtain ⟨n,h1,h2,h3⟩:=T.rj e (List.mem_of_getElem? hi)
  obtain ⟨n0,k1,k2,k3⟩:=least (p:=fun n=>(go t.mask n (p0 t.mask e.2.1)).j=e.1) h2
  have lU:(L.map (·.1))[i]?=some e.1:=by rw [List.getElem?_map,hi];rfl
  have key:=zO t hashAt e.2.1 n0 (10*turns t.mask) (p0 t.mask e.2.1) (by omega) fun k hk=>by
    have hm:=h3 k (by omega)
    obtain ⟨q,hq,eq⟩:=List.getElem_of_mem hm
    have rk:q<L.length:=by rw [List.length_map] at hq;exact hq
    have e1:(L.map (·.1))[q]?=some (go t.mask k (p0 t.mask e.2.1)).j:=by rw [List.getElem?_eq_getElem hq,eq]
    refine ⟨q,wg T.place T.up e1,fun z=>?_⟩
    rw [hh q L[q] (List.getElem?_eq_getElem rk)] at z
    have hil:=(List.getElem?_eq_some_iff.mp hi).1
    have ei:=(List.getElem?_eq_some_iff.mp hi).2
    have:q=i:=by
      refine (List.getElem_inj (xs:=L.map (·.2.1)) (h₀:=by rw [List.length_map];exact rk) (h₁:=by rw [List.length_map];exact hil) T.nd).mp ?_
      rw [List.getElem_map,List.getElem_map,z,ei]
    subst this
    rw [e1] at lU
    exact k3 k hk (Option.some.inj lU)
  refine ⟨t.advance (go t.mask n0 (p0 t.mask e.2.1)),?_⟩
  show probe.go t hashAt e.2.1 (10*turns t.mask) (p0 t.mask e.2.1)=_
  rw [key,show 10*turns t.mask-n0=(10*turns t.mask-n0-1)+1 by omega]
  unfold probe.go
  rw [k2,wg T.place T.up lU]
  dsimp only
  rw [hh i e hi,if_pos (by simp)]
theorem Tb.miss {led:Bool} {t:SetTable} {L:List Ent} (T:Tb led t L) {hashAt:Nat->Int} (hh:∀ i e,L[i]?=some e->hashAt i=e.2.1) {h:Int} (hn:h ∉ L.map (·.2.1)):∃ j,t.probe hashAt h (t.probeStart h)=some (.empty j none)/\j ∉ L.map (·.1)/\j<=t.mask/\iY t.mask (L.map (·.1)) h j:=by
  obtain ⟨j,j1,j2,r⟩:=OX (ns:=L.map (·.1)) T.mask h (by rw [List.length_map];exact T.lt)
  refine ⟨j,?_,j1,j2,r⟩
  obtain ⟨n,h1,h2,h3⟩:=r
  have dn:∀ n i pt,(go t.mask n (dX t.mask i pt)).dummy=none:=by
    have:∀ n p,(go t.mask n p).dummy=p.dummy:=by
      intro n
      induction n with
      | zero=>intro p;rfl
      | succ n ih =>
        intro p
        show (go t.mask n (iX t.mask p)).dummy=_
        rw [ih]
        unfold iX
        split<;>rfl
    exact fun n i pt=>this n _
  have key:=zO t hashAt h n (10*turns t.mask) (p0 t.mask h) (by omega) fun k hk=>by
    have hm:=h3 k (by omega)
    obtain ⟨q,hq,eq⟩:=List.getElem_of_mem hm
    have rk:q<L.length:=by rw [List.length_map] at hq;exact hq
    have e1:(L.map (·.1))[q]?=some (go t.mask k (p0 t.mask h)).j:=by rw [List.getElem?_eq_getElem hq,eq]
    refine ⟨q,wg T.place T.up e1,fun z=>?_⟩
    rw [hh q L[q] (List.getElem?_eq_getElem rk)] at z
    exact hn (List.mem_map.mpr ⟨L[q],List.getElem_mem rk,z⟩)
  show probe.go t hashAt h (10*turns t.mask) (p0 t.mask h)=_
  rw [key,show 10*turns t.mask-n=(10*turns t.mask-n-1)+1 by omega]
  unfold probe.go
  rw [h2,N0 T.place T.rh j1]
  dsimp only
  rw [show (go t.mask n (p0 t.mask h)).dummy=none from dn n _ _]
theorem Gq (j:Nat):∀ ns:List Nat,ns.Pairwise (· < ·)->∃ k,k<=ns.length/\(∀ x ∈ ns.take k,x<j)/\∀ x ∈ ns.drop k,¬ x<j
  | [],_=>⟨0,Nat.le_refl _,(fun x h=>nomatch h),fun x h=>nomatch h⟩
  | n::ns,h=>by
    rw [List.pairwise_cons] at h
    by_cases hn:n<j
    · obtain ⟨k,h1,h2,h3⟩:=Gq j ns h.2
      refine ⟨k+1,by rw [List.length_cons];omega,fun x hx=>?_,h3⟩
      rw [List.take_succ_cons] at hx
      rcases List.mem_cons.mp hx with rfl | hx
      · exact hn
      · exact h2 x hx
    · refine ⟨0,Nat.zero_le _,(fun x h=>nomatch h),fun x hx=>?_⟩
      rw [List.drop_zero] at hx
      rcases List.mem_cons.mp hx with rfl | hx
      · exact hn
      · have:=h.1 x hx;omega
theorem PV {ns:List Nat} {j k:Nat} (h0:k<=ns.length) (h1:∀ x ∈ ns.take k,x<j) (h2:∀ x ∈ ns.drop k,¬ x<j):below ns.toArray j=k:=by
  refine L2.vZ (by rw [List.size_toArray];exact h0) (fun q a b=>?_) fun q a b=>?_
  · rw [List.size_toArray] at b
    rw [L2.getD_list,List.getD_eq_getElem?_getD,List.getElem?_eq_getElem b]
    exact h1 _ (List.mem_iff_getElem?.mpr ⟨q,by rw [List.getElem?_take_of_lt a,List.getElem?_eq_getElem b];rfl⟩)
  · rw [List.size_toArray] at b
    rw [L2.getD_list,List.getD_eq_getElem?_getD,List.getElem?_eq_getElem b]
    exact h2 _ (List.mem_iff_getElem?.mpr ⟨q-k,by rw [List.getElem?_drop,show k+(q-k)=q by omega,List.getElem?_eq_getElem b];rfl⟩)
def dC (L:List Ent) (k:Nat) (e:Ent):List Ent:=L.take k++[e]++L.drop k
theorem xl {L:List Ent} {k:Nat} {e x:Ent}:x ∈ dC L k e ↔ x=e\/x ∈ L:=by
  unfold dC
  simp only [List.mem_append,List.mem_singleton]
  conv=>rhs;rw [<- List.take_append_drop k L,List.mem_append]
  constructor
  · rintro ((h | h) | h)
    · exact .inr (.inl h)
    · exact .inl h
    · exact .inr (.inr h)
  · rintro (h | h | h)
    · exact .inl (.inr h)
    · exact .inl (.inl h)
    · exact .inr h
theorem D0 (L:List Ent) (k:Nat) (e:Ent):(dC L k e).Perm (e::L):=by
  unfold dC
  rw [List.append_assoc,List.singleton_append]
  refine List.perm_middle.trans ?_
  rw [List.take_append_drop]
theorem Tb.put {led:Bool} {t:SetTable} {L:List Ent} (T:Tb led t L) {h:Int} {j:Nat} {x:Value} (hn:h ∉ L.map (·.2.1)) (j1:j ∉ L.map (·.1)) (j2:j<=t.mask) (r:iY t.mask (L.map (·.1)) h j) :
    ∃ k,t.put j=({ t with place:=((dC L k (j,h,x)).map (·.1)).toArray },k)/\SetTable.insertAt (L.map (·.2)).toArray k (h,x)=((dC L k (j,h,x)).map (·.2)).toArray /\
      ((dC L k (j,h,x)).length*5<t.mask*3->Tb led { t with place:=((dC L k (j,h,x)).map (·.1)).toArray } (dC L k (j,h,x)))/\((dC L k (j,h,x)).map (·.1)).Pairwise (· < ·)/\((dC L k (j,h,x)).map (·.2.1)).Nodup:=by
  obtain ⟨k,k0,k1,k2⟩:=Gq j _ T.up
  have hb:below t.place j=k:=by rw [T.place];exact PV k0 k1 k2
  have up:((dC L k (j,h,x)).map (·.1)).Pairwise (· < ·):=by
    unfold dC
    rw [List.map_append,List.map_append,List.map_take,List.map_drop]
    rw [List.pairwise_append,List.pairwise_append]
    have hT:=T.up
    rw [<- List.take_append_drop k (L.map (·.1)),List.pairwise_append] at hT
    refine ⟨⟨hT.1,List.pairwise_singleton _ _,fun a ha b hb=>?_⟩,hT.2.1,fun a ha b hb=>?_⟩
    · rw [List.mem_singleton.mp hb];exact k1 a ha
    · rcases List.mem_append.mp ha with ha | ha
      · exact hT.2.2 a ha b hb
      · rw [List.mem_singleton.mp ha]
        have h1:=k2 b hb
        have h2:b ≠ j:=fun z=>j1 (z ▸ List.mem_of_mem_drop hb)
        show j<b
        omega
  have nd:((dC L k (j,h,x)).map (·.2.1)).Nodup:=by
    refine ((D0 L k (j,h,x)).map (·.2.1)).nodup_iff.mpr ?_
    rw [List.map_cons,List.nodup_cons]
    exact ⟨hn,T.nd⟩
  refine ⟨k,?_,?_,fun hr=>?_,up,nd⟩
  · unfold SetTable.put
    dsimp only
    rw [hb]
    have hh:has t.dummies j=false:=by rw [T.rh];rfl
    rw [hh]
    have:insertAt t.place k j=((dC L k (j,h,x)).map (·.1)).toArray:=by
      apply Array.ext'
      rw [SetTable.toList_insertAt,T.place]
      unfold dC
      rw [List.map_append,List.map_append,List.map_take,List.map_drop]
      simp
    rw [this]
    rfl
  · apply Array.ext'
    rw [SetTable.toList_insertAt]
    unfold dC
    rw [List.map_append,List.map_append,List.map_take,List.map_drop]
    simp
  · refine ⟨rfl,T.rh,T.plain,T.led,T.mask,hr,up,fun e he=>?_,nd,fun e he=>?_⟩
    · rcases xl.mp he with rfl | he
      · exact j2
      · exact T.le e he
    · have sub:∀ y ∈ L.map (·.1),y ∈ (dC L k (j,h,x)).map (·.1):=fun y hy=>by
        obtain ⟨q,hq,rfl⟩:=List.mem_map.mp hy
        exact List.mem_map.mpr ⟨q,xl.mpr (.inr hq),rfl⟩
      rcases xl.mp he with rfl | he
      · exact r.mono sub
      · exact (T.rj e he).mono sub
end Ts
namespace Ts
open PySem PySem.SetTable
structure Ow (m:Nat) (hs:List Int) (ss:List Nat) (owner:Array (Option Nat)):Prop where
  len:ss.length=hs.length
  size:owner.size=m+1
  nd:ss.Nodup
  le:∀ s ∈ ss,s<=m
  own:∀ (j i:Nat),j<=m->(owner[j]?=some (some i) ↔ ss[i]?=some j)
  emp:∀ (j:Nat),j<=m->(owner[j]?=some none ↔ j ∉ ss)
  rj:∀ (i s:Nat) (h:Int),ss[i]?=some s->hs[i]?=some h->iY m ss h s
theorem Ow.zP {m:Nat} {hs:List Int} {ss:List Nat} {owner:Array (Option Nat)} (O:Ow m hs ss owner) {j:Nat} (hj:j<=m):(owner.getD j (some 0)).isNone=true ↔ j ∉ ss:=by
  rw [<- O.emp j hj]
  have:j<owner.size:=by rw [O.size];omega
  rw [Array.getD_eq_getD_getElem?,Array.getElem?_eq_getElem this]
  show Option.isNone owner[j]=true ↔ some owner[j]=some none
  rw [Option.isNone_iff_eq_none]
  exact ⟨fun h=>by rw [h],fun h=>Option.some.inj h⟩
theorem OY {m:Nat} {hs:List Int} {ss:List Nat} {owner:Array (Option Nat)} (O:Ow m hs ss owner):∀ fuel L i pt,i<=m->L<fuel->(lp m L (i,pt)).1 ∉ ss ->
    ∃ n,n<10*fuel/\layClean.free m owner fuel i pt=some (go m n (dX m i pt)).j/\(go m n (dX m i pt)).j ∉ ss/\(go m n (dX m i pt)).j<=m/\∀ k,k<n->(go m k (dX m i pt)).j ∈ ss:=by
  intro fuel
  induction fuel with
  | zero=>intro L i pt _ h;omega
  | succ fuel ih =>
    intro L i pt hi hL hn
    have r:=Gn hi
    have r9:=Iu m i
    have at_:∀ k,k<=runEnd m i-i->(go m k (dX m i pt)).j=i+k:=fun k hk=>by
      unfold dX
      rw [sT m i pt k _ _ hk]
    unfold layClean.free
    cases hf:(List.range (runEnd m i+1-i)).find? fun k=>(owner.getD (i+k) (some 0)).isNone with
    | some k =>
      dsimp only
      obtain ⟨h1,h2,h3⟩:=List.find?_range_eq_some.mp hf
      have hk:=List.mem_range.mp h2
      have e:=at_ k (by omega)
      refine ⟨k,by omega,by rw [e],by rw [e];exact (O.zP (by omega)).mp h1,by rw [e];omega,fun q hq=>?_⟩
      rw [at_ q (by omega)]
      have:=h3 q hq
      exact Classical.byContradiction fun z=>by
        rw [(O.zP (by omega)).mpr z] at this
        cases this
    | none =>
      dsimp only
      have h3:=List.find?_range_eq_none.mp hf
      have Kh:∀ k,k<=runEnd m i-i->i+k ∈ ss:=fun k hk=>Classical.byContradiction fun z=>by
        have:=h3 k (by omega)
        rw [(O.zP (by omega)).mpr z] at this
        cases this
      cases L with
      | zero=>exact absurd (Kh 0 (Nat.zero_le _)) hn
      | succ L =>
        obtain ⟨n,a1,a2,a3,a4,a5⟩:=ih L (leap m i pt).1 (leap m i pt).2 (Nat.le_of_lt_succ (Nat.mod_lt _ (Nat.succ_pos m))) (by omega) hn
        have eg:∀ q,go m (runEnd m i-i+1+q) (dX m i pt)=go m q (dX m (leap m i pt).1 (leap m i pt).2):=fun q=>by rw [p9,xk]
        refine ⟨runEnd m i-i+1+n,by omega,by rw [eg];exact a2,by rw [eg];exact a3,by rw [eg];exact a4,fun q hq=>?_⟩
        rcases Nat.lt_or_ge (runEnd m i-i) q with z | z
        · rw [show q=runEnd m i-i+1+(q-(runEnd m i-i+1)) by omega,eg]
          exact a5 _ (by omega)
        · rw [at_ q z]
          exact Kh q z
theorem D1 {α β:Type} {f g : α->Option β}:∀ {l:List α},(∀ x ∈ l,f x=g x)->l.filterMap f=l.filterMap g
  | [],_=>rfl
  | a::l,h=>by
    rw [List.filterMap_cons,List.filterMap_cons,h a (List.mem_cons_self ..),D1 fun x hx=>h x (List.mem_cons_of_mem _ hx)]
def ql (m:Nat) (acc:Option (Array (Option Nat)×Nat)) (h:Int):Option (Array (Option Nat)×Nat):=do
  let (owner,k) <- acc
  let j <- layClean.free m owner (turns m) (bits h % (m+1)) (bits h)
  pure (owner.setIfInBounds j (some k),k+1)
theorem jf {m:Nat} {hs:List Int} {ss:List Nat} {owner:Array (Option Nat)} (hm:Good m) (O:Ow m hs ss owner) (h:Int) (hl:hs.length<=m):∃ j,ql m (some (owner,ss.length)) h=some (owner.setIfInBounds j (some ss.length),ss.length+1)/\Ow m (hs++[h]) (ss++[j]) (owner.setIfInBounds j (some ss.length)):=by
  obtain ⟨j0,h0,h1⟩:∃ j,j<=m/\j ∉ ss:=by
    apply Classical.byContradiction
    intro z
    have:=zN (m+1) ss fun j hj=>Classical.byContradiction fun q=>z ⟨j,by omega,q⟩
    have:=O.len
    omega
  obtain ⟨L,hL,eL⟩:=cover (pt:=bits h) (i:=bits h % (m+1)) hm (E2 h) (Nat.le_of_lt_succ (Nat.mod_lt _ (Nat.succ_pos m))) h0
  obtain ⟨n,a1,a2,a3,a4,a5⟩:=OY O (turns m) L (bits h % (m+1)) (bits h) (Nat.le_of_lt_succ (Nat.mod_lt _ (Nat.succ_pos m))) (by show L<m+15;omega) (by rw [eL];exact h1)
  generalize hj:(go m n (dX m (bits h % (m+1)) (bits h))).j=j at a2 a3 a4
  refine ⟨j,?_,?_⟩
  · unfold ql
    dsimp only [Option.bind_eq_bind,Option.bind_some]
    rw [a2]
    rfl
  · have sj:j<owner.size:=by rw [O.size];omega
    refine ⟨by rw [List.length_append,List.length_append,O.len];rfl,by rw [Array.size_setIfInBounds];exact O.size,?_,fun s hs=>?_,fun q i hq=>?_,fun q hq=>?_,fun i s h' e1 e2=>?_⟩
    · rw [List.nodup_append]
      exact ⟨O.nd,List.nodup_cons.mpr ⟨(fun z=>nomatch z),.nil⟩,fun a ha b hb z=>by rw [List.mem_singleton.mp hb] at z;exact a3 (z ▸ ha)⟩
    · rcases List.mem_append.mp hs with hs | hs
      · exact O.le s hs
      · rw [List.mem_singleton.mp hs];exact a4
    · rw [Array.getElem?_setIfInBounds]
      by_cases e:j=q
      · subst e
        rw [if_pos rfl,if_pos sj]
        constructor
        · intro z
          have:ss.length=i:=Option.some.inj (Option.some.inj z)
          subst this
          rw [List.getElem?_append_right (Nat.le_refl _),Nat.sub_self]
          rfl
        · intro z
          rcases Nat.lt_or_ge i ss.length with hi | hi
          · rw [List.getElem?_append_left hi] at z
            exact absurd (List.mem_of_getElem? z) a3
          · rw [List.getElem?_append_right hi] at z
            have:i-ss.length=0:=by
              have:=(List.getElem?_eq_some_iff.mp z).1
              rw [List.length_singleton] at this
              omega
            have:i=ss.length:=by omega
            rw [this]
      · rw [if_neg e,O.own q i hq]
        constructor
        · intro z
          rw [List.getElem?_append_left (List.getElem?_eq_some_iff.mp z).1];exact z
        · intro z
          rcases Nat.lt_or_ge i ss.length with hi | hi
          · rw [List.getElem?_append_left hi] at z;exact z
          · rw [List.getElem?_append_right hi] at z
            have:=List.mem_singleton.mp (List.mem_of_getElem? z)
            exact absurd this.symm e
    · rw [Array.getElem?_setIfInBounds]
      by_cases e:j=q
      · subst e
        rw [if_pos rfl,if_pos sj]
        exact ⟨fun z=>(nomatch Option.some.inj z),fun z=>absurd (by simp) z⟩
      · rw [if_neg e,O.emp q hq]
        refine ⟨fun z z'=>?_,fun z z'=>z (List.mem_append_left _ z')⟩
        rcases List.mem_append.mp z' with z' | z'
        · exact z z'
        · exact e (List.mem_singleton.mp z').symm
    · have sub:∀ x ∈ ss,x ∈ ss++[j]:=fun x hx=>List.mem_append_left _ hx
      rcases Nat.lt_or_ge i ss.length with hi | hi
      · rw [List.getElem?_append_left hi] at e1
        rw [List.getElem?_append_left (by rw [<- O.len];exact hi)] at e2
        exact (O.rj i s h' e1 e2).mono sub
      · rw [List.getElem?_append_right hi] at e1
        rw [List.getElem?_append_right (by rw [<- O.len];exact hi)] at e2
        have q1:=List.mem_singleton.mp (List.mem_of_getElem? e1)
        have q2:=List.mem_singleton.mp (List.mem_of_getElem? e2)
        subst q1 q2
        exact ⟨n,a1,hj,fun k hk=>sub _ (a5 k hk)⟩
theorem E3 {m:Nat} (hm:Good m):∀ (rest hs:List Int) (ss:List Nat) (owner:Array (Option Nat)),Ow m hs ss owner->hs.length+rest.length<=m+1->∃ uy sV,rest.foldl (ql m) (some (owner,ss.length))=some (sV,uy.length)/\Ow m (hs++rest) uy sV
  | [],hs,ss,owner,O,_=>⟨ss,owner,rfl,by rw [List.append_nil];exact O⟩
  | h::rest,hs,ss,owner,O,hl=>by
    rw [List.length_cons] at hl
    obtain ⟨j,h1,h2⟩:=jf hm O h (by omega)
    obtain ⟨uy,sV,h3,h4⟩:=E3 hm rest (hs++[h]) (ss++[j]) _ h2 (by rw [List.length_append,List.length_singleton];omega)
    refine ⟨uy,sV,?_,by rw [List.append_assoc] at h4;exact h4⟩
    rw [List.foldl_cons,h1,<- h3,List.length_append]
    rfl
theorem PX {m:Nat} (hm:Good m) (hs:Array Int) (hl:hs.size<=m+1):∃ ss owner,layClean m hs=some owner/\Ow m hs.toList ss owner:=by
  have O0:Ow m [] [] (Array.replicate (m+1) none):=by
    refine ⟨rfl,Array.size_replicate,.nil,(fun s h=>nomatch h),fun j i hj=>?_,fun j hj=>?_,fun i s h e=>by cases e⟩
    · rw [Array.getElem?_replicate,if_pos (by omega)]
      exact ⟨fun z=>(nomatch Option.some.inj z),fun z=>(nomatch z)⟩
    · rw [Array.getElem?_replicate,if_pos (by omega)]
      exact ⟨fun _ z=>(nomatch z),fun _=>rfl⟩
  obtain ⟨ss,owner,h1,h2⟩:=E3 hm hs.toList [] [] _ O0 (by simpa using hl)
  refine ⟨ss,owner,?_,by simpa using h2⟩
  show (hs.foldl (ql m) (some (Array.replicate (m+1) none,0)) |>.map (·.1))=some owner
  rw [<- Array.foldl_toList]
  have jB:hs.toList.foldl (ql m) (some (Array.replicate (m+1) none,0))=some (owner,ss.length):=h1
  rw [jB]
  rfl
theorem Rm {m:Nat} (hm:Good m) {L:List Ent} (hl:L.length<=m+1) (nd:(L.map (·.2.1)).Nodup) (fg mv:Nat) (led plain:Bool) :
    ∃ (L':List Ent) (order:Array Nat),laid m fg mv led plain ((L.map (·.2)).toArray.map (·.1))=some ({ mask:=m,place:=(L'.map (·.1)).toArray,dummies:=#[],finger:=fg,led:=led,moves:=mv,plain:=plain },order)/\order.filterMap ((L.map (·.2)).toArray[·]?)=(L'.map (·.2)).toArray/\(L'.map (·.2)).Perm (L.map (·.2)) /\
      (L'.map (·.1)).Pairwise (· < ·)/\(∀ e ∈ L',e.1<=m)/\∀ e ∈ L',iY m (L'.map (·.1)) e.2.1 e.1:=by
  have eh:((L.map (·.2)).toArray.map (·.1)).toList=L.map (·.2.1):=by simp
  obtain ⟨ss,owner,h1,O⟩:=PX hm ((L.map (·.2)).toArray.map (·.1)) (by simpa using hl)
  rw [eh] at O
  have sl:ss.length=L.length:=by rw [O.len,List.length_map]
  obtain ⟨live,yb⟩:∃ live,live=(List.range (m+1)).filterMap fun j=>(owner.getD j none).map (j,·):=⟨_,rfl⟩
  have mem:∀ j i,(j,i) ∈ live ↔ ss[i]?=some j:=fun j i=>by
    rw [yb,List.mem_filterMap]
    constructor
    · rintro ⟨q,hq,e⟩
      have hq:=List.mem_range.mp hq
      have sq:q<owner.size:=by rw [O.size];omega
      rw [Array.getD_eq_getD_getElem?,Array.getElem?_eq_getElem sq,Option.getD_some] at e
      obtain ⟨i',e1,e2⟩:=Option.map_eq_some_iff.mp e
      cases e2
      exact (O.own j i (by omega)).mp (by rw [Array.getElem?_eq_getElem sq,e1])
    · intro e
      have hj:=O.le j (List.mem_of_getElem? e)
      have sq:j<owner.size:=by rw [O.size];omega
      refine ⟨j,List.mem_range.mpr (by omega),?_⟩
      have:=(O.own j i hj).mpr e
      rw [Array.getD_eq_getD_getElem?,this]
      rfl
  have lt:∀ q ∈ live,q.2<L.length:=fun q hq=>by
    have:=(List.getElem?_eq_some_iff.mp ((mem q.1 q.2).mp hq)).1
    omega
  have up:(live.map (·.1)).Pairwise (· < ·):=by
    rw [yb,List.pairwise_map,List.pairwise_filterMap]
    refine (List.pairwise_lt_range (n:=m+1)).imp fun {a b} cg x hx y hy=>?_
    obtain ⟨_,_,rfl⟩:=Option.map_eq_some_iff.mp hx
    obtain ⟨_,_,rfl⟩:=Option.map_eq_some_iff.mp hy
    exact cg
  obtain ⟨L',uz⟩:∃ L':List Ent,L'=live.map fun q=>(q.1,(L.getD q.2 (0,0,.none)).2):=⟨_,rfl⟩
  have e1:L'.map (·.1)=live.map (·.1):=by rw [uz,List.map_map];rfl
  have gd:∀ i,i<L.length->∃ e,L[i]?=some e/\L.getD i (0,0,.none)=e:=fun i hi=>⟨L[i],List.getElem?_eq_getElem hi,by rw [List.getD_eq_getElem?_getD,List.getElem?_eq_getElem hi];rfl⟩
  have tV:∀ e,e ∈ L' ↔ ∃ (i:Nat) (e0:Ent),ss[i]?=some e.1/\L[i]?=some e0/\e.2=e0.2:=fun e=>by
    rw [uz,List.mem_map]
    constructor
    · rintro ⟨q,hq,rfl⟩
      obtain ⟨e0,z1,z2⟩:=gd q.2 (lt q hq)
      exact ⟨q.2,e0,(mem q.1 q.2).mp hq,z1,by show (L.getD q.2 _).2=_;rw [z2]⟩
    · rintro ⟨i,e0,z1,z2,z3⟩
      refine ⟨(e.1,i),(mem e.1 i).mpr z1,?_⟩
      show (e.1,(L.getD i _).2)=e
      rw [List.getD_eq_getElem?_getD,z2,Option.getD_some,<- z3]
  have Ki:(L'.map (·.2.1)).Nodup:=by
    rw [uz,List.map_map]
    unfold List.Nodup
    rw [List.pairwise_map]
    rw [List.pairwise_map] at up
    refine up.imp_of_mem fun {a b} ha hb cg z=>?_
    obtain ⟨ea,a1,a2⟩:=gd a.2 (lt a ha)
    obtain ⟨eb,b1,b2⟩:=gd b.2 (lt b hb)
    have z':ea.2.1=eb.2.1:=by rw [<- a2,<- b2];exact z
    have:a.2=b.2:=by
      refine (List.getElem_inj (xs:=L.map (·.2.1)) (h₀:=by rw [List.length_map];exact lt a ha) (h₁:=by rw [List.length_map];exact lt b hb) nd).mp ?_
      rw [List.getElem_map,List.getElem_map,(List.getElem?_eq_some_iff.mp a1).2,(List.getElem?_eq_some_iff.mp b1).2,z']
    have s1:=(mem a.1 a.2).mp ha
    have s2:=(mem b.1 b.2).mp hb
    rw [this,s2] at s1
    have:=Option.some.inj s1
    omega
  refine ⟨L',(live.map (·.2)).toArray,?_,?_,?_,by rw [e1];exact up,fun e he=>?_,fun e he=>?_⟩
  · unfold laid
    rw [h1]
    dsimp only [Option.bind_eq_bind,Option.bind_some,Option.pure_def]
    rw [<- yb,e1]
  · apply Array.ext'
    rw [Array.toList_filterMap]
    show (live.map (·.2)).filterMap _=L'.map (·.2)
    rw [List.filterMap_map,uz,List.map_map,show ∀ (f:Nat×Nat->Int×Value),live.map f=live.filterMap (some ∘ f) from fun f=>by rw [List.filterMap_eq_map]]
    refine D1 fun q hq=>?_
    obtain ⟨e0,z1,z2⟩:=gd q.2 (lt q hq)
    show (L.map (·.2)).toArray[q.2]?=some (L.getD q.2 (0,0,.none)).2
    rw [List.getElem?_toArray,List.getElem?_map,z1,z2]
    rfl
  · have nd1:(L'.map (·.2)).Nodup:=by
      have:(L'.map (·.2)).map (·.1)=L'.map (·.2.1):=by rw [List.map_map];rfl
      rw [<- this] at Ki
      exact List.Pairwise.of_map _ (fun a b cg z=>cg (by rw [z])) Ki
    have nd2:(L.map (·.2)).Nodup:=by
      have:(L.map (·.2)).map (·.1)=L.map (·.2.1):=by rw [List.map_map];rfl
      rw [<- this] at nd
      exact List.Pairwise.of_map _ (fun a b cg z=>cg (by rw [z])) nd
    refine (List.perm_ext_iff_of_nodup nd1 nd2).mpr fun x=>?_
    rw [List.mem_map,List.mem_map]
    constructor
    · rintro ⟨e,he,rfl⟩
      obtain ⟨i,e0,_,z2,z3⟩:=(tV e).mp he
      exact ⟨e0,List.mem_of_getElem? z2,z3.symm⟩
    · rintro ⟨e0,he,rfl⟩
      obtain ⟨i,hi,ei⟩:=List.getElem_of_mem he
      have z2:L[i]?=some e0:=by rw [List.getElem?_eq_getElem hi,ei]
      exact ⟨(ss[i]'(by omega),e0.2),(tV _).mpr ⟨i,e0,List.getElem?_eq_getElem (by omega),z2,rfl⟩,rfl⟩
  · obtain ⟨i,e0,z1,_,_⟩:=(tV e).mp he
    exact O.le _ (List.mem_of_getElem? z1)
  · obtain ⟨i,e0,z1,z2,z3⟩:=(tV e).mp he
    have:=O.rj i e.1 e.2.1 z1 (by rw [List.getElem?_map,z2,z3];rfl)
    refine this.mono fun s hs=>?_
    obtain ⟨q,hq,eq⟩:=List.getElem_of_mem hs
    rw [e1]
    exact List.mem_map.mpr ⟨(s,q),(mem s q).mpr (by rw [List.getElem?_eq_getElem hq,eq]),rfl⟩
end Ts
namespace Ts
open PySem PySem.Spec PyProof.Rows
def hP (p:Nat×Nat):Int:=reduceHash (Builtin.Tuple.tupleHashOf [hashInt (p.1:Int),hashInt (p.2:Int)])
def jw:List (Nat×Nat):=(List.range 7).flatMap fun a=>(List.range 7).map fun b=>(a,b)
theorem Gr {p q:Nat×Nat} (hp:p.1<=6/\p.2<=6) (hq:q.1<=6/\q.2<=6) (h:hP p=hP q):p=q:=by
  have key:(jw.all fun p=>jw.all fun q=>decide (hP p=hP q->p=q))=true:=by decide +kernel
  have mem:∀ p:Nat×Nat,p.1<=6/\p.2<=6->p ∈ jw:=fun p h=>List.mem_flatMap.mpr ⟨p.1,List.mem_range.mpr (by omega),List.mem_map.mpr ⟨p.2,List.mem_range.mpr (by omega),rfl⟩⟩
  have:=List.all_eq_true.mp (List.all_eq_true.mp key p (mem p hp)) q (mem q hq)
  exact of_decide_eq_true this h
abbrev kP (p:Nat×Nat):List L2.Key:=[.inl (p.1:Int),.inl (p.2:Int)]
def dY (h:Heap) (p:Nat×Nat) (a:Addr):Prop:=∃ o n t u,h.get? a=some o/\o.cls=.type "tuple" /\ o.data=.seq #[.int (p.1:Int) t,.int (p.2:Int) u] n
theorem dY.key {prog:Program} {w:World} {h:Heap} {p:Nat×Nat} {a:Addr} (x:dY h p a):IsTupleKey (L2.jP prog w) h (kP p) a:=by
  obtain ⟨o,n,t,u,h1,h2,h3⟩:=x
  exact ⟨o,_,n,h1,h2,h3,.cons (L2.C1 _ _ _ _) (.cons (L2.C1 _ _ _ _) .nil)⟩
theorem dY.typeIs {s:Shared} {p:Nat×Nat} {a:Addr} (x:dY s.heap p a):s.TypeIs (.ref a) "tuple" := let ⟨o,_,_,_,ho,hc,_⟩:=x;⟨o,ho,hc⟩
theorem dY.at {h h':Heap} {p:Nat×Nat} {a:Addr} (x:dY h p a) (e:∀ o,h.get? a=some o->h'.get? a=some o):dY h' p a:=let ⟨o,n,t,u,ho,r⟩:=x;⟨o,n,t,u,e o ho,r⟩
section
variable {prog:Program} {w:World} {A:Around} {E:Value->Shared->Prop} {s:Shared}
theorem TZ {p:Nat×Nat} {a:Addr} {Q:Bool->Shared->Prop} (x:dY s.heap p a) (h:Q true s):wpAny (model prog w) A (hashByValue 8 (.ref a)) Q E s:=by
  have hT:=x.typeIs
  obtain ⟨o,n,t,u,ho,_,hd⟩:=x
  unfold hashByValue
  refine wpAny_bind (wpAny_specialOf hT F.slot_tuple_hash.lookup ?_)
  show wpAny _ _ (seqItems? (.ref a) >>= _) _ _ s
  refine wpAny_bind (wpAny_seqItems ho hd ?_)
  refine wpAny_bind ?_
  show wpAny _ _ (forIn (#[Value.int (p.1:Int) t,Value.int (p.2:Int) u]) _ _) _ _ s
  rw [<- Array.forIn_toList]
  refine wpAny_forIn_list _ (fun rest r s'=>r.1=none/\s'=s/\∀ v ∈ rest,∃ i t,v=Value.int i t) _ ?_ ?_ _ _ ⟨rfl,rfl,fun v hv=>?_⟩
  · rintro v rest r s' ⟨hr,rfl,fU⟩
    obtain ⟨i,t',rfl⟩:=fU v List.mem_cons_self
    unfold hashByValue
    refine wpAny_bind (wpAny_pure ?_)
    simp only [Bool.not_true,Bool.false_eq_true,if_false]
    exact wpAny_pure ⟨rfl,rfl,fun u aQ=>fU u (List.mem_cons_of_mem _ aQ)⟩
  · rintro ⟨r1,r2⟩ s' ⟨hr,rfl,_⟩
    simp only at hr
    subst hr
    exact wpAny_pure h
  · rcases List.mem_cons.mp hv with rfl | hv
    · exact ⟨_,_,rfl⟩
    · rw [List.mem_singleton.mp hv];exact ⟨_,_,rfl⟩
theorem ofClass {p:Nat×Nat} {a:Addr} {Q:Bool->Shared->Prop} (x:dY s.heap p a) (h:Q false s):wpAny (model prog w) A (ofAClassStatement 8 (.ref a)) Q E s:=by
  have hT:=x.typeIs
  obtain ⟨o,n,t,u,ho,_,hd⟩:=x
  unfold ofAClassStatement
  refine wpAny_bind (wpAny_typeOf hT ?_)
  dsimp only
  rw [if_pos (by decide)]
  refine wpAny_bind (wpAny_pure ?_)
  simp only [Bool.not_true,Bool.false_eq_true,if_false]
  refine wpAny_bind (wpAny_seqItems ho hd ?_)
  dsimp only
  refine wpAny_bind ?_
  rw [<- Array.forIn_toList]
  refine wpAny_forIn_list _ (fun rest r s'=>r.1=none/\s'=s/\∀ v ∈ rest,∃ i t,v=Value.int i t) _ ?_ ?_ _ _ ⟨rfl,rfl,fun v hv=>?_⟩
  · rintro v rest r s' ⟨hr,rfl,fU⟩
    obtain ⟨i,t',rfl⟩:=fU v List.mem_cons_self
    unfold ofAClassStatement
    refine wpAny_bind (wpAny_pure ?_)
    simp only [Bool.false_eq_true,if_false]
    exact wpAny_pure ⟨rfl,rfl,fun u aQ=>fU u (List.mem_cons_of_mem _ aQ)⟩
  · rintro ⟨r1,r2⟩ s' ⟨hr,rfl,_⟩
    simp only at hr
    subst hr
    exact wpAny_pure h
  · rcases List.mem_cons.mp hv with rfl | hv
    · exact ⟨_,_,rfl⟩
    · rw [List.mem_singleton.mp hv];exact ⟨_,_,rfl⟩
theorem seen {p:Nat×Nat} {a:Addr} {l:List Value} {Q:Bool->Shared->Prop} (x:dY s.heap p a) (hl:∀ v ∈ l,∃ q b,v=.ref b/\dY s.heap q b) (h:Q false s):wpAny (model prog w) A (searchCouldBeSeen (.ref a) l) Q E s:=by
  unfold searchCouldBeSeen
  refine wpAny_bind ?_
  refine wpAny_forIn_list _ (fun rest r s'=>r.1=none/\s'=s/\∀ v ∈ rest,∃ q b,v=.ref b/\dY s.heap q b) _ ?_ ?_ _ _ ⟨rfl,rfl,hl⟩
  · rintro v rest r s' ⟨hr,rfl,fU⟩
    obtain ⟨q,b,rfl,xb⟩:=fU v List.mem_cons_self
    dsimp only
    by_cases cg:(a==b)=true
    · rw [if_pos (by rw [cg];rfl)]
      exact wpAny_pure ⟨rfl,rfl,fun u aQ=>fU u (List.mem_cons_of_mem _ aQ)⟩
    · rw [if_neg (by rw [Bool.not_eq_true] at cg;rw [cg];exact Bool.false_ne_true)]
      refine wpAny_bind (wpAny_eqIsQuiet_tuple (knd:=L2.jP prog w) x.key ?_)
      simp only [Bool.not_true,Bool.false_eq_true,if_false]
      refine wpAny_bind (wpAny_eqIsQuiet_tuple (knd:=L2.jP prog w) xb.key ?_)
      simp only [Bool.not_true,Bool.false_eq_true,if_false]
      refine wpAny_bind (ofClass x ?_)
      simp only [Bool.false_eq_true,if_false]
      refine wpAny_bind (ofClass xb ?_)
      simp only [Bool.false_eq_true,if_false]
      exact wpAny_pure ⟨rfl,rfl,fun u aQ=>fU u (List.mem_cons_of_mem _ aQ)⟩
  · rintro ⟨r1,r2⟩ s' ⟨hr,rfl,_⟩
    simp only at hr
    subst hr
    exact wpAny_pure h
def eX (led:Bool) (h:Heap) (S:Addr) (L:List Ent):Prop:=∃ o t ep,h.get? S=some o/\o.ExactSet/\o.data=.set (L.map (·.2)).toArray ep t/\Tb led t L
theorem eX.at {led:Bool} {h h':Heap} {a:Addr} {L:List Ent} (x:eX led h a L) (e:∀ o,h.get? a=some o->h'.get? a=some o):eX led h' a L :=
  let ⟨o,t,ep,ho,r⟩:=x;⟨o,t,ep,e o ho,r⟩
def Ek (h:Heap) (e:Int×Value) (p:Nat×Nat):Prop:=(p.1<=6/\p.2<=6)/\∃ a,e=(hP p,.ref a)/\dY h p a
theorem Dz {L:List Ent} (i:Nat) (e:Ent) (h:L[i]?=some e):(((L.map (·.2)).toArray[i]?).map (·.1)).getD 0=e.2.1:=by
  rw [List.getElem?_toArray,List.getElem?_map,h];rfl
theorem Iv {m:Nat} (h:Good m):(m % 2==0)=false:=by rcases h with rfl | rfl | rfl<;>rfl
theorem N1 {led:Bool} {S a:Addr} {L:List Ent} {p:Nat×Nat} {o:Obj} {t:SetTable} {ep:Nat} {Q:SetFound->Shared->Prop} (hu:A.units<cLine) (ho:s.heap.get? S=some o) (hd:o.data=.set (L.map (·.2)).toArray ep t) (T:Tb led t L) (hE:∀ e ∈ L,∃ q,Ek s.heap e.2 q) (x:dY s.heap p a) (sp:p.1<=6/\p.2<=6) {e:Ent} (he:e ∈ L) (hh:e.2.1=hP p) (h:Q (.there none) s) :
    wpAny (model prog w) A (setSearch S (.ref a) (hP p) true) Q E s:=by
  obtain ⟨i,hi,ei⟩:=List.getElem_of_mem he
  have iB:L[i]?=some e:=by rw [List.getElem?_eq_getElem hi,ei]
  obtain ⟨nx,hp⟩:=T.hit (hashAt:=fun i=>(((L.map (·.2)).toArray[i]?).map (·.1)).getD 0) Dz iB
  rw [hh] at hp
  obtain ⟨q,sq,b,eb,xb⟩:=hE e he
  have pq:q=p:=Gr sq sp (by rw [<- hh,eb])
  subst pq
  unfold setSearch
  show wpAny _ _ (setSearchFrom S (.ref a) (hP q) true (99999+1) none) _ _ _
  unfold setSearchFrom
  refine wpAny_bind (wpAny_setState_of ho hd T.fits ?_)
  dsimp only
  rw [if_neg (by show ¬ (t.mask % 2==0)=true;rw [Iv T.mask];exact Bool.false_ne_true)]
  have qP:t.probe (fun i=>(((L.map (·.2)).toArray[i]?).map (·.1)).getD 0) (hP q) ((none:Option SetTable.Probe).getD (t.probeStart (hP q)))=some (.candidate e.1 i nx):=hp
  refine wpAny_bind (wpAny_pure ?_)
  show wpAny _ _ (match t.probe (fun i=>(((L.map (·.2)).toArray[i]?).map (·.1)).getD 0) (hP q) ((none:Option SetTable.Probe).getD (t.probeStart (hP q))) with | some met=>_ | _=>_) _ _ _
  rw [qP]
  dsimp only
  have tail:wpAny (model prog w) A (do
      let some (_,y):=(L.map (·.2)).toArray[i]? | unsupported "internal:set-entry"
      let equal <- holding [y] (eqBool y (.ref a))
      let (j9,_,t') <- setState S
      if true&&equal then return .there none
      let some same:=t'.sameMemory t.moves t.mask | unsupported "set.changed-during-lookup:is-the-new-block-at-the-old-address"
      let T1 <- match (if same then t'.slot e.1 else .empty) with
        | .live i'=>match j9[i']? with
          | some (_,y')=>do pure (if <- isSame y' y then some i' else none)
          | none=>pure none
        | _=>pure none
      match T1 with
      | none=>rule "set.search.anew"; setSearchFrom S (.ref a) (hP q) true 99999 none
      | some i'=>if equal then return .there (some i') else setSearchFrom S (.ref a) (hP q) true 99999 (some nx)) Q E s:=by
    have eg:(L.map (·.2)).toArray[i]?=some (hP q,.ref b):=by rw [List.getElem?_toArray,List.getElem?_map,iB,<- eb];rfl
    rw [eg]
    dsimp only
    refine wpAny_bind (wpAny_holding (wpAny_eqBool_tuple (knd:=L2.jP prog w) hu xb.key x.key ?_))
    rw [decide_eq_true rfl]
    refine wpAny_bind (wpAny_setState_of ho hd T.fits ?_)
    dsimp only
    simp only [Bool.and_self,if_true]
    exact wpAny_pure h
  by_cases hl:t.led=true
  · rw [if_neg (by rw [hl];decide)]
    exact tail
  · rw [if_pos (by simpa using hl)]
    refine wpAny_bind (seen x (fun v hv=>?_) ?_)
    · obtain ⟨y,hy,rfl⟩:=List.mem_map.mp hv
      have hy:=(Array.mem_filter.mp (Array.mem_toList_iff.mp hy)).1
      have cf:y ∈ L.map (·.2):=by simpa using hy
      obtain ⟨e',gQ,rfl⟩:=List.mem_map.mp cf
      obtain ⟨q',_,b',eb',xb'⟩:=hE e' gQ
      exact ⟨q',b',by rw [eb'],xb'⟩
    · simp only [Bool.false_eq_true,if_false]
      exact tail
theorem Nr {led:Bool} {S a:Addr} {L:List Ent} {h0:Int} {o:Obj} {t:SetTable} {ep:Nat} {Q:SetFound->Shared->Prop} (ho:s.heap.get? S=some o) (hd:o.data=.set (L.map (·.2)).toArray ep t) (T:Tb led t L) (hn:h0 ∉ L.map (·.2.1)) (h:∀ j,j ∉ L.map (·.1)->j<=t.mask->iY t.mask (L.map (·.1)) h0 j->Q (.free j false) s) :
    wpAny (model prog w) A (setSearch S (.ref a) h0 true) Q E s:=by
  obtain ⟨j,hp,j1,j2,r⟩:=T.miss (hashAt:=fun i=>(((L.map (·.2)).toArray[i]?).map (·.1)).getD 0) Dz hn
  unfold setSearch
  show wpAny _ _ (setSearchFrom S (.ref a) h0 true (99999+1) none) _ _ _
  unfold setSearchFrom
  refine wpAny_bind (wpAny_setState_of ho hd T.fits ?_)
  dsimp only
  rw [if_neg (by show ¬ (t.mask % 2==0)=true;rw [Iv T.mask];exact Bool.false_ne_true)]
  refine wpAny_bind (wpAny_pure ?_)
  have qP:t.probe (fun i=>(((L.map (·.2)).toArray[i]?).map (·.1)).getD 0) h0 ((none:Option SetTable.Probe).getD (t.probeStart h0))=some (.empty j none):=hp
  show wpAny _ _ (match t.probe (fun i=>(((L.map (·.2)).toArray[i]?).map (·.1)).getD 0) h0 ((none:Option SetTable.Probe).getD (t.probeStart h0)) with | some met=>_ | _=>_) _ _ _
  rw [qP]
  exact wpAny_pure (h j j1 j2 r)
end
end Ts
namespace Ts
open PySem PySem.Spec PyProof.Rows
theorem N3 {t:SetTable} {L:List Ent} (hm:t.mask=7/\L.length=5\/t.mask=31/\L.length=19) (nd:(L.map (·.2.1)).Nodup) (hp:t.plain=true):∃ (L':List Ent) (t':SetTable) (order:Array Nat),t.relaid ((L.map (·.2)).toArray.map (·.1)) (SetTable.grown L.length)=some (t',order)/\order.filterMap ((L.map (·.2)).toArray[·]?)=(L'.map (·.2)).toArray/\(L'.map (·.2)).Perm (L.map (·.2))/\Tb t.led t' L'/\SetTable.sizeAbove (SetTable.grown L.length)<=1000:=by
  have key:∀ m,SetTable.sizeAbove (SetTable.grown L.length)-1=m->Good m->L.length*5<m*3->∃ (L':List Ent) (t':SetTable) (order:Array Nat),t.relaid ((L.map (·.2)).toArray.map (·.1)) (SetTable.grown L.length)=some (t',order)/\order.filterMap ((L.map (·.2)).toArray[·]?)=(L'.map (·.2)).toArray/\(L'.map (·.2)).Perm (L.map (·.2))/\Tb t.led t' L':=by
    intro m em gm hr
    obtain ⟨L',order,h1,h2,h3,h4,h5,h6⟩:=Rm gm (L:=L) (by omega) nd t.finger (t.movedTo m) t.led t.plain
    have hl:L'.length=L.length:=by
      have:=h3.length_eq
      rw [List.length_map,List.length_map] at this
      exact this
    refine ⟨L',{ mask:=m,place:=(L'.map (·.1)).toArray,dummies:=#[],finger:=t.finger,led:=t.led,moves:=t.movedTo m,plain:=t.plain },order,?_,h2,h3,⟨rfl,rfl,hp,rfl,gm,by rw [hl];exact hr,h4,h5,?_,h6⟩⟩
    · unfold SetTable.relaid
      rw [em]
      exact h1
    · have:=h3.map (·.1)
      rw [List.map_map,List.map_map] at this
      exact this.nodup_iff.mpr nd
  rcases hm with ⟨h1,h2⟩ | ⟨h1,h2⟩
  · have e:SetTable.sizeAbove (SetTable.grown L.length)=32:=by rw [h2];decide
    obtain ⟨L',t',order,a⟩:=key 31 (by rw [e]) (.inr (.inl rfl)) (by omega)
    exact ⟨L',t',order,a.1,a.2.1,a.2.2.1,a.2.2.2,by omega⟩
  · have e:SetTable.sizeAbove (SetTable.grown L.length)=128:=by rw [h2];decide
    obtain ⟨L',t',order,a⟩:=key 127 (by rw [e]) (.inr (.inr rfl)) (by omega)
    exact ⟨L',t',order,a.1,a.2.1,a.2.2.1,a.2.2.2,by omega⟩
section
variable {prog:Program} {w:World} {A:Around} {E:Value->Shared->Prop} {s:Shared}
theorem Ro {led:Bool} {S a:Addr} {L:List Ent} {p:Nat×Nat} {Q:Bool->Shared->Prop} (hu:A.units<cLine) (hS:eX led s.heap S L) (hE:∀ e ∈ L,∃ q,Ek s.heap e.2 q) (x:dY s.heap p a) (sp:p.1<=6/\p.2<=6) (hh:hP p ∈ L.map (·.2.1)) (h:Q false s) :
    wpAny (model prog w) A (setAddHashed S (.ref a) (hP p)) Q E s:=by
  obtain ⟨o,t,ep,ho,hex,hd,T⟩:=hS
  obtain ⟨e,he,eh⟩:=List.mem_map.mp hh
  unfold setAddHashed
  refine wpAny_holding ?_
  show wpAny _ _ (setAddHashedIn S (.ref a) (hP p) (99999+1)) _ _ _
  unfold setAddHashedIn
  refine wpAny_bind (wpAny_setState_of ho hd T.fits ?_)
  dsimp only
  rw [if_neg (show ¬ byScan (.ref a) (L.map (·.2)).toArray=true from Bool.false_ne_true)]
  refine wpAny_bind (N1 hu ho hd T hE x sp he eh ?_)
  exact wpAny_pure h
theorem Rp {led:Bool} {S a:Addr} {L:List Ent} {p:Nat×Nat} {Q:Bool->Shared->Prop} (hS:eX led s.heap S L) (hl:L.length<70) (x:dY s.heap p a) (hh:hP p ∉ L.map (·.2.1))
    (h:∀ h' L',Heap.SameBut S s.heap h'->eX led h' S L'->(L'.map (·.2)).Perm ((hP p,.ref a)::L.map (·.2))->Q true { s with heap:=h' }) :
    wpAny (model prog w) A (setAddHashed S (.ref a) (hP p)) Q E s:=by
  obtain ⟨o,t,ep,ho,hex,hd,T⟩:=hS
  have big:sizeLine=16777216:=sizeLine_eq
  unfold setAddHashed
  refine wpAny_holding ?_
  show wpAny _ _ (setAddHashedIn S (.ref a) (hP p) (99999+1)) _ _ _
  unfold setAddHashedIn
  refine wpAny_bind (wpAny_setState_of ho hd T.fits ?_)
  dsimp only
  rw [if_neg (show ¬ byScan (.ref a) (L.map (·.2)).toArray=true from Bool.false_ne_true)]
  refine wpAny_bind (Nr ho hd T hh fun j j1 j2 r=>?_)
  dsimp only
  refine wpAny_bind (wpAny_setState_of ho hd T.fits ?_)
  dsimp only
  obtain ⟨k,k1,k2,k3,k4,k5⟩:=T.put (x:=.ref a) hh j1 j2 r
  generalize hN:dC L k (j,hP p,Value.ref a)=N at k1 k2 k3 k4 k5
  have pm:(N.map (·.2)).Perm ((hP p,.ref a)::L.map (·.2)):=by rw [<- hN];exact (D0 L k _).map (·.2)
  have nl:N.length=L.length+1:=by
    have:=pm.length_eq
    rw [List.length_map,List.length_cons,List.length_map] at this
    exact this
  rw [k1]
  dsimp only
  rw [if_pos (show ({ t with place:=(N.map (·.1)).toArray }:SetTable).plain=true from T.plain)]
  refine wpAny_bind (TZ x ?_)
  rw [if_pos rfl]
  have tp:({ t with place:=(N.map (·.1)).toArray }:SetTable).plain=true:=T.plain
  have tl:({ t with place:=(N.map (·.1)).toArray }:SetTable).led=led:=T.led
  have tm:({ t with place:=(N.map (·.1)).toArray }:SetTable).mask=t.mask:=rfl
  have zQ:({ t with place:=(N.map (·.1)).toArray }:SetTable).place=(N.map (·.1)).toArray:=rfl
  have Kj:({ t with place:=(N.map (·.1)).toArray }:SetTable).dummies = #[]:=T.rh
  generalize hT1:({ t with place:=(N.map (·.1)).toArray }:SetTable)=t1 at k3 tp tl tm zQ Kj
  rw [k2]
  have bS:(N.map (·.2)).toArray.size=N.length:=by rw [List.size_toArray,List.length_map]
  refine wpAny_bind (wpAny_storeSet_of ho hd ?_ (by rw [bS];omega))
  have hg:(s.heap.update S (Obj.putSet (N.map (·.2)).toArray t1)).get? S=some { o with data:=.set (N.map (·.2)).toArray (ep+1) t1 }:=by
    have:=Heap.get?_update_self (Obj.putSet (N.map (·.2)).toArray t1) ho (by rw [putSet_of _ _ hd];rfl)
    rw [putSet_of _ _ hd] at this
    exact this
  have fill:t1.fill=N.length:=by unfold SetTable.fill;rw [zQ,Kj,List.size_toArray,List.length_map];rfl
  have full:t1.tooFull=decide (t.mask*3<=N.length*5):=by
    unfold SetTable.tooFull
    rw [fill,tm]
  by_cases hf:t.mask*3<=N.length*5
  · rw [if_pos (by rw [full,decide_eq_true hf];rfl)]
    have r0:=T.room
    have hm:t1.mask=7/\N.length=5\/t1.mask=31/\N.length=19:=by
      rw [tm]
      rcases T.mask with z | z | z<;>omega
    have UC:t1.fits (N.map (·.2)).toArray.size=true:=by
      unfold SetTable.fits
      rw [fill,zQ,bS,List.size_toArray,List.length_map,tm]
      rcases T.mask with z | z | z<;>(simp;omega)
    obtain ⟨L',t',order,a1,a2,a3,a4,a5⟩:=N3 hm k5 tp
    have l':L'.length=N.length:=by
      have:=a3.length_eq
      rw [List.length_map,List.length_map] at this
      exact this
    refine wpAny_bind ?_
    unfold setRelay
    refine wpAny_bind (wpAny_setState_of (s:={ s with heap:=_ }) hg rfl UC ?_)
    dsimp only
    have eg:(L.map (·.2)).toArray.size+1=N.length:=by rw [List.size_toArray,List.length_map,nl]
    rw [eg,if_neg (by omega),a1]
    have Kk:∀ {Q':(Array (Int×Value)×SetTable)->Shared->Prop} {s1:Shared},Q' ((L'.map (·.2)).toArray,t') s1->wpAny (model prog w) A (do
        let some (t,order):=(some (t',order):Option (SetTable×Array Nat)) | unsupported "internal:set-table-without-room"
        let j9:=order.filterMap ((N.map (·.2)).toArray[·]?)
        if j9.size != (N.map (·.2)).toArray.size then unsupported "internal:set-table-lost-an-element"
        pure (j9,t)) Q' E s1:=fun {Q' s1} hq=>by
      dsimp only
      rw [a2,if_neg (by rw [List.size_toArray,List.size_toArray,List.length_map,List.length_map,l'];simp)]
      exact wpAny_pure hq
    refine wpAny_bind (Kk ?_)
    dsimp only
    refine wpAny_storeSet_of (s:={ s with heap:=_ }) hg rfl ?_ (by rw [List.size_toArray,List.length_map];omega)
    refine wpAny_pure ?_
    have iT:=Heap.get?_update_self (Obj.putSet (L'.map (·.2)).toArray t') hg (by rw [putSet_of _ _ rfl];rfl)
    rw [putSet_of _ _ rfl] at iT
    rw [tl] at a4
    exact h _ L' ((Heap.SameBut.update ..).trans (Heap.SameBut.update ..)) ⟨_,_,_,iT,hex,rfl,a4⟩ (a3.trans pm)
  · rw [if_neg (by rw [full,decide_eq_false hf];decide)]
    exact wpAny_pure (h _ N (Heap.SameBut.update ..) ⟨_,_,_,hg,hex,rfl,k3 (by omega)⟩ pm)
end
end Ts
namespace Ts
open PySem PySem.Spec PyProof.Rows
theorem xP {α:Type} [DecidableEq α]:∀ (l m:List α),l.Nodup->(∀ x ∈ l,x ∈ m)->l.length<=m.length
  | [],m,_,_=>Nat.zero_le _
  | a::l,m,nd,h=>by
    rw [List.nodup_cons] at nd
    have ha:=h a (List.mem_cons_self ..)
    have:=xP l (m.erase a) nd.2 fun x hx=>(List.mem_erase_of_ne (fun z:x=a=>nd.1 (z ▸ hx))).mpr (h x (List.mem_cons_of_mem _ hx))
    rw [List.length_erase_of_mem ha] at this
    have:=List.length_pos_of_mem ha
    rw [List.length_cons]
    omega
structure Acc (as:List Addr) (ps:List (Nat×Nat)) (i:Nat) (L:List Ent):Prop where
  src:∀ e ∈ L,∃ (j:Nat) (a:Addr) (p:Nat×Nat),j<i/\as[j]?=some a/\ps[j]?=some p/\e.2=(hP p,.ref a)
  all:∀ (j:Nat) (p:Nat×Nat),j<i->ps[j]?=some p->hP p ∈ L.map (·.2.1)
structure iZ (h:Heap) (as:List Addr) (ps:List (Nat×Nat)):Prop where
  len:ps.length=as.length
  small:∀ p ∈ ps,p.1<=6/\p.2<=6
  rm:∀ (j:Nat) (a:Addr) (p:Nat×Nat),as[j]?=some a->ps[j]?=some p->dY h p a
theorem iZ.at {h h':Heap} {as:List Addr} {ps:List (Nat×Nat)} (x:iZ h as ps) (e:∀ a ∈ as,∀ o,h.get? a=some o->h'.get? a=some o):iZ h' as ps :=
  ⟨x.len,x.small,fun j a p h1 h2=>(x.rm j a p h1 h2).at (e a (List.mem_of_getElem? h1))⟩
theorem Acc.len {h:Heap} {as:List Addr} {ps:List (Nat×Nat)} {i:Nat} {L:List Ent} (c:Acc as ps i L) (x:iZ h as ps) (nd:(L.map (·.2.1)).Nodup):L.length<=49:=by
  have:=xP (L.map (·.2.1)) (jw.map hP) nd fun z hz=>by
    obtain ⟨e,he,rfl⟩:=List.mem_map.mp hz
    obtain ⟨j,a,p,_,_,hp,ee⟩:=c.src e he
    have sm:=x.small p (List.mem_of_getElem? hp)
    rw [ee]
    exact List.mem_map.mpr ⟨p,List.mem_flatMap.mpr ⟨p.1,List.mem_range.mpr (by omega),List.mem_map.mpr ⟨p.2,List.mem_range.mpr (by omega),rfl⟩⟩,rfl⟩
  rw [List.length_map,List.length_map] at this
  exact this
theorem Acc.ek {h:Heap} {as:List Addr} {ps:List (Nat×Nat)} {i:Nat} {L:List Ent} (c:Acc as ps i L) (x:iZ h as ps):∀ e ∈ L,∃ q,Ek h e.2 q:=fun e he=>by
  obtain ⟨j,a,p,_,ha,hp,ee⟩:=c.src e he
  exact ⟨p,x.small p (List.mem_of_getElem? hp),a,ee,x.rm j a p ha hp⟩
section
variable {prog:Program} {w:World} {A:Around} {E:Value->Shared->Prop} {s:Shared} {R:Result->Shared->Prop} {I:Addr} {fp wr:List Addr} {n:Nat} {P:Nat->Value->Prop} {St:Nat->Heap->Prop}
theorem N4 {led:Bool} (W:Walks prog w A.in1 I fp wr n P St) (S:Addr) (Kl:S ∉ fp) {as:List Addr} {ps:List (Nat×Nat)} (hu:A.units+1<cLine) (hn:n=as.length)
    (yS:∀ i v,P i v->∃ a,as[i]?=some a/\v=.ref a) (Iw:∀ a ∈ as,a ∉ wr/\a ≠ S) :
    ∀ (k i:Nat) (s:Shared) (L:List Ent),n-i=k->i<=n->St i s.heap->iZ s.heap as ps->eX led s.heap S L->Acc as ps i L ->
      (∀ h' tk L',(∀ b o,b ∉ wr->b ≠ S->s.heap.get? b=some o->h'.get? b=some o)->eX led h' S L'->Acc as ps n L'->R (.ok (.ret .none)) { s with heap:=h',toks:=tk }) ->
      codeAny (model prog w) A (.builtin "set.update.loop" ⟨[.ref S,.ref I],[]⟩) R s:=by
  have Km:S ∉ wr:=fun h=>Kl (W.sub _ h)
  intro k
  induction k with
  | zero =>
    intro i s L hk hi qI iF hS hA hR
    have rp:i=n:=by omega
    refine codeAny_builtin F.entry_set_update_loop ?_
    rw [Around.under_plainId F.plain_set_update_loop _]
    show wpAny _ A.in1 (pyNext (.ref I) >>= _) _ _ s
    refine wpAny_bind (W.done s _ _ (rp ▸ qI) fun h' tk hm=>?_)
    show wpAny _ A.in1 (ret Value.none) _ _ _
    exact wpAny_pure (hR h' tk L (fun b o hb _ e=>hm b o hb e) (hS.at fun o e=>hm S o Km e) (rp ▸ hA))
  | succ k ih =>
    intro i s L hk hi qI iF hS hA hR
    have bx:i<n:=by omega
    refine codeAny_builtin F.entry_set_update_loop ?_
    rw [Around.under_plainId F.plain_set_update_loop _]
    show wpAny _ A.in1 (pyNext (.ref I) >>= _) _ _ s
    refine wpAny_bind (W.item i s _ _ bx qI fun v h1 tk1 hPi Iy hm=>?_)
    obtain ⟨a,ha,rfl⟩:=yS i v hPi
    have i5:eX led h1 S L:=hS.at fun o e=>hm S o Km e
    have oP:iZ h1 as ps:=iF.at fun b hb o e=>hm b o (Iw b hb).1 e
    obtain ⟨p,hp⟩:∃ p,ps[i]?=some p:=⟨_,List.getElem?_eq_getElem (by rw [iF.len];omega)⟩
    have xp:dY h1 p a:=oP.rm i a p ha hp
    have sp:=oP.small p (List.mem_of_getElem? hp)
    have nd:(L.map (·.2.1)).Nodup:=by obtain ⟨_,_,_,_,_,_,T⟩:=i5;exact T.nd
    have ll:=hA.len oP nd
    have ek:=hA.ek oP
    show wpAny _ A.in1 (holding [Value.ref a] (setAdd S (.ref a)) >>= _) _ _ _
    refine wpAny_bind (wpAny_holding ?_)
    unfold setAdd
    refine wpAny_holding ?_
    refine wpAny_bind (wpAny_pyHash_tuple (knd:=L2.jP prog w) (ks:=kP p) (by show A.units+1<cLine;exact hu) xp.key ?_)
    show wpAny _ _ (setAddHashed S (.ref a) (hP p)) _ _ _
    by_cases hh:hP p ∈ L.map (·.2.1)
    · refine Ro (s:={ s with heap:=h1,toks:=_ }) (by show A.units+1<cLine;exact hu) i5 ek xp sp hh ?_
      refine wpAny_pure ⟨plainId_quiet F.plain_set_update_loop _,ih (i+1) _ L (by omega) bx Iy oP i5 ⟨fun e he=>?_,fun j q hj hq=>?_⟩ fun h3 oQ L3 zR zS zT=>?_⟩
      · obtain ⟨j,a',q,hj,r⟩:=hA.src e he
        exact ⟨j,a',q,by omega,r⟩
      · rcases Nat.lt_or_ge j i with z | z
        · exact hA.all j q z hq
        · have:j=i:=by omega
          subst this
          rw [hp] at hq
          cases hq
          exact hh
      · exact hR h3 oQ L3 (fun b o hb uA e=>zR b o hb uA (hm b o hb e)) zS zT
    · refine Rp (s:={ s with heap:=h1,toks:=_ }) i5 (by omega) xp hh fun h2 L2 zU hS2 pm=>?_
      refine wpAny_pure ⟨plainId_quiet F.plain_set_update_loop _,ih (i+1) _ L2 (by omega) bx (W.frame _ h1 h2 Iy fun b hb o e=>?_) (oP.at fun b hb o e=>?_) hS2 ⟨fun e he=>?_,fun j q hj hq=>?_⟩ fun h3 oQ L3 zR zS zT=>?_⟩
      · rw [zU.2 b (fun h:b=S=>Kl (by rw [<- h];exact hb))];exact e
      · show h2.get? b=some o
        rw [zU.2 b (Iw b hb).2];exact e
      · have he2:e.2 ∈ (hP p,Value.ref a)::L.map (·.2):=pm.mem_iff.mp (List.mem_map.mpr ⟨e,he,rfl⟩)
        rcases List.mem_cons.mp he2 with z | z
        · exact ⟨i,a,p,Nat.lt_succ_self i,ha,hp,z⟩
        · obtain ⟨e',gQ,ee⟩:=List.mem_map.mp z
          obtain ⟨j,a',q,hj,h4,h5,h6⟩:=hA.src e' gQ
          exact ⟨j,a',q,by omega,h4,h5,by rw [<- ee,h6]⟩
      · have mem:∀ z,z ∈ L2.map (·.2.1) ↔ z=hP p\/z ∈ L.map (·.2.1):=fun z=>by
          have:=(pm.map (·.1)).mem_iff (a:=z)
          rw [List.map_map,List.map_cons,List.mem_cons,List.map_map] at this
          exact this
        rw [mem]
        rcases Nat.lt_or_ge j i with z | z
        · exact .inr (hA.all j q z hq)
        · have:j=i:=by omega
          subst this
          rw [hp] at hq
          cases hq
          exact .inl rfl
      · exact hR h3 oQ L3 (fun b o hb uA e=>zR b o hb uA (by
          show h2.get? b=some o
          rw [zU.2 b uA]
          exact hm b o hb e)) zS zT
end
section
variable {prog:Program} {w:World} {A:Around} {E:Value->Shared->Prop} {s:Shared}
theorem Nt {b:Bool} {h:Heap} {a:Addr} (e:h.get? a=some (L2.lg b)):eX b h a [] :=
  ⟨_,_,_,e,⟨rfl,rfl,rfl⟩,rfl,⟨rfl,rfl,rfl,rfl,(.inl rfl),(show 0*5<7*3 by decide),.nil,(fun e h=>nomatch h),.nil,fun e h=>nomatch h⟩⟩
theorem N5 {led:Bool} {l S:Addr} {as:List Addr} {ps:List (Nat×Nat)} {Q:Value->Shared->Prop} (hh:A.handled=none) (hu:A.units+4<cLine) (hl:s.heap.IsList l (as.map Value.ref).toArray) (iF:iZ s.heap as ps) (hS:s.heap.get? S=some (L2.lg led)) (hlS:l ≠ S) (haS:∀ a ∈ as,a ≠ S)
    (h:∀ h' tk L,(∀ b o,b ≠ S->s.heap.get? b=some o->h'.get? b=some o)->eX led h' S L->Acc as ps as.length L->Q .none { s with heap:=h',toks:=tk }) :
    wpAny (model prog w) A.in1 (Builtin.«set.__init__» ⟨[.ref S,.ref l],[]⟩) (fun fin s'=>∃ r,fin=.done (.ret r)/\Q r s') E s:=by
  obtain ⟨ol,oR,oG,nl,Ko⟩:=id hl
  obtain ⟨aao,aaf,aag,aae⟩:=ol
  simp only at oG Ko
  subst oG;subst Ko
  have aap:=F.sub_list_set
  have aaq:=F.sub_list_frozenset
  have oE:(Value.type "list" == Value.type "dict")=false:=by decide
  unfold L2.lg at hS
  unfold Builtin.«set.__init__» noKeywords Builtin.Frozenset.updateFrom
  generalize hPI:pyIter=PI
  obtain ⟨h0,g0,d0,t0,o0⟩:=s
  wp_walk
  subst hPI
  refine wpAny_pyIter_list hl ?_
  refine wpAny_bind (wpAny_runValue ?_)
  have hh3:A.in1.in1.handled=none:=by simp [hh]
  have UD:l ≠ h0.objs.size:=Nat.ne_of_lt (Heap.lt_size oR)
  have hSI:S ≠ h0.objs.size:=Nat.ne_of_lt (Heap.lt_size hS)
  have bS:(as.map Value.ref).toArray.size=as.length:=by rw [List.size_toArray,List.length_map]
  have aI:∀ a ∈ as,a ≠ h0.objs.size:=fun a ha=>by
    obtain ⟨j,hj,ej⟩:=List.getElem_of_mem ha
    obtain ⟨o,_,_,_,ho,_⟩:=iF.rm j a _ (by rw [List.getElem?_eq_getElem hj,ej]) (List.getElem?_eq_getElem (by rw [iF.len];exact hj))
    exact Nat.ne_of_lt (Heap.lt_size ho)
  refine N4 (led:=led) (ps:=ps) (Walks.list hh3 h0.objs.size l UD (as.map Value.ref).toArray) S (by simp only [List.mem_cons,List.not_mem_nil,or_false,not_or];exact ⟨hSI,hlS.symm⟩) (by show A.units+1+1<cLine;omega) bS (fun i v hv=>?_) (fun a ha=>⟨by simp only [List.mem_cons,List.not_mem_nil,or_false];exact aI a ha,haS a ha⟩) _ 0 _ [] rfl (Nat.zero_le _) ?_ (iF.at fun a ha o e=>Heap.get?_push_of_some _ e) ?_ ⟨(fun e h=>nomatch h),fun j p h=>nomatch h⟩ fun h' tk L hk i5 oS=>?_
  · rw [List.getElem?_toArray,List.getElem?_map] at hv
    cases e:as[i]? with
    | none=>rw [e] at hv;cases hv
    | some p=>rw [e] at hv;exact ⟨p,rfl,(Option.some.inj hv).symm⟩
  · exact ⟨⟨_,Heap.get?_push_size _ rfl,rfl,rfl⟩,hl.push _⟩
  · exact Nt (b:=led) (Heap.get?_push_of_some _ hS)
  · show wpAny _ _ _ _ _ _
    refine wpAny_pure ?_
    show wpAny _ _ (ret Value.none) _ _ _
    rw [bS] at oS
    refine wpAny_pure ⟨_,rfl,h h' tk L (fun b o hb e=>hk b o ?_ hb (Heap.get?_push_of_some _ e)) i5 oS⟩
    simp only [List.mem_cons,List.not_mem_nil,or_false]
    exact Nat.ne_of_lt (Heap.lt_size e)
set_option maxHeartbeats 3200000 in
theorem N6 {l:Addr} {as:List Addr} {ps:List (Nat×Nat)} {Q:Value->Shared->Prop} (hh:A.handled=none) (hu:A.units+8<cLine) (hl:s.heap.IsList l (as.map Value.ref).toArray) (iF:iZ s.heap as ps)
    (h:∀ (h':Heap) (tk:Nat) (L:List Ent),eX (!w.params.followText "set-order") h' s.heap.objs.size L->Acc as ps as.length L->(∀ b o,s.heap.get? b=some o->h'.get? b=some o)->Q (.ref s.heap.objs.size) { s with heap:=h',toks:=tk }) :
    wpAny (model prog w) A (call (.type "set") [.ref l]) Q E s:=by
  obtain ⟨c,tl,aar⟩:=F.called_set.mro
  have aah:=F.called_set.made
  have Uw:=F.called_set.sub
  refine wpAny_call (codeAny_of_tree ?_)
  show wpAny _ _ (callAny (.type "set") _) _ _ _
  refine wpAny_pure ⟨Code.quiet_builtin _ (by decide +kernel),codeAny_builtin F.entry_type_call ?_⟩
  rw [Around.under_plain (weight_type_call_type "set" [.ref l] []) rfl]
  have h1:=F.called_set.notType
  have h2:=F.called_set.canCreate
  have hct:=F.typeCall_set_1 (.ref l)
  repeat (any_goals (first | assumption | wp_step))
  refine codeAny_mono (L2.OT (.ref l) (E:=E) (Q₁:=fun obj bp=>obj=.ref s.heap.objs.size/\bp = { s with heap:=s.heap.push (L2.lg (!w.params.followText "set-order")) }) ⟨rfl,rfl⟩) fun r bp hr=>?_
  cases r with
  | error e=>exact hr
  | ok fl =>
    cases fl with
    | ret obj =>
      obtain ⟨rfl,rfl⟩:=hr
      have hS:(s.heap.push (L2.lg (!w.params.followText "set-order"))).get? s.heap.objs.size=some (L2.lg (!w.params.followText "set-order")):=Heap.get?_push_size _ rfl
      have hT:Shared.TypeIs { s with heap:=s.heap.push (L2.lg (!w.params.followText "set-order")) } (.ref s.heap.objs.size) "set" := ⟨_,hS,rfl⟩
      have lU:=F.called_set.init.lookup
      have hbi:=F.called_set.init.bind (.ref s.heap.objs.size)
      repeat (any_goals (first | assumption | wp_step))
      refine codeAny_mono (codeAny_call_builtin (R:=wants (fun r kX=>r=.none/\∃ h' tk L,kX = { s with heap:=h',toks:=tk }/\eX (!w.params.followText "set-order") h' s.heap.objs.size L/\Acc as ps as.length L/\(∀ b o,s.heap.get? b=some o->h'.get? b=some o)) E)
        F.called_set.init.plain F.entry_set_init (check_set_init_1 hT ?_)) fun UE kX yc=>?_
      · refine wpAny_mono (N5 (A:=A.in1) (ps:=ps) (by simp [hh]) (by show A.units+1+4<cLine;omega) (hl.push _) (iF.at fun a ha o e=>Heap.get?_push_of_some _ e) hS ?_ (fun a ha=>?_) (Q:=fun r kX=>r=.none/\∃ h' tk L,kX = { s with heap:=h',toks:=tk }/\eX (!w.params.followText "set-order") h' s.heap.objs.size L/\Acc as ps as.length L/\(∀ b o,s.heap.get? b=some o->h'.get? b=some o)) fun h' tk L hk i5 oS=>?_) (fun fin s' x=>?_) fun e s' x=>x
        · obtain ⟨ol,oR,_⟩:=hl
          exact Nat.ne_of_lt (Heap.lt_size oR)
        · obtain ⟨j,hj,ej⟩:=List.getElem_of_mem ha
          obtain ⟨o,_,_,_,ho,_⟩:=iF.rm j a _ (by rw [List.getElem?_eq_getElem hj,ej]) (List.getElem?_eq_getElem (by rw [iF.len];exact hj))
          exact Nat.ne_of_lt (Heap.lt_size ho)
        · exact ⟨rfl,h',tk,L,rfl,i5,oS,fun b o e=>hk b o (Nat.ne_of_lt (Heap.lt_size e)) (Heap.get?_push_of_some _ e)⟩
        · obtain ⟨r,rfl,x⟩:=x
          exact x
      · cases UE with
        | error e=>exact yc
        | ok T2 =>
          cases T2 with
          | ret r =>
            obtain ⟨rfl,h',tk,L,rfl,i5,oS,oN⟩:=yc
            repeat (any_goals (first | assumption | wp_step))
            exact h _ _ L i5 oS oN
          | _=>exact yc.elim
    | _=>exact hr.elim
end
end Ts
namespace Ts
open PySem PySem.Spec PyProof.Rows
def gX (w:World) (a:Addr) (ep:Nat) (L:List Ent):List (Int×Value):=if w.params.followText "set-order" then (pickOrder (w.params.setOrder a ep) (L.map (·.2)).toArray).toList else L.map (·.2)
theorem o9 (w:World) (a:Addr) (ep:Nat) (L:List Ent):(gX w a ep L).Perm (L.map (·.2)):=by
  unfold gX
  split
  · exact (L2.OU _ _).trans (by simp)
  · exact .rfl
def slotAt (b:Bool) (L:List Ent):Nat->Nat
  | 0=>0
  | i+1=>if b then 0 else (L.map (·.1)).getD i 0+1
def jg (h:Heap) (it a:Addr) (slot i n ep:Nat):Prop:=∃ o,h.get? it=some o/\o.cls=.type "set_iterator" /\ o.data=.fields #[.int slot 0,.int i 0,.ref a,.int n 0,.int ep 0]
def gK (led:Bool) (h:Heap) (a:Addr) (L:List Ent) (ep:Nat):Prop :=
  ∃ o t,h.get? a=some o/\o.ExactSet/\o.data=.set (L.map (·.2)).toArray ep t/\Tb led t L/\t.fits (L.map (·.2)).toArray.size=true
theorem gK.at {led:Bool} {h h':Heap} {a:Addr} {L:List Ent} {ep:Nat} (x:gK led h a L ep) (e:∀ o,h.get? a=some o->h'.get? a=some o):gK led h' a L ep :=
  let ⟨o,t,ho,r⟩:=x;⟨o,t,e o ho,r⟩
theorem jg.at {h h':Heap} {it a:Addr} {slot i n ep:Nat} (x:jg h it a slot i n ep) (e:∀ o,h.get? it=some o->h'.get? it=some o):jg h' it a slot i n ep :=
  let ⟨o,ho,r⟩:=x;⟨o,e o ho,r⟩
theorem jg.typeIs {s:Shared} {it a:Addr} {slot i n ep:Nat} (x:jg s.heap it a slot i n ep):s.TypeIs (.ref it) "set_iterator" :=
  let ⟨o,ho,hc,_⟩:=x;⟨o,ho,hc⟩
theorem gK.typeIs {led:Bool} {s:Shared} {a:Addr} {L:List Ent} {ep:Nat} (x:gK led s.heap a L ep):s.TypeIs (.ref a) "set" :=
  let ⟨o,t,ho,hc,_⟩:=x;⟨o,ho,hc.1⟩
theorem N7 {L:List Ent} (up:(L.map (·.1)).Pairwise (· < ·)) {i:Nat} (hi:i<=L.length):SetTable.below (L.map (·.1)).toArray (slotAt false L i)=i:=by
  have key:∀ p q (hp:p<(L.map (·.1)).length) (hq:q<(L.map (·.1)).length),p<q->(L.map (·.1))[p]<(L.map (·.1))[q]:=fun p q hp hq h=>List.pairwise_iff_getElem.mp up p q hp hq h
  have hl:(L.map (·.1)).length=L.length:=List.length_map ..
  refine L2.vZ (by rw [List.size_toArray,hl];exact hi) (fun q h1 h2=>?_) (fun q h1 h2=>?_)
  · rw [List.size_toArray] at h2
    rw [L2.getD_list,List.getD_eq_getElem?_getD,List.getElem?_eq_getElem h2]
    cases i with
    | zero=>omega
    | succ i =>
      have iB:i<(L.map (·.1)).length:=by omega
      show _<(L.map (·.1)).getD i 0+1
      rw [List.getD_eq_getElem?_getD,List.getElem?_eq_getElem iB]
      show (L.map (·.1))[q]<(L.map (·.1))[i]+1
      rcases Nat.lt_or_ge q i with h | h
      · have:=key q i h2 iB h;omega
      · have e:q=i:=by omega
        subst e
        omega
  · rw [List.size_toArray] at h2
    rw [L2.getD_list,List.getD_eq_getElem?_getD,List.getElem?_eq_getElem h2]
    cases i with
    | zero =>
      show ¬ (L.map (·.1))[q]<0
      omega
    | succ i =>
      have iB:i<(L.map (·.1)).length:=by omega
      show ¬ _<(L.map (·.1)).getD i 0+1
      rw [List.getD_eq_getElem?_getD,List.getElem?_eq_getElem iB]
      show ¬ (L.map (·.1))[q]<(L.map (·.1))[i]+1
      have:=key i q iB h2 (by omega)
      omega
section
variable {prog:Program} {w:World} {A:Around} {E:Value->Shared->Prop} {s:Shared}
theorem PY {a:Addr} {L:List Ent} {ep:Nat} {Q:Value->Shared->Prop} (hs:gK (!w.params.followText "set-order") s.heap a L ep)
    (hQ:Q (.ref s.heap.objs.size) { s with heap:=s.heap.push { cls:=.type "set_iterator",data:=.fields #[.int (0:Nat) 0,.int (0:Nat) 0,.ref a,.int (L.length:Nat) 0,.int ep 0] } }) :
    wpAny (model prog w) A (pyIter (.ref a)) Q E s:=by
  obtain ⟨o,t,ho,hex,hd,T,hf⟩:=id hs
  refine wpAny_pyIter_slot hs.typeIs PySem.F.slot_set_iter (wpAny_call_entry PySem.F.slot_set_iter hs.typeIs L2.L8 ?_ (PySem.F.args_set_iter_1 _))
  unfold Builtin.«frozenset.__iter__» Builtin.Frozenset.slot0 slotArgs
  simp only [List.isEmpty_nil,Bool.not_true,Bool.false_eq_true,↓reduceIte,bind_assoc,List.length_nil,bne_self_eq_false]
  unfold Builtin.Frozenset.addrOf Builtin.Frozenset.sizeOf
  refine wpAny_bind (wpAny_pure ?_)
  try dsimp only
  refine wpAny_bind (wpAny_pure ?_)
  refine wpAny_bind (wpAny_bind (wpAny_setEntries_of ho hd hf (wpAny_pure ?_)))
  unfold setDrawn
  refine wpAny_bind (wpAny_bind (wpAny_setState_of ho hd hf ?_))
  dsimp only
  unfold setsByText
  refine wpAny_bind (wpAny_bind (wpAny_askSetting (wpAny_pure ?_)))
  refine wpAny_pure ?_
  refine wpAny_ite_split (fun cg=>?_) (fun _=>?_)
  · exfalso
    rw [Bool.and_eq_true] at cg
    have h2:(!t.plain&&decide ((L.map (·.2)).toArray.size > 1))=true:=cg.2
    rw [T.plain] at h2
    cases h2
  · refine wpAny_bind (wpAny_pure ?_)
    refine wpAny_bind (wpAny_setEpoch_of ho hd hf ?_)
    unfold newFields
    refine wpAny_bind (wpAny_newObj_type (wpAny_pure ⟨_,rfl, "set_iterator",_,⟨_,Heap.get?_push_size _ rfl,rfl⟩,L2.mw.lookup,?_⟩))
    simpa [rawInt,List.length_map] using hQ
theorem D2 {a:Addr} {L:List Ent} {ep i:Nat} {Q:Option (Value×Nat)->Shared->Prop} (hs:gK (!w.params.followText "set-order") s.heap a L ep) (hi:i<=L.length)
    (hQ:Q ((gX w a ep L)[i]?.map fun e=>(e.2,slotAt (w.params.followText "set-order") L (i+1))) s) :
    wpAny (model prog w) A (setNext a (slotAt (w.params.followText "set-order") L i) i ep) Q E s:=by
  obtain ⟨o,t,ho,hex,hd,T,hf⟩:=id hs
  unfold setNext
  refine wpAny_bind (wpAny_setState_of ho hd hf ?_)
  dsimp only
  unfold setsByText
  refine wpAny_bind (wpAny_bind (wpAny_askSetting (wpAny_pure ?_)))
  show wpAny _ _ (if w.params.followText "set-order" = true then _ else _) _ _ _
  unfold gX at hQ
  cases hb:w.params.followText "set-order" with
  | true =>
    rw [hb] at hQ
    rw [if_pos rfl]
    simp only [bne_self_eq_false,Bool.false_eq_true,↓reduceIte] at hQ ⊢
    refine wpAny_bind ?_
    unfold setWalk
    refine wpAny_bind (wpAny_setState_of ho hd hf ?_)
    dsimp only
    unfold setsByText
    refine wpAny_bind (wpAny_bind (wpAny_askSetting (wpAny_pure ?_)))
    show wpAny _ _ (if w.params.followText "set-order" = true then _ else _) _ _ _
    rw [hb,if_pos rfl]
    refine wpAny_bind (wpAny_askSetting (wpAny_pure ?_))
    refine wpAny_pure ?_
    have e0:∀ i,slotAt true L i=0:=fun i=>by cases i<;>rfl
    rw [e0,Array.getElem?_toList] at hQ
    rw [e0]
    exact hQ
  | false =>
    rw [hb] at hQ T
    rw [if_neg Bool.false_ne_true]
    simp only [Bool.false_eq_true,↓reduceIte] at hQ
    refine wpAny_ite_split (fun cg=>?_) (fun _=>?_)
    · exfalso
      have h2:(!t.plain&&decide ((L.map (·.2)).toArray.size > 1))=true:=cg
      rw [T.plain] at h2
      cases h2
    · have hl:t.led=true:=T.led
      have oU:∀ {Q':Unit->Shared->Prop},Q' () s->wpAny (model prog w) A (if (!t.led && !(L.map (·.2)).toArray.isEmpty)=true then unsupported "set:maker-not-led" else pure ()) Q' E s:=fun hq=>by
        rw [if_neg (by rw [hl];exact Bool.false_ne_true)]
        exact wpAny_pure hq
      refine wpAny_bind (oU ?_)
      rw [T.place,N7 T.up hi]
      rcases Nat.lt_or_ge i L.length with h | h
      · have e1:(L.map (·.2)).toArray[i]?=some L[i].2:=by
          rw [List.getElem?_toArray,List.getElem?_map,List.getElem?_eq_getElem h]
          rfl
        have e2:(L.map (·.1)).toArray[i]?=some L[i].1:=by
          rw [List.getElem?_toArray,List.getElem?_map,List.getElem?_eq_getElem h]
          rfl
        have e3:(L.map (·.2))[i]?=some L[i].2:=by rw [<- List.getElem?_toArray];exact e1
        have e4:slotAt false L (i+1)=L[i].1+1:=by
          show (L.map (·.1)).getD i 0+1=_
          rw [List.getD_eq_getElem?_getD,List.getElem?_map,List.getElem?_eq_getElem h]
          rfl
        rw [e1,e2]
        rw [e3,e4] at hQ
        exact wpAny_pure hQ
      · have e1:(L.map (·.2)).toArray[i]?=none:=by
          rw [List.getElem?_toArray,List.getElem?_eq_none_iff,List.length_map]
          exact h
        have e3:(L.map (·.2))[i]?=none:=by rw [<- List.getElem?_toArray];exact e1
        rw [e1]
        rw [e3] at hQ
        exact wpAny_pure hQ
theorem LY {it a:Addr} {i ep:Nat} {L:List Ent} {e:Int×Value} {Q:Option Value->Shared->Prop}
    (hit:jg s.heap it a (slotAt (w.params.followText "set-order") L i) i L.length ep) (hs:gK (!w.params.followText "set-order") s.heap a L ep) (hx:(gX w a ep L)[i]?=some e) (oE:a ≠ it)
    (hQ:∀ h',jg h' it a (slotAt (w.params.followText "set-order") L (i+1)) (i+1) L.length ep->Heap.SameBut it s.heap h'->Q (some e.2) { s with heap:=h' }) :
    wpAny (model prog w) A (pyNext (.ref it)) Q E s:=by
  obtain ⟨o,ho,hc,hd⟩:=id hit
  obtain ⟨os,t,zV,UG,zW,T,hf⟩:=id hs
  have hi:i<L.length:=by
    have:=(List.getElem?_eq_some_iff.mp hx).1
    rw [(o9 w a ep L).length_eq,List.length_map] at this
    exact this
  unfold pyNext
  refine wpAny_bind (wpAny_attempt (wpAny_callSpecial?_slot (name:=Str.ofString "__next__") hit.typeIs L2.mw
    (wpAny_call_entry L2.mw hit.typeIs L2.CQ ?_ (L2.CY _))))
  unfold Builtin.«set_iterator.__next__»
  refine wpAny_bind (wpAny_pure ?_)
  refine wpAny_bind (wpAny_fieldsOf ho hd ?_)
  dsimp only
  refine wpAny_bind (wpAny_setEntries_of zV zW hf ?_)
  rw [if_neg (by rw [List.size_toArray,List.length_map];simp)]
  dsimp only [Int.toNat_natCast]
  refine wpAny_bind (D2 hs (Nat.le_of_lt hi) ?_)
  rw [hx]
  dsimp only [Option.map_some]
  refine wpAny_bind (wpAny_setField ho hd (by simp) ?_)
  have rg:(s.heap.update it (Obj.mapFields (·.setIfInBounds 0 (rawInt ((slotAt (w.params.followText "set-order") L (i+1):Nat):Int))))).get? it=some _:=Heap.get?_update_self _ ho (Obj.isFreed_of_fields (Obj.data_mapFields hd _))
  refine wpAny_bind (wpAny_setField (s:={ s with heap:=_ }) rg (Obj.data_mapFields hd _) (by simp) ?_)
  refine wpAny_pure ⟨_,rfl,wpAny_pure (hQ _ ?_ ?_)⟩
  · refine ⟨_,Heap.get?_update_self _ rg (Obj.isFreed_of_fields (Obj.data_mapFields (Obj.data_mapFields hd _) _)),?_,?_⟩
    · rw [Obj.cls_mapFields,Obj.cls_mapFields,hc]
    · rw [Obj.data_mapFields (Obj.data_mapFields hd _)]
      simp [rawInt]
  · exact (Heap.SameBut.update ..).trans (Heap.SameBut.update ..)
theorem L9 {it a:Addr} {i ep:Nat} {L:List Ent} {Q:Option Value->Shared->Prop} (hh:A.handled=none)
    (hit:jg s.heap it a (slotAt (w.params.followText "set-order") L i) i L.length ep) (hs:gK (!w.params.followText "set-order") s.heap a L ep) (hi:i=L.length)
    (hQ:∀ h',Heap.ExtBut it s.heap h'->Q none { s with heap:=h' }):wpAny (model prog w) A (pyNext (.ref it)) Q E s:=by
  obtain ⟨o,ho,hc,hd⟩:=id hit
  obtain ⟨os,t,zV,UG,zW,T,hf⟩:=id hs
  unfold pyNext
  refine wpAny_bind (wpAny_attempt (wpAny_callSpecial?_slot (name:=Str.ofString "__next__") hit.typeIs L2.mw
    (wpAny_call_entry L2.mw hit.typeIs L2.CQ ?_ (L2.CY _))))
  unfold Builtin.«set_iterator.__next__»
  refine wpAny_bind (wpAny_pure ?_)
  refine wpAny_bind (wpAny_fieldsOf ho hd ?_)
  dsimp only
  refine wpAny_bind (wpAny_setEntries_of zV zW hf ?_)
  rw [if_neg (by rw [List.size_toArray,List.length_map];simp)]
  dsimp only [Int.toNat_natCast]
  refine wpAny_bind (D2 hs (Nat.le_of_eq hi) ?_)
  rw [show (gX w a ep L)[i]?=none by rw [List.getElem?_eq_none_iff,(o9 w a ep L).length_eq,List.length_map,hi];exact Nat.le_refl _]
  dsimp only [Option.map_none]
  refine wpAny_bind (wpAny_setField ho hd (by simp) ?_)
  show wpAny _ _ (newExc (.type "StopIteration") [] >>= _) _ _ _
  refine wpAny_bind ?_
  simp only [newExc,newTuple]
  refine wpAny_bind (wpAny_newObj_type ?_ (by size_fits))
  refine wpAny_bind (m:=firstArgMember _ _) (wpAny_of_eq (a:=Value.none) (by first | rfl | (simp only [firstArgMember];rfl)) ?_)
  refine wpAny_newObj_type ?_ (by size_fits)
  simp only [raiseNew]
  refine wpAny_bind (wpAny_handled ?_)
  rw [show A.in1.handled=none from hh]
  refine wpAny_bind (wpAny_pure (wpAny_throw ?_))
  refine wpAny_bind (wpAny_isInstance (T := "StopIteration") (b:=true) ⟨_,Heap.get?_push_size _ rfl,rfl⟩ isSubtype_stop ?_)
  exact wpAny_pure (hQ _ (((Heap.SameBut.update ..).extBut.push _).push _))
theorem OZ {I a:Addr} {L:List Ent} {ep:Nat} (hh:A.handled=none) (oE:a ≠ I) :
    Walks prog w A I [I,a] [I] L.length (fun i v=>∃ x,(gX w a ep L)[i]?=some (x,v)) (fun i h=>jg h I a (slotAt (w.params.followText "set-order") L i) i L.length ep/\gK (!w.params.followText "set-order") h a L ep) where
  sub:=fun b hb=>by simp at hb;simp [hb]
  frame:=fun _ _ _ st hk=>⟨st.1.at fun o e=>hk I (by simp) o e,st.2.at fun o e=>hk a (by simp) o e⟩
  item:=fun i s Q E hi st hQ=>by
    have hl:i<(gX w a ep L).length:=by rw [(o9 w a ep L).length_eq,List.length_map];exact hi
    obtain ⟨⟨x,v⟩,hx⟩:∃ p,(gX w a ep L)[i]?=some p:=⟨_,List.getElem?_eq_getElem hl⟩
    refine LY st.1 st.2 hx oE fun h' UH jK=>?_
    exact hQ v h' s.toks ⟨x,hx⟩ ⟨UH,st.2.at fun o e=>jK.extBut a o oE e⟩ fun b o hb e=>jK.extBut b o (fun h=>hb (by simp [h])) e
  done:=fun s Q E st hQ=>L9 hh st.1 st.2 rfl fun h' gQ=>hQ h' s.toks fun b o hb e=>gQ b o (fun h=>hb (by simp [h])) e
  self:=fun i s Q E st hQ=>by
    refine wpAny_pyIter_slot st.1.typeIs L2.CZ (wpAny_call_entry L2.CZ st.1.typeIs L2.L7 ?_ (L2.Mx _))
    show wpAny _ _ (ret (.ref I)) _ _ s
    exact wpAny_pure ⟨_,rfl, "set_iterator",_,st.1.typeIs,L2.mw.lookup,hQ⟩
theorem Rq {a:Addr} {L:List Ent} {ep:Nat} :
    PySem.W.KdlSrc prog w "set" a a L.length (fun i v=>∃ x,(gX w a ep L)[i]?=some (x,v)) (fun h=>gK (!w.params.followText "set-order") h a L ep) where
  type:=fun _ hm=>hm.typeIs
  there:=fun _ hm=>let ⟨_,_,ho,_⟩:=hm;⟨Heap.lt_size ho,Heap.lt_size ho⟩
  keep:=fun _ _ hm hk=>hm.at fun o e=>hk a (.inl rfl) o e
  notList:=by decide
  notTuple:=by decide
  hint:=fun _ _ _ _ hm hq=>L2.PL hm.typeIs hq
  iter:=fun _ _ hh hm=>⟨_,_,(fun _ _ hq=>PY hm hq),OZ hh (let ⟨_,_,ho,_⟩:=hm;Nat.ne_of_lt (Heap.lt_size ho)),⟨⟨_,Heap.get?_push_size _ rfl,rfl,rfl⟩,hm.at fun o e=>Heap.get?_push_of_some _ e⟩⟩
end
end Ts
namespace L2
open PySem PySem.Spec PyProof.Rows
def lW (x y:List Int):Prop:=So.lexLt y x=false
def hZ (ds:List (List Int)):List (List Int):=ds.mergeSort fun a b=>!So.lexLt b a
theorem ph (ds:List (List Int)):(hZ ds).Perm ds:=List.mergeSort_perm ..
theorem Rr (ds:List (List Int)):(hZ ds).Pairwise lW:=by
  have:=List.pairwise_mergeSort (le:=fun a b:List Int=>!So.lexLt b a) (fun a b c h1 h2=>by
    simp only [Bool.not_eq_true'] at *
    cases h:So.lexLt c a with
    | false=>rfl
    | true =>
      rcases So.xO c b a h with z | z
      · rw [h2] at z;cases z
      · rw [h1] at z;cases z) (fun a b=>by
    simp only [Bool.or_eq_true,Bool.not_eq_true']
    cases h:So.lexLt b a with
    | false=>exact .inl rfl
    | true =>
      right
      cases z:So.lexLt a b with
      | false=>rfl
      | true =>
        have:=So.xN a b a z h
        rw [So.xi] at this;cases this) ds
  exact this.imp fun h=>by simpa [lW] using h
theorem Dc {a b:List (List Int)} (p:a.Perm b) (ha:a.Pairwise lW) (hb:b.Pairwise lW):a=b:=List.Perm.eq_of_pairwise (fun x y _ _ h1 h2=>So.xj x y h2 h1) ha hb p
abbrev dT (d:List Int):Dv:=.tup (d.map di)
theorem xm:∀ {as:List Addr} {af:List Value},Vals (as.map V.ref) af->af=as.map Value.ref
  | [],_,r=>by rw [List.map_nil] at r;cases r;rfl
  | a::as,_,r=>by
    rw [List.map_cons] at r
    cases r with
    | cons h t=>cases h;rw [xm t];rfl
structure zX (K:PySem.W.Frag) (H:Hp) (as:List Addr) (ds:List (List Int)):Prop where
  len:as.length=ds.length
  at_:∀ (j:Nat) (a:Addr) (d:List Int),as[j]?=some a->ds[j]?=some d->cB K H a (d.map V.int)
theorem xn {K:PySem.W.Frag} {G:Hp}:∀ {ds:List (List Int)} {ys:List V},aX K G (ds.map dT) ys->∃ as:List Addr,ys=as.map V.ref/\zX K G as ds
  | [],_,h=>by cases h;exact ⟨[],rfl,rfl,fun j a d h=>nomatch h⟩
  | d::ds,_,h=>by
    obtain ⟨y,ys,rfl,⟨a,vs,rfl,h1,h2⟩,h3⟩:=h
    obtain ⟨as,rfl,T⟩:=xn h3
    have:=kz h2
    subst this
    refine ⟨a::as,rfl,by rw [List.length_cons,List.length_cons,T.len],fun j a' d' e1 e2=>?_⟩
    cases j with
    | zero=>cases e1;cases e2;exact h1
    | succ j=>exact T.at_ j a' d' e1 e2
theorem wG {K:PySem.W.Frag} {G:Hp}:∀ {qs:List (Addr×List Int)},(∀ q ∈ qs,cB K G q.1 (q.2.map V.int))->aX K G (qs.map fun q=>dT q.2) (qs.map fun q=>V.ref q.1)
  | [],_=>rfl
  | q::qs,h=>⟨_,_,rfl,⟨q.1,_,rfl,h q (List.mem_cons_self ..),nj⟩,wG fun x hx=>h x (List.mem_cons_of_mem _ hx)⟩
section
variable {X:Cx} {pins:List (Addr×Obj)} {σ:St} {H:Hp} {s:Shared}
theorem xo {a:Addr} {d:List Int} (I:Inv X pins σ H s) (h:cB X.K H a (d.map V.int)):So.cO s.heap (.ref a)=some d:=by
  obtain ⟨af,r,p,_⟩:=I.tuple h
  exact So.Gk p (intsAre_of r)
def Gs (K:PySem.W.Frag):List V->Hp->VK->Prop:=fun xs H Q=>∃ (p:Addr) (as:List Addr) (ds:List (List Int)),xs=[.ref p]/\bj K H p (as.map V.ref)/\zX K H as ds/\(∀ d ∈ ds,d ≠ [])/\ds.length<128 /\
    ∀ (l:Addr) (qs:List (Addr×List Int)),H l=none->qs.Perm (as.zip ds)->(qs.map (·.2)).Pairwise lW->Q (.ref l) (upd H l (.lst (qs.map fun q=>.ref q.1)))
theorem SW {as:List Addr} {ds:List (List Int)} {kd:Addr->List Int} (hl:as.length=ds.length) (h:∀ (j:Nat) (a:Addr) (d:List Int),as[j]?=some a->ds[j]?=some d->kd a=d):as.zip ds=as.map fun a=>(a,kd a):=by
  refine List.ext_getElem? fun i=>?_
  rw [List.getElem?_map]
  rcases Nat.lt_or_ge i as.length with hi | hi
  · have iB:i<ds.length:=by omega
    rw [List.getElem?_eq_getElem hi,List.getElem?_eq_getElem (by rw [List.length_zip];omega),List.getElem_zip]
    show some (as[i],ds[i])=some (as[i],kd as[i])
    rw [h i as[i] ds[i] (List.getElem?_eq_getElem hi) (List.getElem?_eq_getElem iB)]
  · rw [List.getElem?_eq_none hi,List.getElem?_eq_none (by rw [List.length_zip];omega)];rfl
theorem M4:eD X (.builtin "sorted") (Gs X.K):=by
  intro pins s σ H xs us Q I r h
  obtain ⟨p,as,ds,rfl,hq,T,ne,hz,q⟩:=h
  obtain ⟨u,rfl,rx⟩:=vals1 r
  cases rx
  obtain ⟨af,rv,pl,dU⟩:=I.list hq
  have:=xm rv
  subst this
  have big : 1000<sizeLine:=by decide
  have hl:=T.len
  obtain ⟨kd,uB⟩:∃ kd:Addr->List Int,kd=fun a=>So.j7 s.heap (.ref a):=⟨_,rfl⟩
  have rq:∀ (j:Nat) (a:Addr) (d:List Int),as[j]?=some a->ds[j]?=some d->kd a=d:=fun j a d e1 e2=>by
    rw [uB]
    show (So.cO s.heap (.ref a)).getD []=d
    rw [xo I (T.at_ j a d e1 e2)];rfl
  refine So.Nq pl.isList (fun v hv=>?_) (by rw [List.length_map];omega) fun out p1 p2=>?_
  · obtain ⟨a,ha,rfl⟩:=List.mem_map.mp hv
    obtain ⟨j,hj,ej⟩:=List.getElem_of_mem ha
    have e1:as[j]?=some a:=by rw [List.getElem?_eq_getElem hj,ej]
    have e2:ds[j]?=some (ds[j]'(by omega)):=List.getElem?_eq_getElem (by omega)
    have k:=xo I (T.at_ j a _ e1 e2)
    cases hd:ds[j]'(by omega) with
    | nil=>exact absurd hd (ne _ (List.getElem_mem _))
    | cons n ns=>exact ⟨n,ns,by rw [k,hd]⟩
  · obtain ⟨bs,pm,eo⟩:=v9 p1
    obtain ⟨e,he⟩:=sortedAll_at s.heap (as.map Value.ref) out
    have hb:bs.length=as.length:=pm.length_eq
    have fin:=q (s.heap.objs.size+1) (bs.map fun a=>(a,kd a)) (I.aF.fresh (Nat.le_succ _)) (by rw [SW hl rq];exact pm.map _) (by
      rw [List.map_map,List.pairwise_map]
      unfold So.lh at p2
      rw [eo,List.pairwise_map] at p2
      refine p2.imp fun {x y} z=>?_
      show So.lexLt (kd y) (kd x)=false
      rw [uB]
      exact z)
    rw [List.map_map] at fin
    refine ⟨.ref (s.heap.objs.size+1),_,I.laid (t':=s.toks) (o:=.lst (bs.map V.ref)) (fun b o e=>sortedAll_old e) (Nat.le_succ _) ?_,rfl,fin⟩
    exact ⟨by rw [List.length_map];omega,out.toList,e,by rw [eo];exact wc bs,by rw [Array.toArray_toList];exact he⟩
end
abbrev lP (p:Nat×Nat):List Int:=[(p.1:Int),(p.2:Int)]
section
variable {X:Cx} {pins:List (Addr×Obj)} {σ:St} {H:Hp} {s:Shared}
theorem SX {a:Addr} {p:Nat×Nat} (I:Inv X pins σ H s) (h:cB X.K H a ((lP p).map V.int)):Ts.dY s.heap p a:=by
  obtain ⟨af,r,⟨o,h1,h2,n,h3⟩,_⟩:=I.tuple h
  cases r with
  | cons e1 r =>
    cases r with
    | cons e2 r =>
      cases r
      obtain ⟨t,rfl⟩:=e1
      obtain ⟨u,rfl⟩:=e2
      exact ⟨o,n,t,u,h1,h2,h3⟩
def oi (w:World) (l:Addr) (L:List Ts.Ent):HO:=.ext fun h=>Ts.eX (!w.params.followText "set-order") h l L
def Hz (K:PySem.W.Frag) (w:World):List V->Hp->VK->Prop:=fun xs H Q=>∃ (p:Addr) (as:List Addr) (ps:List (Nat×Nat)),xs=[.ref p]/\bj K H p (as.map V.ref)/\zX K H as (ps.map lP)/\(∀ p ∈ ps,p.1<=6/\p.2<=6) /\
    ∀ l L,H l=none->Ts.Acc as ps as.length L->(L.map (·.2.1)).Nodup->L.length<=49->Q (.ref l) (upd H l (oi w l L))
theorem O1 (hc:X.calm=true) (hu:X.A.units+64<cLine):eD X (.type "set") (Hz X.K X.w):=by
  intro pins s σ H xs us Q I r h
  obtain ⟨p,as,ps,rfl,hq,T,sm,q⟩:=h
  obtain ⟨u,rfl,rx⟩:=vals1 r
  cases rx
  obtain ⟨af,rv,pl,_⟩:=I.list hq
  have:=xm rv
  subst this
  have hP:Ts.iZ s.heap as ps:=⟨by rw [T.len,List.length_map],sm,fun j a p e1 e2=>SX I (T.at_ j a _ e1 (by rw [List.getElem?_map,e2];rfl))⟩
  refine Ts.N6 (I.ok.hd hc) (by omega) pl.isList hP fun h' tk L hs hA kp=>?_
  have nd:(L.map (·.2.1)).Nodup:=by obtain ⟨_,_,_,_,_,_,T⟩:=id hs;exact T.nd
  refine ⟨.ref s.heap.objs.size,_,I.laid (t':=tk) (o:=oi X.w s.heap.objs.size L) kp (Nat.le_refl _) ?_,rfl,q _ L (I.aF.fresh (Nat.le_refl _)) hA nd (hA.len hP nd)⟩
  refine ⟨hs,?_,fun h1 h2 x e=>x.at e⟩
  obtain ⟨o,_,_,ho,_⟩:=hs
  exact ⟨o,ho⟩
def Gu (K:PySem.W.Frag) (w:World):List V->Hp->VK->Prop:=fun xs H Q=>∃ (p:Addr) (L:List Ts.Ent) (rs:List (Addr×(Nat×Nat))),xs=[.ref p]/\H p=some (oi w p L)/\L.map (·.2.2)=rs.map (fun r=>Value.ref r.1)/\(∀ r ∈ rs,cB K H r.1 ((lP r.2).map V.int))/\rs.length<128 /\
    ∀ (l:Addr) (qs:List (Addr×List Int)),H l=none->qs.Perm (rs.map fun r=>(r.1,lP r.2))->(qs.map (·.2)).Pairwise lW->Q (.ref l) (upd H l (.lst (qs.map fun q=>.ref q.1)))
theorem M5 (hc:X.calm=true):eD X (.builtin "sorted") (Gu X.K X.w):=by
  intro pins s σ H xs us Q I r h
  obtain ⟨p,L,rs,rfl,hp,hL,hr,hz,q⟩:=h
  obtain ⟨u,rfl,rx⟩:=vals1 r
  cases rx
  have hS:Ts.eX (!X.w.params.followText "set-order") s.heap p L:=(show cP X.prog X.w H s.heap p (oi X.w p L) from I.aF p _ hp).1
  obtain ⟨o,t,ep,h1,h2,h3,h4⟩:=hS
  have hE:Ts.gK (!X.w.params.followText "set-order") s.heap p L ep:=⟨o,t,h1,h2,h3,h4,h4.fits⟩
  have big : 1000<sizeLine:=by decide
  have Ll:L.length=rs.length:=by
    have:=congrArg List.length hL
    rw [List.length_map,List.length_map] at this
    exact this
  have tup:∀ r ∈ rs,So.cO s.heap (.ref r.1)=some (lP r.2):=fun r lX=>xo I (hr r lX)
  refine Calls.call_function_entry kind_sorted plain_sorted entry_sorted (args_sorted1 _) ?_
  unfold Builtin.«sorted»
  refine wpAny_bind (m:=checkCount "sorted" 1 1 _) (wpAny_pure ?_)
  refine wpAny_bind (PySem.W.kdu_collect (A:=X.A.in1) (Ts.Rq (L:=L) (ep:=ep)) (I.ok.hd hc) hE (by omega) fun h' tk acc hk jq=>?_)
  have ha:acc.toList.length=L.length:=by rw [Array.length_toList,jq.1]
  have yS:acc.toList=(Ts.gX X.w p ep L).map (·.2):=by
    apply List.ext_getElem?
    intro j
    rcases Nat.lt_or_ge j acc.toList.length with hj | hj
    · obtain ⟨x,hx⟩:=jq.2 j acc.toList[j] (by rw [<- Array.getElem?_toList];exact List.getElem?_eq_getElem hj)
      rw [List.getElem?_eq_getElem hj,List.getElem?_map,hx]
      rfl
    · rw [List.getElem?_eq_none hj,List.getElem?_eq_none (by rw [List.length_map,(Ts.o9 X.w p ep L).length_eq,List.length_map,<- ha];exact hj)]
  have pv:acc.toList.Perm (rs.map fun r=>Value.ref r.1):=by
    rw [yS,<- hL]
    have:=(Ts.o9 X.w p ep L).map (·.2)
    rw [List.map_map] at this
    exact this
  have pv':acc.toList.Perm ((rs.map (·.1)).map Value.ref):=by rw [List.map_map];exact pv
  obtain ⟨ks,pk,ea⟩:=v9 pv'
  have known:∀ a ∈ ks,∃ r ∈ rs,r.1=a:=fun a hm=>by
    obtain ⟨r,h1,h2⟩:=List.mem_map.mp (pk.mem_iff.mp hm)
    exact ⟨r,h1,h2⟩
  refine wpAny_bind (wpAny_newList ?_ (by rw [ha];omega))
  have ke:(h'.push (seqObj "list" acc.toList.toArray 0)).get? h'.objs.size=some (seqObj "list" acc.toList.toArray 0):=Heap.get?_push_size _ rfl
  have yd:∀ v ns,So.cO s.heap v=some ns->So.cO (h'.push (seqObj "list" acc.toList.toArray 0)) v=some ns:=fun v ns e=>So.wF e fun t o _ ht _=>Heap.get?_push_of_some _ (hk t o ht)
  refine wpAny_bind (wpAny_holding (wpAny_call_entry slot_list_sort ⟨_,ke,rfl⟩ entry_list_sort (So.CT (s:={ s with heap:=h'.push (seqObj "list" acc.toList.toArray 0),toks:=tk }) ke (fun v hv=>?_) (by rw [ha];omega) fun out p1 p2=>⟨_,rfl,wpAny_pure ⟨_,rfl,?_⟩⟩) (args_list_sort _)))
  · rw [ea] at hv
    obtain ⟨a,hm,rfl⟩:=List.mem_map.mp hv
    obtain ⟨r,lX,rfl⟩:=known a hm
    exact ⟨_,_,yd _ _ (tup r lX)⟩
  · rw [ea] at p1
    obtain ⟨bs,pm,eo⟩:=v9 p1
    obtain ⟨e,heL⟩:=sortedHeap_at (out:=out) ke
    have I1:Inv X pins σ H { s with heap:=h',toks:=tk }:=I.kept (t':=tk) hk
    obtain ⟨kd,uB⟩:∃ kd:Addr->List Int,kd=fun a=>(So.cO s.heap (.ref a)).getD []:=⟨_,rfl⟩
    have rq:∀ r ∈ rs,kd r.1=lP r.2:=fun r lX=>by rw [uB];show (So.cO s.heap (.ref r.1)).getD []=_;rw [tup r lX];rfl
    have lt:bs.length=rs.length:=by rw [pm.length_eq,pk.length_eq,List.length_map]
    have fin:=q h'.objs.size (bs.map fun a=>(a,kd a)) (I1.aF.fresh (Nat.le_refl _)) (by
      have:=(pm.trans pk).map fun a=>(a,kd a)
      rw [List.map_map] at this
      refine this.trans (List.Perm.of_eq (List.map_congr_left fun r lX=>?_))
      show (r.1,kd r.1)=_
      rw [rq r lX]) (by
      rw [List.map_map,List.pairwise_map]
      unfold So.lh at p2
      rw [eo,List.pairwise_map] at p2
      refine p2.imp_of_mem fun {x y} hx hy z=>?_
      obtain ⟨rx,Kp,rfl⟩:=known x (pm.mem_iff.mp hx)
      obtain ⟨ry,Kq,rfl⟩:=known y (pm.mem_iff.mp hy)
      unfold So.j7 at z
      rw [yd _ _ (tup rx Kp),yd _ _ (tup ry Kq)] at z
      show So.lexLt (kd ry.1) (kd rx.1)=false
      rw [rq rx Kp,rq ry Kq]
      exact z)
    rw [List.map_map] at fin
    refine ⟨.ref h'.objs.size,_,I1.laid (t':=tk) (o:=.lst (bs.map V.ref)) (fun b o eb=>?_) (Nat.le_refl _) ?_,rfl,fin⟩
    · have lt:b<h'.objs.size:=Heap.lt_size eb
      rw [sortedHeap_old (Nat.ne_of_lt lt) (by rw [size_push'];exact Nat.lt_succ_of_lt lt),Heap.get?_push_ne _ _ _ (Nat.ne_of_lt lt)]
      exact eb
    · refine ⟨by rw [List.length_map];omega,out.toList,e,?_,by rw [Array.toArray_toList];exact heL⟩
      rw [eo]
      exact wc bs
end
def gL (ps:List (Nat×Nat)):List (Nat×Nat):=Ts.jw.filter fun p=>ps.contains p
theorem Rt:(Ts.jw.map lP).Pairwise lW:=by
  have key:((Ts.jw.map lP).Pairwise fun x y=>So.lexLt y x=false):=by decide +kernel
  exact key
theorem Ru:Ts.jw.Nodup:=by decide +kernel
theorem D3 {p:Nat×Nat}:p ∈ Ts.jw ↔ p.1<=6/\p.2<=6:=by
  constructor
  · intro h
    obtain ⟨a,ha,h⟩:=List.mem_flatMap.mp h
    obtain ⟨b,hb,rfl⟩:=List.mem_map.mp h
    have:=List.mem_range.mp ha
    have:=List.mem_range.mp hb
    exact ⟨by show a<=6;omega,by show b<=6;omega⟩
  · intro h
    exact List.mem_flatMap.mpr ⟨p.1,List.mem_range.mpr (by omega),List.mem_map.mpr ⟨p.2,List.mem_range.mpr (by omega),rfl⟩⟩
section
variable {ι:Type} {F:aY ι} {e a b c:Expr} {es:List Expr} {ρ:En} {t ta tb':Tr} {ts:List Tr} {pos:Pos}
theorem Nu {ps:List (Nat×Nat)} (hm:F.mg "sorted" = none) (lQ:F.mg "set" = none) (ha:Ev F a ρ ta) (ea:er ta=.lst ((ps.map lP).map dT)) (sm:∀ p ∈ ps,p.1<=6/\p.2<=6) {p1 p2 hU:Pos} (hg:∀ i,Gl (F.cx i) "sorted" := by intro _;rfl) (iT:∀ i,Gl (F.cx i) "set" := by intro _;rfl)
    (hs:∀ i,starEach [a] (F.cx i).env=[(false,eval a (F.cx i).env)]:=by intro _;rfl) (gj:∀ i,starEach [.Call (.Name "set" p2) [a] [] hU] (F.cx i).env=[(false,eval (.Call (.Name "set" p2) [a] [] hU) (F.cx i).env)]:=by intro _;rfl) :
    Ev F (.Call (.Name "sorted" p1) [.Call (.Name "set" p2) [a] [] hU] [] pos) ρ (.ow (((gL ps).map lP).map fun d=>.fz (dT d))):=by
  obtain ⟨τ,p,q⟩:=ha.use
  refine ⟨jA (Gu F.K F.w) (dZ (jA (Hz F.K F.w) (dZ τ fc)) fc),fun i=>rX (F.hK i ▸ F.hw i ▸ M5 (F.calm i)) (hg i) ((F.hm i).symm ▸ hm) vU (dw (rQ (F.hK i ▸ F.hw i ▸ O1 (F.calm i) (F.hr i).units) (iT i) ((F.hm i).symm ▸ lQ) FP (dw (p i) eT (hs i)) (by decide) (by decide) (hs i) rfl) eT (gj i)) (by decide) (by decide) (gj i) rfl,fun σ G H Q s rr k=>q σ G H _ s rr fun v G1 H1 s1 hx=>?_⟩
  rw [ea] at hx
  obtain ⟨l,ys,rfl,h1,h2⟩:=hx
  obtain ⟨as,rfl,T⟩:=xn h2
  have pl:ps.length=as.length:=by rw [T.len,List.length_map]
  refine ⟨l,as,ps,rfl,s1.s.seq h1,⟨T.len,fun j a d e1 e2=>av.tup s1.s (T.at_ j a d e1 e2)⟩,sm,fun l0 L kl hA nd hL=>?_⟩
  have ex:∀ e ∈ L,∃ r:Addr×(Nat×Nat),e.2=(Ts.hP r.2,Value.ref r.1)/\cB F.K G1 r.1 ((lP r.2).map V.int)/\r.2 ∈ ps:=fun e he=>by
    obtain ⟨j,a,p,_,e1,e2,e3⟩:=hA.src e he
    exact ⟨(a,p),e3,T.at_ j a _ e1 (by rw [List.getElem?_map,e2];rfl),List.mem_of_getElem? e2⟩
  obtain ⟨rs,hrs⟩:∃ rs:List (Addr×(Nat×Nat)),L.map (·.2)=rs.map (fun r=>(Ts.hP r.2,Value.ref r.1))/\∀ r ∈ rs,cB F.K G1 r.1 ((lP r.2).map V.int)/\r.2 ∈ ps:=by
    clear hA nd hL
    induction L with
    | nil=>exact ⟨[],rfl,fun r h=>nomatch h⟩
    | cons e L ih =>
      obtain ⟨rs,i1,i2⟩:=ih fun x hx=>ex x (List.mem_cons_of_mem _ hx)
      obtain ⟨r,r1,r2⟩:=ex e (List.mem_cons_self ..)
      refine ⟨r::rs,by rw [List.map_cons,List.map_cons,i1,r1],fun x hx=>?_⟩
      rcases List.mem_cons.mp hx with rfl | hx
      · exact r2
      · exact i2 x hx
  obtain ⟨Kr,rz⟩:=hrs
  have eh:L.map (·.2.1)=(rs.map (·.2)).map Ts.hP:=by
    have:=congrArg (List.map (·.1)) Kr
    rw [List.map_map,List.map_map] at this
    rw [List.map_map]
    exact this
  have ev:L.map (·.2.2)=rs.map (fun r=>Value.ref r.1):=by
    have:=congrArg (List.map (·.2)) Kr
    rw [List.map_map,List.map_map] at this
    exact this
  have rl:rs.length=L.length:=by
    have:=congrArg List.length ev
    rw [List.length_map,List.length_map] at this
    exact this.symm
  refine ⟨l0,L,rs,rfl,fA,ev,fun r hr=>av.tup (s1.s.trans (av.new kl)) (rz r hr).1,by omega,fun l2 qs ug pm pw=>?_⟩
  have k2:=k.step (s1.trans (Step.j6 (o:=oi F.w l0 L) s1.s kl))
  have ndk:(rs.map (·.2)).Nodup:=by
    rw [eh] at nd
    exact List.Pairwise.of_map _ (fun a b cg z=>cg (by rw [z])) nd
  have mem:∀ x,x ∈ rs.map (·.2) ↔ x ∈ gL ps:=fun x=>by
    unfold gL
    rw [List.mem_filter,D3]
    constructor
    · intro h
      obtain ⟨r,hr,rfl⟩:=List.mem_map.mp h
      exact ⟨sm _ (rz r hr).2,by simpa using (rz r hr).2⟩
    · rintro ⟨h1,h2⟩
      have h2:x ∈ ps:=by simpa using h2
      obtain ⟨j,hj,ej⟩:=List.getElem_of_mem h2
      have:=hA.all j x (by omega) (by rw [List.getElem?_eq_getElem hj,ej])
      rw [eh] at this
      obtain ⟨y,hy,e⟩:=List.mem_map.mp this
      obtain ⟨r,hr,rfl⟩:=List.mem_map.mp hy
      have:=Ts.Gr (sm _ (rz r hr).2) h1 e
      rw [<- this];exact hy
  have pp:(rs.map (·.2)).Perm (gL ps):=(List.perm_ext_iff_of_nodup ndk (Ru.sublist List.filter_sublist)).mpr mem
  have e2:qs.map (·.2)=(gL ps).map lP:=Dc (by
    refine (pm.map (·.2)).trans ?_
    rw [List.map_map]
    have:=pp.map lP
    rw [List.map_map] at this
    exact this) pw (by
    refine Rt.sublist ?_
    exact List.Sublist.map _ List.filter_sublist)
  refine k2.lst (s1.s.trans (av.new kl)) ?_ ug
  rw [<- e2,List.map_map]
  have:=(wG (K:=F.K) (G:=G1) (qs:=qs) fun q hq=>by
    have hq:=pm.mem_iff.mp hq
    obtain ⟨r,hr,rfl⟩:=List.mem_map.mp hq
    exact (rz r hr).1).iz (H:=upd H1 l0 (oi F.w l0 L))
  rw [List.map_map] at this
  exact this
end
section
variable {ι:Type} {F:aY ι} {e a b c:Expr} {es:List Expr} {ρ:En} {t ta tb':Tr} {ts:List Tr} {pos:Pos}
theorem N8 {ds:List (List Int)} (hm:F.mg "sorted" = none) (ha:Ev F a ρ ta) (ea:er ta=.lst (ds.map dT)) (ne:∀ d ∈ ds,d ≠ []) (hz:ds.length<128) {p':Pos} (hg:∀ i,Gl (F.cx i) "sorted" := by intro _;rfl)
    (hs:∀ i,starEach [a] (F.cx i).env=[(false,eval a (F.cx i).env)]:=by intro _;rfl):Ev F (.Call (.Name "sorted" p') [a] [] pos) ρ (.ow ((hZ ds).map fun d=>.fz (dT d))) :=
  pE (r:=Gs F.K) (fun i=>F.hK i ▸ M4) hm vU (ah ha ao hs) (fun G H vs Q s hx k=>by
    obtain ⟨x,rfl,fJ⟩:=jt hx
    rw [ea] at fJ
    obtain ⟨l,ys,rfl,h1,h2⟩:=fJ
    obtain ⟨as,rfl,T⟩:=xn h2
    refine ⟨l,as,ds,rfl,s.seq h1,⟨T.len,fun j a d e1 e2=>av.tup s (T.at_ j a d e1 e2)⟩,ne,hz,fun l2 qs ug pm pw=>?_⟩
    have e2:qs.map (·.2)=hZ ds:=Dc ((pm.map (·.2)).trans (by rw [List.map_snd_zip (Nat.le_of_eq T.len.symm)];exact (ph ds).symm)) pw (Rr ds)
    refine k.lst s ?_ ug
    rw [<- e2,List.map_map]
    have:=(wG (K:=F.K) (G:=G) (qs:=qs) fun q hq=>by
      have hq:=pm.mem_iff.mp hq
      obtain ⟨j,hj,ej⟩:=List.getElem_of_mem hq
      rw [List.length_zip] at hj
      rw [List.getElem_zip] at ej
      have e1:as[j]?=some q.1:=by rw [List.getElem?_eq_getElem (by omega),<- ej]
      have e3:ds[j]?=some q.2:=by rw [List.getElem?_eq_getElem (by omega),<- ej]
      exact T.at_ j q.1 q.2 e1 e3).iz (H:=H)
    rw [List.map_map] at this
    exact this) hg (by decide) (by decide) hs (by intro _;rfl)
end
end L2
namespace L2
open PySem PySem.Spec PyProof.Rows
theorem SY (a:List Int):cW (dT a)<=1:=kI a
section
variable {ι:Type} {F:aY ι} {e a b c:Expr} {es:List Expr} {ρ:En} {t ta tb':Tr} {ts:List Tr} {pos:Pos}
theorem S0 {u v:V} (ha:Ev F a ρ (.fz (.fl u))) (hb:Ev F b ρ (.fz (.fl v))) (hs:tO u v=true):Et F (.Compare a [.NotEq] [b] pos) ρ (!decide (u=v)) :=
  gW (fun _=>Hc) ha hb (fun G H x y Q s hx hy k=>by rw [aL hx,aL hy];exact ⟨hs,k⟩) (eR _)
end
end L2
namespace bT
open PySem L2 ft
def top (i:Nat):Stmt:=PySem.Challenge.pw_lotmeal_k24_meals_are_good.main.body.getD i (.Pass ⟨0,0,0,0⟩)
structure Txt (mg:Str->Option Value):Prop where
  rL:mg "isinstance" = none
  T3:mg "int" = none
  S1:mg "bool" = none
  ji:mg "list" = none
  Rv:mg "tuple" = none
  cG:mg "len" = none
  e8:mg "range" = none
  aai:mg "zip" = none
  HA:mg "any" = none
  kq:mg "enumerate" = none
  HB:mg "set" = none
  ye:mg "abs" = none
  aaj:mg "sum" = none
  wH:mg "sorted" = none
  aac:mg "reversed" = none
  aak:mg "str" = none
  aal:mg "min" = none
  qa:∃ tk,mg "MOST" = some (.int 6 tk)
  o8:∃ tk,mg "MOST_COUNT" = some (.int 9 tk)
section
variable {P:Program} {w:World} {K:PySem.W.Frag} {mg:Str->Option Value} {base:Heap}
def aq (n:Nat):List Int:=(List.range n).map fun i=>0+((i:Nat):Int)
theorem gy {n:Nat} {x:Int}:x ∈ aq n ↔ 0<=x/\x<n:=by
  unfold aq
  constructor
  · intro h
    obtain ⟨i,hi,rfl⟩:=List.mem_map.mp h
    have:=List.mem_range.mp hi
    omega
  · rintro ⟨h0,h1⟩
    exact List.mem_map.mpr ⟨x.toNat,List.mem_range.mpr (by omega),by omega⟩
theorem rO (n:Nat):(aq n).Nodup:=by
  unfold aq
  rw [List.nodup_iff_pairwise_ne,List.pairwise_map]
  exact (List.nodup_range (n:=n)).imp fun h z=>h (by omega)
abbrev mz:Stmt:=top 9
theorem rG:bf ["one", "other", "rest"] ["one", "other"] (aw mz):=⟨rfl,rfl,rfl,by decide +kernel,rfl,by decide +kernel,by decide +kernel⟩
def HC (dd:List Dv) (t:Tr):Prop:=∃ a b:Int,0<=a/\0<=b/\dd=[di a,di b]/\t=ti (gc a b)
theorem Ma {f:Addr} {fd:FuncData} {k:Nat} (F:bh K "common_part" "common_part" mz f fd) (T:Txt mg):aP P w K mg base aj (k+1) f fd ["one", "other"] (spT K HC):=by
  refine bq F.d rG (fun dd t h=>by obtain ⟨_,_,_,_,rfl,_⟩:=h;rfl) fun dd t h=>?_
  obtain ⟨a,b,ha,hb,rfl,rfl⟩:=h
  refine ⟨_,.inl rfl,?_⟩
  refine rK (fun p:Int×Int=>[some (ti p.1),some (ti p.2),none]) (fun p=>0<=p.1/\0<=p.2/\gc p.1 p.2=gc a b) (fun p=>!decide (p.2=0)) (fun p=>p.2.toNat) (a,b) rfl ⟨ha,hb,rfl⟩ (fun p hp=>Et.s (x5 (ae 1 rfl) ak)) (fun p hp h=>?_) (fun p hp h=>?_)
  · obtain ⟨x,y⟩:=p
    obtain ⟨h1,h2,h3⟩:=hp
    have hy:y ≠ 0:=by simpa using h
    have jC : 0<=y:=h2
    have l1:=Int.emod_lt_of_pos x (show 0<y by omega)
    have l2:=Int.emod_nonneg x hy
    refine ⟨(y,x % y),⟨h2,l2,?_⟩,?_,bb.fg (az (aO 2 (Ev.s (fM (ae 0 rfl) (ae 1 rfl) (by omega))) (fun _=>rG.nd)) (az (aO 0 (Ev.s (ae 1 rfl)) (fun _=>rG.nd)) (aE (aO 1 (Ev.s (ae 2 rfl)) (fun _=>rG.nd))))) ⟨[2],rfl⟩⟩
    · show gc y (x % y)=_
      rw [EH];exact h3
    · show (x % y).toNat<y.toNat
      omega
  · obtain ⟨x,y⟩:=p
    obtain ⟨h1,h2,h3⟩:=hp
    have zY:y=0:=by simpa using h
    have qR:gc x y=gc a b:=h3
    have jB : 0<=x:=h1
    have e:gc a b=x:=by rw [<- qR,zY,EG];omega
    rw [e]
    exact aE (bF (Ev.s (ae 0 rfl)))
abbrev mZ:Stmt:=top 8
theorem Nv:bf ["number"] ["number"] (aw mZ):=⟨rfl,rfl,rfl,by decide +kernel,rfl,by decide +kernel,by decide +kernel⟩
def D4 (dd:List Dv) (t:Tr):Prop:=∃ n:Int,dd=[di n]/\t=tb true
theorem Nx {f:Addr} {fd:FuncData} {k:Nat} (F:bh K "is_whole" "is_whole" mZ f fd) (T:Txt mg):aP P w K mg base aj (k+1) f fd ["number"] (spT K D4):=by
  refine bq F.d Nv (fun dd t h=>by obtain ⟨n,rfl,_⟩:=h;rfl) fun dd t h=>?_
  obtain ⟨n,rfl,rfl⟩:=h
  refine ⟨_,.inl rfl,?_⟩
  exact aE (bF (Ev.s (Ev.to (FC (p:=true) (q:=true) (sR T.rL T.T3 Sw (ae 0 rfl) (by with_unfolding_all rfl)) fun _=>(pY (SD (p:=false) (sR T.rL T.S1 Qz (ae 0 rfl) (by with_unfolding_all rfl))))) rfl)))
abbrev gw:Stmt:=top 10
theorem C4:bf ["top", "bottom", "part"] ["top", "bottom"] (aw gw):=⟨rfl,rfl,rfl,by decide +kernel,rfl,by decide +kernel,by decide +kernel⟩
def fb (dd:List Dv) (t:Tr):Prop:=∃ a b:Int,0<b/\b.natAbs<2 ^ 8000/\dd=[di a,di b]/\t=tF (lT a b,lB a b)
theorem Ny {f f1 f2:Addr} {fd aH fd2:FuncData} {dV:Value} {k:Nat} (F:ou K "fraction" "fraction" gw dV f fd) (T:Txt mg) (Dd:Kn P w K mg base aj (k+1) "is_whole" f1 aH ["number"] (spT K D4)) (My:Kn P w K mg base aj (k+1) "common_part" f2 fd2 ["one", "other"] (spT K HC)):aP P w K mg base aj (k+2) f fd ["top", "bottom"] (spT K fb):=by
  refine bq F C4 (fun dd t h=>by obtain ⟨_,_,_,_,rfl,_⟩:=h;rfl) fun dd t h=>?_
  obtain ⟨a,b,hb,hz,rfl,rfl⟩:=h
  refine ⟨_,.inl rfl,?_⟩
  refine az (dy (Et.s (Ew.et (jj (pX (iJ (aM Dd (Nat.le_refl _) (ah (ae 0 rfl) ao) ⟨a,rfl,rfl⟩))) fun _=>(kO (pX (iJ (aM Dd (Nat.le_refl _) (ah (ae 1 rfl) ao) ⟨b,rfl,rfl⟩))))))) rfl) ?_
  refine az (dy (Et.s (gY (ae 1 rfl) ak)) (decide_eq_false (by omega))) ?_
  have ha : 0<=(if a<0 then -a else a):=by split<;>omega
  have oK : 0<=(if b<0 then -b else b):=by split<;>omega
  have eg:gc (if a<0 then -a else a) (if b<0 then -b else b)=gc a b:=by
    rw [show (if a<0 then -a else a)=(a.natAbs:Int) by split<;>omega,show (if b<0 then -b else b)=(b.natAbs:Int) by split<;>omega,FJ]
  have gp:=nT (a:=a) (show b ≠ 0 by omega)
  have gl:=EI (a:=a) hb
  refine az (aO 2 (bH.to (t':=ti (gc a b)) (Ev.s (aM My (Nat.le_refl _) (ah (xI T.ye (ae 0 rfl)) (ah (xI T.ye (ae 1 rfl)) ao)) ⟨_,_,ha,oK,rfl,rfl⟩)) (by rw [eg])) (fun _=>C4.nd)) ?_
  refine az (dy (Et.s (x4 (ae 1 rfl) ak)) (decide_eq_false (by omega))) ?_
  have cd:∀ i:Int,tv i (gc a b):=fun i=>⟨gp,Nat.lt_of_le_of_lt (by omega) hz⟩
  refine aE (bF (Ev.s (jd (ah (jS (ae 0 rfl) (ae 2 rfl) (cd _)) (ah (jS (ae 1 rfl) (ae 2 rfl) (cd _)) ao)) ?_ (by show 2<=sizeLine;decide))))
  show [di (a / gc a b),di (b / gc a b)]=_
  rw [FK hb,FL hb]
abbrev nW:Stmt:=top 11
theorem Rw:bf ["one", "other"] ["one", "other"] (aw nW):=⟨rfl,rfl,rfl,by decide +kernel,rfl,by decide +kernel,by decide +kernel⟩
def fO (p:Int×Int):Prop:=0<p.2/\p.2.natAbs<2 ^ 90/\p.1.natAbs<2 ^ 90
def qm (dd:List Dv) (t:Tr):Prop:=∃ p q:Int×Int,fO p/\fO q/\dd=[dF p,dF q]/\t=tF (lT (p.1*q.2+q.1*p.2) (p.2*q.2),lB (p.1*q.2+q.1*p.2) (p.2*q.2))
theorem bC {a:Int} {n:Nat} (h:a.natAbs<2 ^ n) (hn:n<=8000):a.natAbs<2 ^ 8000:=Nat.lt_of_lt_of_le h (Nat.pow_le_pow_right (by decide) hn)
theorem qc {a b:Int} {m n:Nat} (h1:a.natAbs<2 ^ m) (h2:b.natAbs<2 ^ n):(a*b).natAbs<2 ^ (m+n):=by
  rw [Int.natAbs_mul,Nat.pow_add]
  exact Nat.mul_lt_mul'' h1 h2
theorem Rx {f f1:Addr} {fd aH:FuncData} {k:Nat} (F:bh K "plus" "plus" nW f fd) (T:Txt mg) (cw:Kn P w K mg base aj (k+2) "fraction" f1 aH ["top", "bottom"] (spT K fb)):aP P w K mg base aj (k+3) f fd ["one", "other"] (spT K qm):=by
  refine bq F.d Rw (fun dd t h=>by obtain ⟨_,_,_,_,rfl,_⟩:=h;rfl) fun dd t h=>?_
  obtain ⟨p,q,⟨p1,p2,p3⟩,⟨q1,q2,q3⟩,rfl,rfl⟩:=h
  refine ⟨_,.inl rfl,?_⟩
  have dh:∀ r:Int×Int,aU [di r.1,di r.2] 0=some (di r.1):=fun _=>rfl
  have cE:∀ r:Int×Int,aU [di r.1,di r.2] 1=some (di r.2):=fun _=>rfl
  exact aE (bF (Ev.s (aM cw (Nat.le_refl _) (ah (gV (eu (aW (ae 0 rfl) ak rfl (dh p)) (aW (ae 1 rfl) ak rfl (cE q)) ⟨bC p3 (by decide),bC q2 (by decide)⟩) (eu (aW (ae 1 rfl) ak rfl (dh q)) (aW (ae 0 rfl) ak rfl (cE p)) ⟨bC q3 (by decide),bC p2 (by decide)⟩)) (ah (eu (aW (ae 0 rfl) ak rfl (cE p)) (aW (ae 1 rfl) ak rfl (cE q)) ⟨bC p2 (by decide),bC q2 (by decide)⟩) ao)) ⟨_,_,Int.mul_pos p1 q1,bC (qc p2 q2) (by decide),rfl,rfl⟩)))
abbrev mh:Stmt:=top 24
theorem vw:bf ["orders", "many", "asker", "order"] ["orders", "many"] (aw mh):=⟨rfl,rfl,rfl,by decide +kernel,rfl,by decide +kernel,by decide +kernel⟩
def Gv (dd:List Dv) (t:Tr):Prop:=∃ (os:List (List Int)) (n:Int),(∀ o ∈ os,o.Nodup/\o.length<=100/\∀ x ∈ o,0<=x/\x<n)/\dd=[.lst (os.map dis),di n]/\t=tn
theorem E4 {α:Type} (l:List α) (f : α->Bool):er (.ow (l.map fun k=>Tr.fz (db (f k))))=.lst ((l.map f).map db):=by
  rw [cZ,List.map_map];rfl
theorem LZ {f:Addr} {fd:FuncData} {k:Nat} (F:bh K "check_orders" "check_orders" mh f fd) (T:Txt mg):aP P w K mg base aj (k+1) f fd ["orders", "many"] (spT K Gv):=by
  refine bq F.d vw (fun dd t h=>by obtain ⟨_,_,_,rfl,_⟩:=h;rfl) fun dd t h=>?_
  obtain ⟨os,n,ho,rfl,rfl⟩:=h
  refine ⟨_,.inr ⟨rfl,[some (.fz (.lst (os.map dis))),some (ti n),none,none],rfl⟩,?_⟩
  have big : 1000<sizeLine:=by decide
  refine az (ρ1:=[some (.fz (.lst (os.map dis))),some (ti n),none,none]) (eA (bA.s (kB T.kq (ae 0 rfl) rfl)) (jT 2 3 (fun _=>vw.nd)) (fun _=>[some (.fz (.lst (os.map dis))),some (ti n),none,none]) rfl (fun _=>rfl) (fun j d hd=>?_)) ?_
  · obtain ⟨x,hx,rfl⟩:=pP hd
    obtain ⟨o,fY,rfl⟩:=ef hx
    obtain ⟨o1,o2,o3⟩:=ho o (List.mem_of_getElem? fY)
    refine ⟨_,_,rfl,aE (dy (Et.s (iJ (FO (bs:=o.map fun x=>decide (x<0) || decide (n<=x)) T.HA (gC (own:=["thing"]) (fr:=[1]) o di (fun x=>tb (decide (x<0) || decide (n<=x))) (fun i=>lcs ⟨rfl,rfl,by decide +kernel,by decide +kernel,by decide +kernel,by decide +kernel⟩) (ck (ae 3 rfl) rfl) (bM 0 (fun _=>by show List.Nodup (["thing", "many"]:List Str);decide)) (by decide) (by omega) (fun x hx=>⟨_,rfl,kU (tD (ae 0 rfl) ak) fun _=>pY (TC (ae 0 rfl) (ae 1 rfl))⟩) (fun dd=>by cases dd<;>rfl)) (E4 o _)))) ?_),[2,3],rfl⟩
    rw [List.any_eq_false]
    intro b hb
    obtain ⟨x,hx,rfl⟩:=List.mem_map.mp hb
    obtain ⟨x0,x1⟩:=o3 x hx
    simp only [id,decide_eq_false (show ¬ x<0 by omega),decide_eq_false (show ¬ n<=x by omega)]
    decide
  refine az (ρ1:=[some (.fz (.lst (os.map dis))),some (ti n),none,none]) (eA (bA.s (kB T.kq (ae 0 rfl) rfl)) (jT 2 3 (fun _=>vw.nd)) (fun _=>[some (.fz (.lst (os.map dis))),some (ti n),none,none]) rfl (fun _=>rfl) (fun j d hd=>?_)) nC
  obtain ⟨x,hx,rfl⟩:=pP hd
  obtain ⟨o,fY,rfl⟩:=ef hx
  obtain ⟨o1,o2,o3⟩:=ho o (List.mem_of_getElem? fY)
  refine ⟨_,_,rfl,aE (dy (Et.s (x5 (OO T.cG T.HB (ae 3 rfl) rfl (by omega)) (cL T.cG (ae 3 rfl) (.inl rfl)))) ?_),[2,3],rfl⟩
  rw [M1 o1,List.length_map]
  simp
abbrev m3:Stmt:=top 25
theorem Nz:bf ["counts", "orders"] ["counts", "orders"] (aw m3):=⟨rfl,rfl,rfl,by decide +kernel,rfl,by decide +kernel,by decide +kernel⟩
def Iz (dd:List Dv) (t:Tr):Prop:=∃ (c:List Int) (os:List (List Int)),cM c os/\dd=[dis c,.lst (os.map dis)]/\t=.tp [bu c,jk os]
theorem NA {f f1:Addr} {fd aH:FuncData} {k:Nat} (F:bh K "table_of" "table_of" m3 f fd) (T:Txt mg) (Mb:Kn P w K mg base aj (k+1) "check_orders" f1 aH ["orders", "many"] (spT K Gv)):aP P w K mg base aj (k+2) f fd ["counts", "orders"] (spT K Iz):=by
  refine bq F.d Nz (fun dd t h=>by obtain ⟨_,_,_,rfl,_⟩:=h;rfl) fun dd t h=>?_
  obtain ⟨c,os,ok,rfl,rfl⟩:=h
  refine ⟨_,.inl rfl,?_⟩
  have big : 1000<sizeLine:=by decide
  have c6:=ok.c6
  have o6:=ok.o6
  have o1:=ok.o1
  obtain ⟨tk,gm⟩:=T.qa
  obtain ⟨tk2,gm2⟩:=T.o8
  refine az (dy (Et.s (Ew.et (jj (qf (cL T.cG (ae 0 rfl) (.inl rfl)) (w8 (v:=.int 6) gm ⟨_,rfl⟩ rfl)) fun _=>(kO (qf (cL T.cG (ae 1 rfl) (.inl rfl)) (w8 (v:=.int 6) gm ⟨_,rfl⟩ rfl)))))) ?_) ?_
  · rw [List.length_map,List.length_map,decide_eq_false (by omega),decide_eq_false (by omega)];rfl
  refine az (dy (Et.s (gY (cL T.cG (ae 1 rfl) (.inl rfl)) ak)) ?_) ?_
  · rw [List.length_map,decide_eq_false (by omega)]
  refine az (dy (Et.s (iJ (FO (bs:=c.map fun x=>decide (x<0) || decide (9<x)) T.HA (gC (own:=["count"]) (fr:=[]) c di (fun x=>tb (decide (x<0) || decide (9<x))) (fun i=>lcs ⟨rfl,rfl,by decide +kernel,by decide +kernel,by decide +kernel,by decide +kernel⟩) (ck (ae 0 rfl) rfl) (bM 0 (fun _=>by show List.Nodup (["count"]:List Str);decide)) (by decide) (by omega) (fun x hx=>⟨_,rfl,by exact kU (tD (ae 0 rfl) ak) fun _=>pY (TB (ae 0 rfl) (w8 (v:=.int 9) gm2 ⟨_,rfl⟩ rfl))⟩) (fun dd=>by cases dd<;>rfl)) (E4 c _)))) ?_) ?_
  · rw [List.any_eq_false]
    intro b hb
    obtain ⟨x,hx,rfl⟩:=List.mem_map.mp hb
    obtain ⟨x0,x1⟩:=ok.cnt x hx
    simp only [id,decide_eq_false (show ¬ x<0 by omega),decide_eq_false (show ¬ 9<x by omega)]
    decide
  refine az (QC (Ev.s (aM Mb (Nat.le_refl _) (ah (ae 1 rfl) (ah (cL T.cG (ae 0 rfl) (.inl rfl)) ao)) ⟨os,c.length,fun o ho=>⟨ok.nd o ho,Nat.le_trans (ok.jv ho) (by decide),ok.bR o ho⟩,?_,rfl⟩))) ?_
  rotate_left
  · rw [List.length_map];rfl
  refine aE (bF (Ev.s (Ev.to (sQ (ah (pM T.ji (ae 0 rfl) (.inl rfl)) (ah (gC (own:=["order"]) (fr:=[]) os dis bu (fun i=>lcs ⟨rfl,rfl,by decide +kernel,by decide +kernel,by decide +kernel,by decide +kernel⟩) (ck (ae 1 rfl) rfl) (bM 0 (fun _=>by show List.Nodup (["order"]:List Str);decide)) (by decide) (by omega) (fun o ho=>⟨_,rfl,Ev.to (pM T.ji (ae 0 rfl) (.inl rfl)) (by rw [iI])⟩) (fun dd=>by cases dd<;>rfl)) ao)) (by show 2<=sizeLine;decide)) (by rw [iI]))))
abbrev mM:Stmt:=top 26
theorem vB:bf ["table", "asker", "many", "order"] ["table", "asker"] (aw mM):=⟨rfl,rfl,rfl,by decide +kernel,rfl,by decide +kernel,by decide +kernel⟩
def yf (dd:List Dv) (t:Tr):Prop:=∃ (c:List Int) (os:List (List Int)) (a:Int) (o:List Int),c.length<=100/\o.length<=100/\aU os a=some o/\dd=[cq c os,di a]/\t=bu (aB c.length o)
theorem Ry {α β:Type} (f : α -> β) {l:List α} {k:Int} {x : α} (h:aU l k=some x):aU (l.map f) k=some (f x):=by
  unfold aU at h ⊢
  rw [List.length_map]
  cases q:fI l.length k with
  | none=>rw [q] at h;cases h
  | some j =>
    rw [q] at h
    show (l.map f)[j]?=_
    have h':l[j]?=some x:=h
    rw [List.getElem?_map,h'];rfl
theorem Mz {f:Addr} {fd:FuncData} {k:Nat} (F:bh K "full_order" "full_order" mM f fd) (T:Txt mg):aP P w K mg base aj (k+1) f fd ["table", "asker"] (spT K yf):=by
  refine bq F.d vB (fun dd t h=>by obtain ⟨_,_,_,_,_,_,_,rfl,_⟩:=h;rfl) fun dd t h=>?_
  obtain ⟨c,os,a,o,h1,h2,h3,rfl,rfl⟩:=h
  refine ⟨_,.inl rfl,?_⟩
  have big : 1000<sizeLine:=by decide
  refine az (aO 2 (Ev.s (cL T.cG (aW (d:=dis c) (ae 0 rfl) ak rfl rfl) (.inl rfl))) (fun _=>vB.nd)) ?_
  refine az (aO 3 (Ev.s (cm (d:=dis o) (aW (d:=.lst (os.map dis)) (ae 0 rfl) ak rfl rfl) (ae 1 rfl) rfl (Ry dis h3))) (fun _=>vB.nd)) ?_
  rw [List.length_map]
  refine aE (bF (Ev.s (Ev.to (nR (nR (ae 3 rfl) (cT (ah (ae 2 rfl) ao) (by show 1<=sizeLine;decide)) rfl rfl ?_) (tG (own:=["thing"]) (fr:=[3]) (fun i=>lcs ⟨rfl,rfl,by decide +kernel,by decide +kernel,by decide +kernel,by decide +kernel⟩) (gv T.e8 (ae 2 rfl) ⟨by omega,by omega⟩) (bM 0 (fun _=>by show List.Nodup (["thing", "order"]:List Str);decide)) (by decide) (fun k=>!o.contains (0+((k:Nat):Int))) (fun k=>ti (0+((k:Nat):Int))) ?_ (fun k d hd=>?_) (fun dd=>?_)) (kQ _) (p7 _ _) ?_) ?_)))
  · show (o.map di).length+1<=sizeLine
    rw [List.length_map];omega
  · rw [List.length_map,List.length_range];omega
  · obtain ⟨hi,rfl⟩:=pN hd
    exact ⟨_,rfl,fN (nk (ae 0 rfl) (ae 1 rfl) rfl (by with_unfolding_all rfl)),fun _=>ae 0 rfl⟩
  · cases dd<;>rfl
  · have e:(gJ 0 ((c.length:Nat):Int).toNat).length=c.length:=by simp
    rw [e]
    show ((o.map di)++[di _]).length+((e9 c.length o).map di).length<=sizeLine
    have:=vX c.length o
    simp only [List.length_append,List.length_map,List.length_singleton]
    omega
  · have e:(gJ 0 ((c.length:Nat):Int).toNat).length=c.length:=by simp
    rw [e]
    show Tr.ow ((((o.map di)++[di _])++((e9 c.length o).map di)).map .fz)=Tr.ow ((o++[(c.length:Int)]++e9 c.length o).map _)
    simp only [List.map_append,List.map_map]
    rfl
abbrev mN:Stmt:=top 27
theorem MA:bf ["order", "gone"] ["order", "gone"] (aw mN):=⟨rfl,rfl,rfl,by decide +kernel,rfl,by decide +kernel,by decide +kernel⟩
def de (order gone:List Int):List Int:=order.filter fun x=>!gone.contains x
def Gw (dd:List Dv) (t:Tr):Prop:=∃ (order gone:List Int) (x:Int) (r:List Int),order.length<=100/\de order gone=x::r/\dd=[dis order,dis gone]/\t=ti x
theorem M6 {α:Type} (l:List α) (d : α) (p : α->Bool):(((List.range l.length).filter fun k=>p ((l[k]?).getD d)).map fun k=>(l[k]?).getD d)=l.filter p:=by
  have h:((List.range l.length).map fun k=>(l[k]?).getD d)=l:=by
    have:=rJ l d id
    simpa using this
  conv=>rhs;rw [<- h]
  rw [List.filter_map]
  rfl
theorem MB {f:Addr} {fd:FuncData} {k:Nat} (F:bh K "first_left" "first_left" mN f fd) (T:Txt mg):aP P w K mg base aj (k+1) f fd ["order", "gone"] (spT K Gw):=by
  refine bq F.d MA (fun dd t h=>by obtain ⟨_,_,_,_,_,_,rfl,_⟩:=h;rfl) fun dd t h=>?_
  obtain ⟨order,gone,x,r,h1,h2,rfl,rfl⟩:=h
  refine ⟨_,.inl rfl,?_⟩
  have big : 1000<sizeLine:=by decide
  refine aE (bF (Ev.s (cm (xs:=(de order gone).map di) (d:=di x) (tG (own:=["one"]) (fr:=[1]) (fun i=>lcs ⟨rfl,rfl,by decide +kernel,by decide +kernel,by decide +kernel,by decide +kernel⟩) (ck (ae 0 rfl) rfl) (bM 0 (fun _=>by show List.Nodup (["one", "gone"]:List Str);decide)) (by decide) (fun k=>!gone.contains ((order[k]?).getD 0)) (fun k=>ti ((order[k]?).getD 0)) ?_ (fun k d hd=>?_) (fun dd=>?_)) ak ?_ ?_)))
  · rw [List.length_map];omega
  · obtain ⟨y,hy,rfl⟩:=ef hd
    refine ⟨_,rfl,?_,fun _=>?_⟩
    · rw [hy];exact fN (nk (ae 0 rfl) (ae 1 rfl) rfl (by with_unfolding_all rfl))
    · rw [hy];exact ae 0 rfl
  · cases dd<;>rfl
  · rw [p7,List.length_map,M6 order 0 fun x=>!gone.contains x]
    rfl
  · rw [h2];exact e7 (j:=0) rfl
def cz (cI:List Int) (x:Int):Int:=cI.getD x.toNat 0
structure fQ (W:Int) (n:Nat) (cI:List Int):Prop where
  w0 : 0<W
  w1:W<2 ^ 70
  len:cI.length=n+1
  t0:∀ t ∈ cI,0<=t/\t<=W
theorem se {W:Int} {n:Nat} {cI:List Int} (h:fQ W n cI) (x:Int) : 0<=cz cI x/\cz cI x<=W:=by
  unfold cz
  rw [List.getD_eq_getElem?_getD]
  cases q:cI[x.toNat]? with
  | none=>exact ⟨Int.le_refl _,Int.le_of_lt h.w0⟩
  | some t=>exact h.t0 t (List.mem_of_getElem? q)
theorem rowAt {W:Int} {n:Nat} {cI:List Int} (h:fQ W n cI) {x:Int} (x0 : 0<=x) (x1:x<=n):aU ((cI.map (fW W)).map dF) x=some (dF (fW W (cz cI x))):=by
  obtain ⟨m,rfl⟩:∃ m:Nat,x=(m:Int):=⟨x.toNat,by omega⟩
  have hm:m<cI.length:=by rw [h.len];omega
  refine e7 ?_
  unfold cz
  rw [List.getElem?_map,List.getElem?_map,List.getD_eq_getElem?_getD,Int.toNat_natCast,List.getElem?_eq_getElem hm];rfl
theorem Rz {n:Nat} {o:List Int} (h:∀ x ∈ o,0<=x/\x<n):∀ x ∈ aB n o,0<=x/\x<=n:=fun x hx=>by
  unfold aB e9 at hx
  rcases List.mem_append.mp hx with z | z
  · rcases List.mem_append.mp z with z | z
    · have:=h x z;omega
    · rw [List.mem_singleton] at z;omega
  · obtain ⟨k,hk,rfl⟩:=List.mem_map.mp z
    have:=List.mem_range.mp (List.mem_filter.mp hk).1
    omega
theorem PZ {n:Nat} (o:List Int):(aB n o).length<=o.length+1+n:=by
  have:=vX n o
  unfold aB
  simp only [List.length_append,List.length_singleton];omega
def ic (W:Int) (cI:List Int):Dv:=.lst ((cI.map (fW W)).map dF)
theorem xQ (p:Int×Int):cW (dF p)<=1:=by
  show cR _+1<=1
  exact Nat.succ_le_succ (pO fun d hd=>by
    rcases List.mem_cons.mp hd with rfl | hd
    · exact Nat.le_refl _
    · rw [List.mem_singleton.mp hd];exact Nat.le_refl _)
theorem iN (c:Int):(lT c 1,lB c 1)=(c,1):=by
  have:=r6 (t:=c) (b:=1) (p:=c) (q:=1) (by decide) (by decide) (by simp) (by rfl)
  rw [<- this.1,<- this.2]
end
end bT
namespace bT
open PySem L2 ft
section
variable {P:Program} {w:World} {K:PySem.W.Frag} {mg:Str->Option Value} {base:Heap}
abbrev mj:Stmt:=top 49
theorem L0:bf ["_law_script", "_law_k"] ["_law_script", "_law_k"] (aw mj):=⟨rfl,rfl,rfl,by decide +kernel,rfl,by decide +kernel,by decide +kernel⟩
def HD (dd:List Dv) (t:Tr):Prop:=∃ (ns:List Int) (k:Int),0<=k/\dd=[dis ns,di k]/\t=ti (eV ns k)
theorem L1 {f:Addr} {fd:FuncData} {k:Nat} (F:bh K "_law_cell_at" "_law_cell_at" mj f fd) (T:Txt mg):aP P w K mg base aj (k+1) f fd ["_law_script", "_law_k"] (spT K HD):=by
  refine bq F.d L0 (fun dd t h=>by obtain ⟨_,_,_,rfl,_⟩:=h;rfl) fun dd t h=>?_
  obtain ⟨ns,j,hj,rfl,rfl⟩:=h
  refine ⟨_,.inl rfl,?_⟩
  by_cases hl:j<ns.length
  · refine EE (nS (Et.s (x4 (ae 1 rfl) (cL T.cG (ae 0 rfl) (.inl rfl)))) ?_ (aE (bF (Ev.s (cm (ae 0 rfl) (ae 1 rfl) rfl ?_)))))
    · rw [List.length_map];exact decide_eq_true hl
    · exact cell_in hj hl
  · refine az (dy (Et.s (x4 (ae 1 rfl) (cL T.cG (ae 0 rfl) (.inl rfl)))) ?_) ?_
    · rw [List.length_map];exact decide_eq_false hl
    · rw [cell_out hj (by omega)]
      exact aE (bF (Ev.s ak))
def cN (cell:Int):Nat->Int×List Int
  | 0=>(cell % 2147483629+7,[])
  | k+1=>(((cN cell k).1*(cN cell k).1+48271*(cN cell k).1+(0+((k:Nat):Int))) % 2147483647,(cN cell k).2++[((cN cell k).1*(cN cell k).1+48271*(cN cell k).1+(0+((k:Nat):Int))) % 2147483647 / 16])
def df (cell:Int) (n:Nat):List Int:=(cN cell n).2
theorem pR (cell:Int):∀ k,0<=(cN cell k).1/\(cN cell k).1<2147483648/\(cN cell k).2.length=k
  | 0=>by
    have a:=Int.emod_nonneg cell (show (2147483629:Int) ≠ 0 by decide)
    have b:=Int.emod_lt_of_pos cell (show (0:Int)<2147483629 by decide)
    show 0<=cell % 2147483629+7/\cell % 2147483629+7<2147483648/\_
    exact ⟨by omega,by omega,rfl⟩
  | k+1=>by
    obtain ⟨_,_,h⟩:=pR cell k
    refine ⟨Int.emod_nonneg _ (by decide),Int.lt_trans (Int.emod_lt_of_pos _ (by decide)) (by decide),?_⟩
    show ((cN cell k).2++[_]).length=_
    rw [List.length_append,h];rfl
abbrev mB:Stmt:=top 50
theorem o7:bf ["_law_cell", "_law_many", "_law_drawn", "_law_found", "_law_k"] ["_law_cell", "_law_many"] (aw mB):=⟨rfl,rfl,rfl,by decide +kernel,rfl,by decide +kernel,by decide +kernel⟩
def xq (dd:List Dv) (t:Tr):Prop:=∃ (cell:Int) (n:Nat),n<=100/\dd=[di cell,di n]/\t=bu (df cell n)
theorem Md {f:Addr} {fd:FuncData} {k:Nat} (F:bh K "_law_stream" "_law_stream" mB f fd) (T:Txt mg):aP P w K mg base aj (k+1) f fd ["_law_cell", "_law_many"] (spT K xq):=by
  refine bq F.d o7 (fun dd t h=>by obtain ⟨_,_,_,rfl,_⟩:=h;rfl) fun dd t h=>?_
  obtain ⟨cell,n,hn,rfl,rfl⟩:=h
  refine ⟨_,.inl rfl,?_⟩
  have big : 1000<sizeLine:=by decide
  refine az (aO 2 (Ev.s (gV (fM (ae 0 rfl) ak (by decide)) ak)) (fun _=>o7.nd)) ?_
  refine az (aO 3 (Ev.s (cT ao (Nat.zero_le _))) (fun _=>o7.nd)) ?_
  refine az (eA (bA.s (gv T.e8 (ae 1 rfl) ⟨by omega,by omega⟩)) (bM 4 (fun _=>o7.nd)) (fun k=>[some (ti cell),some (ti n),some (ti (cN cell k).1),some (bu (cN cell k).2),none]) rfl (fun _=>rfl) (fun j d hd=>?_)) ?_
  · obtain ⟨hj,rfl⟩:=pN hd
    obtain ⟨d0,d1,dl⟩:=pR cell j
    have e:cN cell (j+1)=(((cN cell j).1*(cN cell j).1+48271*(cN cell j).1+(0+((j:Nat):Int))) % 2147483647,(cN cell j).2++[((cN cell j).1*(cN cell j).1+48271*(cN cell j).1+(0+((j:Nat):Int))) % 2147483647 / 16]):=rfl
    rw [e]
    generalize cN cell j=s at d0 d1 dl
    obtain ⟨x,l⟩:=s
    simp only at d0 d1 dl ⊢
    refine ⟨_,_,rfl,az (aO 2 (Ev.s (fM (gV (gV (EK (ae 2 rfl) (ae 2 rfl) (.inl ⟨by omega,by omega⟩)) (EK ak (ae 2 rfl) (.inr ⟨by omega,by omega⟩))) (ae 4 rfl)) ak (by decide))) (fun _=>o7.nd))
      (aE (ng 3 rfl (Ev.s (jS (ae 2 rfl) ak ⟨by decide,rY (by decide) (by decide)⟩)) (by rw [List.length_map];omega))),[4],?_⟩
    show [_,_,_,some (Tr.ow (_++[_])),_]=[_,_,_,some (Tr.ow _),_]
    rw [List.map_append]
    rfl
  · rw [List.length_map,List.length_range]
    show bb _ _ [_,_,_,some (bu (cN cell n).2),_] _
    exact aE (je 3 rfl)
def bN (kW:List Int) (left:List Int):Nat->List Int×List Int
  | 0=>(left,[])
  | k+1=>((bN kW left k).1.eraseIdx ((kW.getD k 0) % (bN kW left k).1.length).toNat,(bN kW left k).2++[(((bN kW left k).1)[((kW.getD k 0) % (bN kW left k).1.length).toNat]?).getD 0])
theorem wk (sm left:List Int):∀ k,k<=left.length->((bN sm left k).2++(bN sm left k).1).Perm left/\(bN sm left k).1.length=left.length-k/\(bN sm left k).2.length=k
  | 0,_=>⟨.refl _,by simp [bN],rfl⟩
  | k+1,hk=>by
    obtain ⟨h1,h2,h3⟩:=wk sm left k (by omega)
    have e:bN sm left (k+1)=((bN sm left k).1.eraseIdx ((sm.getD k 0) % (bN sm left k).1.length).toNat,(bN sm left k).2++[(((bN sm left k).1)[((sm.getD k 0) % (bN sm left k).1.length).toNat]?).getD 0]):=rfl
    rw [e]
    generalize bN sm left k=s at *
    obtain ⟨l,o⟩:=s
    generalize sm.getD k 0=c
    have hl : 0<l.length:=by have:l.length=left.length-k:=h2;omega
    have m0:=Int.emod_nonneg c (show (l.length:Int) ≠ 0 by omega)
    have m1:=Int.emod_lt_of_pos c (show 0<(l.length:Int) by omega)
    have oU:(c % l.length).toNat<l.length:=by omega
    simp only at h1 h2 h3 ⊢
    generalize (c % l.length).toNat=m at oU ⊢
    refine ⟨?_,?_,by rw [List.length_append];have:o.length=k:=h3;simp [this]⟩
    · rw [List.getElem?_eq_getElem oU,Option.getD_some,List.append_assoc]
      exact (List.Perm.append_left o (C9 oU)).trans h1
    · rw [List.length_eraseIdx_of_lt oU]
      omega
def iK (cell:Int) (n:Nat):List Int :=
  if (df (cell / 4) (n+2)).getD n 0 % 3=0 then cutD (bN (df (cell / 4) (n+2)) (aq n) n).2 none (some ((df (cell / 4) (n+2)).getD (n+1) 0 % ((n:Int)+1))) else (bN (df (cell / 4) (n+2)) (aq n) n).2
theorem sf (n:Nat):(aq n).length=n:=by unfold aq;rw [List.length_map,List.length_range]
theorem N9 (cell:Int) (n:Nat):(iK cell n).Sublist (bN (df (cell / 4) (n+2)) (aq n) n).2:=by
  unfold iK
  split
  · unfold cutD
    exact (List.take_sublist _ _).trans (List.drop_sublist _ _)
  · exact .refl _
theorem O2 (cell:Int) (n:Nat):(iK cell n).Nodup/\∀ x ∈ iK cell n,0<=x/\x<n:=by
  obtain ⟨h,_⟩:=wk (df (cell / 4) (n+2)) (aq n) n (by rw [sf];exact Nat.le_refl _)
  have s:=N9 cell n
  refine ⟨((List.nodup_append.mp (h.nodup_iff.mpr (rO n))).1).sublist s,fun x hx=>gy.mp (h.mem_iff.mp (List.mem_append_left _ (s.subset hx)))⟩
abbrev mO:Stmt:=top 51
theorem mC:bf ["_law_cell", "_law_many", "_law_some", "_law_left_here", "_law_order_here", "_law_k"] ["_law_cell", "_law_many"] (aw mO):=⟨rfl,rfl,rfl,by decide +kernel,rfl,by decide +kernel,by decide +kernel⟩
def Gx (dd:List Dv) (t:Tr):Prop:=∃ (cell:Int) (n:Nat),n<=6/\dd=[di cell,di n]/\t=bu (iK cell n)
theorem MC {f f1:Addr} {fd aH:FuncData} {k:Nat} (F:bh K "_law_order" "_law_order" mO f fd) (T:Txt mg) (vC:Kn P w K mg base aj (k+1) "_law_stream" f1 aH ["_law_cell", "_law_many"] (spT K xq)):aP P w K mg base aj (k+2) f fd ["_law_cell", "_law_many"] (spT K Gx):=by
  refine bq F.d mC (fun dd t h=>by obtain ⟨_,_,_,rfl,_⟩:=h;rfl) fun dd t h=>?_
  obtain ⟨cell,n,hn,rfl,rfl⟩:=h
  refine ⟨_,.inl rfl,?_⟩
  have big : 1000<sizeLine:=by decide
  have sl:(df (cell / 4) (n+2)).length=n+2:=(pR (cell / 4) (n+2)).2.2
  have UI:=wk (df (cell / 4) (n+2)) (aq n)
  have oy:iK cell n=if (df (cell / 4) (n+2)).getD n 0 % 3=0 then cutD (bN (df (cell / 4) (n+2)) (aq n) n).2 none (some ((df (cell / 4) (n+2)).getD (n+1) 0 % ((n:Int)+1))) else (bN (df (cell / 4) (n+2)) (aq n) n).2:=rfl
  generalize iK cell n=res at oy
  have T4:[di (cell / 4),di ((n:Int)+2)]=[di (cell / 4),di ((n+2:Nat):Int)]:=rfl
  refine az (aO 2 (Ev.s (Ev.as (d:=dis (df (cell / 4) (n+2))) (aM vC (Nat.le_refl _) (ah (jS (ae 0 rfl) ak ⟨by decide,rY (by decide) (by decide)⟩) (ah (gV (ae 1 rfl) ak) ao)) ⟨cell / 4,n+2,by omega,T4,rfl⟩) (dk _))) (fun _=>mC.nd)) ?_
  generalize df (cell / 4) (n+2)=sm at *
  have yT:∀ m:Nat,m<n+2->aU (sm.map di) ((m:Nat):Int)=some (di (sm.getD m 0)):=fun m hm=>e7 (by
    rw [List.getElem?_map,List.getElem?_eq_getElem (by omega),List.getD_eq_getElem?_getD,List.getElem?_eq_getElem (by omega)];rfl)
  refine az (aO 3 (Ev.s (vF T.ji T.e8 (ae 1 rfl) (by omega) (by omega))) (fun _=>mC.nd)) ?_
  refine az (aO 4 (Ev.s (cT ao (Nat.zero_le _))) (fun _=>mC.nd)) ?_
  refine az (eA (bA.s (gv T.e8 (ae 1 rfl) ⟨by omega,by omega⟩)) (bM 5 (fun _=>mC.nd)) (fun k=>[some (ti cell),some (ti n),some (.fz (dis sm)),some (bu (bN sm (aq n) k).1),some (bu (bN sm (aq n) k).2),none]) rfl (fun _=>rfl) (fun j d hd=>?_)) ?_
  · obtain ⟨hj,rfl⟩:=pN hd
    have qX:j<n:=by omega
    obtain ⟨p1,p2,p3⟩:=UI j (by rw [sf];omega)
    rw [sf] at p2
    have e:bN sm (aq n) (j+1)=((bN sm (aq n) j).1.eraseIdx ((sm.getD j 0) % (bN sm (aq n) j).1.length).toNat,(bN sm (aq n) j).2++[(((bN sm (aq n) j).1)[((sm.getD j 0) % (bN sm (aq n) j).1.length).toNat]?).getD 0]):=rfl
    have sj:aU (sm.map di) (0+(j:Int))=some (di (sm.getD j 0)):=by
      have:=yT j (by omega)
      rwa [Int.zero_add]
    rw [e]
    generalize bN sm (aq n) j=s at p1 p2 p3
    obtain ⟨l,o⟩:=s
    generalize sm.getD j 0=c at sj
    simp only at p1 p2 p3 ⊢
    have hl : 0<(l.length:Int):=by omega
    have hl6:(l.length:Int)<=6:=by omega
    have m0:=Int.emod_nonneg c (show (l.length:Int) ≠ 0 by omega)
    have m1:=Int.emod_lt_of_pos c hl
    have el:(eK (l.map fun n=>Tr.fz (di n))).length=l.length:=by rw [nB,List.length_map,List.length_map]
    refine ⟨_,_,rfl,aE (Mw 4 3 (d:=di ((l[(c % l.length).toNat]?).getD 0)) (n:=c % l.length) (m:=(c % l.length).toNat) (by decide) rfl rfl (bH.to (t':=ti (c % l.length)) (Ev.pk (fM (cm (ae 2 rfl) (ae 5 rfl) rfl sj) (cL T.cG (ae 3 rfl) (.inl rfl)) (by rw [el];exact hl)) True.intro) (by rw [el])) ?_ ⟨by omega,by omega⟩ ?_ ?_),[5],?_⟩
    · rw [List.length_map]
      unfold fI
      rw [if_pos m0,if_pos m1]
    · rw [List.getElem?_map,List.getElem?_eq_getElem (show (c % l.length).toNat<l.length by omega)]
      rfl
    · rw [List.length_map];omega
    · show [_,_,_,some (Tr.ow (List.eraseIdx _ _)),some (Tr.ow (_++[_])),_]=[_,_,_,some (Tr.ow _),some (Tr.ow _),_]
      rw [List.map_append,Dt]
      rfl
  · rw [List.length_map,List.length_range,Int.toNat_natCast]
    generalize hp:(bN sm (aq n) n).2=pp at oy
    generalize (bN sm (aq n) n).1=ll
    show bb _ _ [some (ti cell),some (ti n),some (.fz (dis sm)),some (bu ll),some (bu pp),none] _
    have s1:=yT n (by omega)
    have s2:=yT (n+1) (by omega)
    have s2':aU (sm.map di) ((n:Int)+1)=some (di (sm.getD (n+1) 0)):=s2
    cases h3:decide (sm.getD n 0 % 3=0) with
    | true =>
      rw [if_pos (of_decide_eq_true h3)] at oy
      refine az (ρ1:=[some (ti cell),some (ti n),some (.fz (dis sm)),some (bu ll),some (bu res),none]) (nS (Et.s (gY (fM (cm (ae 2 rfl) (ae 1 rfl) rfl s1) ak (by decide)) ak)) h3 (aE (aO 4 (bH.to (t':=bu res) (Ev.pk (wy (ae 4 rfl) (dk pp) EC (sE (fM (cm (ae 2 rfl) (gV (ae 1 rfl) ak) rfl s2') (gV (ae 1 rfl) ak) (by omega)))) ?_) ?_) (fun _=>mC.nd)))) (aE (je 4 rfl))
      · rw [sd,iI]
        exact sF _
      · rw [sd,iI,oy]
    | false =>
      rw [if_neg (of_decide_eq_false h3)] at oy
      rw [oy]
      exact az (dy (Et.s (gY (fM (cm (ae 2 rfl) (ae 1 rfl) rfl s1) ak (by decide)) ak)) h3) (aE (je 4 rfl))
theorem P0 {α:Type} {l:List α} {x : α}:aU (l++[x]) (-1)=some x:=by
  unfold aU fI
  rw [if_neg (by decide),if_pos (by rw [List.length_append];simp;omega)]
  show (l++[x])[_]?=_
  have e:(-1+((l++[x]).length:Int)).toNat=l.length:=by rw [List.length_append,List.length_singleton];omega
  rw [e,List.getElem?_append_right (Nat.le_refl _),Nat.sub_self];rfl
theorem eq_nil {α:Type} (f : α->Dv):∀ L:List α,bV (.lst (L.map f)) (.lst [])=L.isEmpty
  | [] => rfl
  | _::_=>rfl
def jX (L:List (List Int)):List Int:=L.getLast?.getD []
theorem O3 {L:List (List Int)} (h:L.isEmpty=false):aU (L.map dis) (-1)=some (dis (jX L)):=by
  rcases List.eq_nil_or_concat L with rfl | ⟨l,x,rfl⟩
  · cases h
  · unfold jX
    rw [List.map_concat,List.concat_eq_append,P0,List.concat_eq_append,List.getLast?_append];rfl
theorem O4 {L:List (List Int)} (h:L.isEmpty=false):jX L ∈ L:=by
  rcases List.eq_nil_or_concat L with rfl | ⟨l,x,rfl⟩
  · cases h
  · unfold jX
    rw [List.concat_eq_append,List.getLast?_append];simp
def dD (cells:List Int) (n:Nat):Nat->List (List Int)
  | 0=>[]
  | k+1=>dD cells n k++[if decide (cells.getD k 0 % 4=0) && !(dD cells n k).isEmpty then jX (dD cells n k) else iK (cells.getD k 0) n]
theorem xr (cells:List Int) (n:Nat):∀ k,(dD cells n k).length=k/\∀ o ∈ dD cells n k,o.Nodup/\∀ x ∈ o,0<=x/\x<n
  | 0=>⟨rfl,fun _ h=>nomatch h⟩
  | k+1=>by
    obtain ⟨h1,h2⟩:=xr cells n k
    refine ⟨by show (dD cells n k++[_]).length=_;rw [List.length_append,h1];rfl,fun o ho=>?_⟩
    have fY:o ∈ dD cells n k++[if decide (cells.getD k 0 % 4=0) && !(dD cells n k).isEmpty then jX (dD cells n k) else iK (cells.getD k 0) n]:=ho
    rcases List.mem_append.mp fY with z | z
    · exact h2 o z
    · rw [List.mem_singleton] at z
      subst z
      split
      · rename_i q
        rw [Bool.and_eq_true] at q
        exact h2 _ (O4 (by have:=q.2;revert this;cases (dD cells n k).isEmpty<;>decide))
      · exact O2 _ _
abbrev mE:Stmt:=top 52
theorem vy:bf ["_law_cells", "_law_many", "_law_orders_here", "_law_cell"] ["_law_cells", "_law_many"] (aw mE):=⟨rfl,rfl,rfl,by decide +kernel,rfl,by decide +kernel,by decide +kernel⟩
def E5 (dd:List Dv) (t:Tr):Prop:=∃ (cells:List Int) (n:Nat),n<=6/\cells.length<=100/\dd=[dis cells,di n]/\t=jk (dD cells n cells.length)
theorem Mf {f f1:Addr} {fd aH:FuncData} {k:Nat} (F:bh K "_law_orders" "_law_orders" mE f fd) (T:Txt mg) (M7:Kn P w K mg base aj (k+2) "_law_order" f1 aH ["_law_cell", "_law_many"] (spT K Gx)):aP P w K mg base aj (k+3) f fd ["_law_cells", "_law_many"] (spT K E5):=by
  refine bq F.d vy (fun dd t h=>by obtain ⟨_,_,_,_,rfl,_⟩:=h;rfl) fun dd t h=>?_
  obtain ⟨cells,n,hn,hc,rfl,rfl⟩:=h
  refine ⟨_,.inl rfl,?_⟩
  have big : 1000<sizeLine:=by decide
  refine az (aO 2 (Ev.s (cT ao (Nat.zero_le _))) (fun _=>vy.nd)) ?_
  refine az (eA (bA.s (ck (ae 0 rfl) rfl)) (bM 3 (fun _=>vy.nd)) (fun k=>[some (.fz (dis cells)),some (ti n),some (jk (dD cells n k)),none]) rfl (fun _=>rfl) (fun j d hd=>?_)) ?_
  · obtain ⟨c,zZ,rfl⟩:=ef hd
    have ec:cells.getD j 0=c:=by rw [List.getD_eq_getElem?_getD,zZ];rfl
    have hj:j<cells.length:=by
      rcases Nat.lt_or_ge j cells.length with z | z
      · exact z
      · rw [List.getElem?_eq_none z] at zZ;cases zZ
    obtain ⟨l1,l2⟩:=xr cells n j
    have e:dD cells n (j+1)=dD cells n j++[if decide (cells.getD j 0 % 4=0) && !(dD cells n j).isEmpty then jX (dD cells n j) else iK (cells.getD j 0) n]:=rfl
    rw [e,ec]
    generalize dD cells n j=L at l1 l2
    have fin:∀ o:List Int,some (jk (L++[o]))=some (.ow (L.map bu++[bu o])):=fun o=>by
      show some (Tr.ow _)=_
      rw [List.map_append];rfl
    rw [fin]
    have hz:(L.map bu).length<sizeLine:=by rw [List.length_map];omega
    have Ks:cW (er (jk L))<=50:=by rw [kC];exact Nat.le_trans (DX L) (by decide)
    cases hq:decide (c % 4=0) && !L.isEmpty with
    | true =>
      rw [if_pos rfl]
      have hL:L.isEmpty=false:=by
        rw [Bool.and_eq_true] at hq
        have:=hq.2;revert this;cases L.isEmpty<;>decide
      refine ⟨_,_,rfl,aE (nS (Et.pk (Ew.et (FA (gY (fM (ae 3 rfl) ak (by decide)) ak) fun _=>(EB (jh (ae 2 rfl) (cT ao (Nat.zero_le _)) ?_ Ks))))) ?_ (aE (ng 2 rfl (bH.to (t':=bu (jX L)) (Ev.pk (pM T.ji (cm (ae 2 rfl) (Sz ak) (kC L) (O3 hL)) (.inl rfl)) (by rw [iI];exact sF _)) (by rw [iI])) hz))),[3],rfl⟩
      · exact .inl ⟨_,_,rfl,rfl⟩
      · rw [<- hq,show er (.fz (er (jk L)))=.lst (L.map dis) from kC L]
        show (_ && !bV (.lst (L.map dis)) (.lst []))=_
        rw [eq_nil]
    | false =>
      rw [if_neg (by decide)]
      refine ⟨_,_,rfl,aE (FI (Et.pk (Ew.et (FA (gY (fM (ae 3 rfl) ak (by decide)) ak) fun _=>(EB (jh (ae 2 rfl) (cT ao (Nat.zero_le _)) ?_ Ks))))) ?_ (aE (ng 2 rfl (Ev.s (aM M7 (Nat.le_refl _) (ah (ae 3 rfl) (ah (ae 1 rfl) ao)) ⟨c,n,hn,rfl,rfl⟩)) hz))),[3],rfl⟩
      · exact .inl ⟨_,_,rfl,rfl⟩
      · rw [<- hq,show er (.fz (er (jk L)))=.lst (L.map dis) from kC L]
        show (_ && !bV (.lst (L.map dis)) (.lst []))=_
        rw [eq_nil]
  · rw [List.length_map]
    exact aE (je 2 rfl)
def ie (x:Int):Int:=([1,1,0,2,1,3,1,x / 8 % 10]:List Int).getD (x % 8).toNat 0
theorem RA (x:Int):aU ([1,1,0,2,1,3,1,x / 8 % 10].map di) (x % 8)=some (di (ie x)):=by
  have a:=Int.emod_nonneg x (show (8:Int) ≠ 0 by decide)
  have b:=Int.emod_lt_of_pos x (show (0:Int)<8 by decide)
  unfold ie
  obtain ⟨m,hm⟩:∃ m:Nat,x % 8=(m:Int):=⟨(x % 8).toNat,by omega⟩
  rw [hm,Int.toNat_natCast]
  have:m<8:=by omega
  refine e7 ?_
  rw [List.getElem?_map,List.getD_eq_getElem?_getD,List.getElem?_eq_getElem (show m<([1,1,0,2,1,3,1,x / 8 % 10]:List Int).length from this)];rfl
theorem RB (x:Int) : 0<=ie x/\ie x<=9:=by
  have a:=Int.emod_nonneg x (show (8:Int) ≠ 0 by decide)
  have b:=Int.emod_lt_of_pos x (show (0:Int)<8 by decide)
  have c:=Int.emod_nonneg (x / 8) (show (10:Int) ≠ 0 by decide)
  have d:=Int.emod_lt_of_pos (x / 8) (show (0:Int)<10 by decide)
  unfold ie
  obtain ⟨m,hm⟩:∃ m:Nat,x % 8=(m:Int):=⟨(x % 8).toNat,by omega⟩
  rw [hm,Int.toNat_natCast]
  generalize x / 8 % 10=y at c d
  have:m=0\/m=1\/m=2\/m=3\/m=4\/m=5\/m=6\/m=7:=by omega
  rcases this with rfl | rfl | rfl | rfl | rfl | rfl | rfl | rfl<;>first | exact ⟨show (0:Int)<=1 by decide,show (1:Int)<=9 by decide⟩ | exact ⟨show (0:Int)<=0 by decide,show (0:Int)<=9 by decide⟩ | exact ⟨show (0:Int)<=2 by decide,show (2:Int)<=9 by decide⟩ | exact ⟨show (0:Int)<=3 by decide,show (3:Int)<=9 by decide⟩ | exact ⟨c,show y<=9 by omega⟩
abbrev mF:Stmt:=top 53
theorem vz:bf ["_law_cell", "_law_many", "_law_found", "_law_one"] ["_law_cell", "_law_many"] (aw mF):=⟨rfl,rfl,rfl,by decide +kernel,rfl,by decide +kernel,by decide +kernel⟩
def kJ (cell:Int) (n:Nat):List Int:=(df cell n).map ie
def E6 (dd:List Dv) (t:Tr):Prop:=∃ (cell:Int) (n:Nat),n<=100/\dd=[di cell,di n]/\t=bu (kJ cell n)
theorem Mg {f f1:Addr} {fd aH:FuncData} {k:Nat} (F:bh K "_law_counts" "_law_counts" mF f fd) (T:Txt mg) (vC:Kn P w K mg base aj (k+1) "_law_stream" f1 aH ["_law_cell", "_law_many"] (spT K xq)):aP P w K mg base aj (k+2) f fd ["_law_cell", "_law_many"] (spT K E6):=by
  refine bq F.d vz (fun dd t h=>by obtain ⟨_,_,_,rfl,_⟩:=h;rfl) fun dd t h=>?_
  obtain ⟨cell,n,hn,rfl,rfl⟩:=h
  refine ⟨_,.inl rfl,?_⟩
  have big : 1000<sizeLine:=by decide
  have sl:(df cell n).length=n:=(pR cell n).2.2
  unfold kJ
  refine az (aO 2 (Ev.s (cT ao (Nat.zero_le _))) (fun _=>vz.nd)) ?_
  refine az (eA (bA.s (ck (aM vC (Nat.le_refl _) (ah (ae 0 rfl) (ah (ae 1 rfl) ao)) ⟨cell,n,hn,rfl,rfl⟩) (dk _))) (bM 3 (fun _=>vz.nd)) (fun k=>[some (ti cell),some (ti n),some (bu (((df cell n).map ie).take k)),none]) rfl (fun _=>rfl) (fun j d hd=>?_)) ?_
  · obtain ⟨x,hx,rfl⟩:=ef hd
    have cV:((df cell n).map ie)[j]?=some (ie x):=by rw [List.getElem?_map,hx];rfl
    have hl:(((df cell n).map ie).take j).length<=100:=by rw [List.length_take,List.length_map];omega
    rw [i9 cV]
    generalize ((df cell n).map ie).take j=L at hl
    refine ⟨_,_,rfl,aE (ng 2 rfl (Ev.s (cm (cT (ah ak (ah ak (ah ak (ah ak (ah ak (ah ak (ah ak (ah (fM (jS (ae 3 rfl) ak ⟨by decide,rY (by decide) (by decide)⟩) ak (by decide)) ao)))))))) (by show 8<=sizeLine;decide)) (fM (ae 3 rfl) ak (by decide)) rfl (RA x))) (by rw [List.length_map];omega)),[3],?_⟩
    show [_,_,some (Tr.ow (_++[_])),_]=[_,_,some (Tr.ow _),_]
    rw [List.map_append];rfl
  · rw [List.length_map,List.take_of_length_le (by rw [List.length_map];exact Nat.le_refl _)]
    exact aE (je 2 rfl)
end
end bT
namespace bT
open PySem L2 ft
section
variable {P:Program} {w:World} {K:PySem.W.Frag} {mg:Str->Option Value} {base:Heap}
abbrev ml:Stmt:=top 54
theorem CP:bf ["_law_one", "_law_other"] ["_law_one", "_law_other"] (aw ml):=⟨rfl,rfl,rfl,by decide +kernel,rfl,by decide +kernel,by decide +kernel⟩
def D5 (dd:List Dv) (t:Tr):Prop:=∃ a b:Int,0<=a/\0<=b/\dd=[di a,di b]/\t=ti (gc a b)
theorem L4 {f:Addr} {fd:FuncData} {k:Nat} (F:bh K "_law_divisor" "_law_divisor" ml f fd) (T:Txt mg):aP P w K mg base aj (k+1) f fd ["_law_one", "_law_other"] (spT K D5):=by
  refine bq F.d CP (fun dd t h=>by obtain ⟨_,_,_,_,rfl,_⟩:=h;rfl) fun dd t h=>?_
  obtain ⟨a,b,ha,hb,rfl,rfl⟩:=h
  refine ⟨_,.inl rfl,?_⟩
  refine rK (fun p:Int×Int=>[some (ti p.1),some (ti p.2)]) (fun p=>0<=p.1/\0<=p.2/\gc p.1 p.2=gc a b) (fun p=>decide (0<p.2)) (fun p=>p.2.toNat) (a,b) rfl ⟨ha,hb,rfl⟩ (fun p hp=>Et.s (qf (ae 1 rfl) ak)) (fun p hp h=>?_) (fun p hp h=>?_)
  · obtain ⟨x,y⟩:=p
    obtain ⟨h1,h2,h3⟩:=hp
    have hy : 0<y:=by simpa using h
    have l1:=Int.emod_lt_of_pos x hy
    have l2:=Int.emod_nonneg x (show y ≠ 0 by omega)
    refine ⟨(y,x % y),⟨h2,l2,?_⟩,?_,aE (SF 0 1 (Ev.s (ae 1 rfl)) (Ev.s (fM (ae 0 rfl) (ae 1 rfl) hy)) (fun _=>CP.nd))⟩
    · show gc y (x % y)=_
      rw [EH];exact h3
    · show (x % y).toNat<y.toNat
      omega
  · obtain ⟨x,y⟩:=p
    obtain ⟨h1,h2,h3⟩:=hp
    have zY:y=0:=by
      have q:¬ (0<y):=by simpa using h
      have : 0<=y:=h2
      omega
    have qR:gc x y=gc a b:=h3
    have jB : 0<=x:=h1
    have e:gc a b=x:=by rw [<- qR,zY,EG];omega
    rw [e]
    exact aE (bF (Ev.s (ae 0 rfl)))
abbrev mG:Stmt:=top 55
theorem CU:bf ["_law_top", "_law_bottom", "_law_by"] ["_law_top", "_law_bottom"] (aw mG):=⟨rfl,rfl,rfl,by decide +kernel,rfl,by decide +kernel,by decide +kernel⟩
theorem Mh {f f1:Addr} {fd aH:FuncData} {k:Nat} (F:bh K "_law_lowest" "_law_lowest" mG f fd) (T:Txt mg) (Mi:Kn P w K mg base aj (k+1) "_law_divisor" f1 aH ["_law_one", "_law_other"] (spT K D5)):aP P w K mg base aj (k+2) f fd ["_law_top", "_law_bottom"] (spT K fb):=by
  refine bq F.d CU (fun dd t h=>by obtain ⟨_,_,_,_,rfl,_⟩:=h;rfl) fun dd t h=>?_
  obtain ⟨a,b,hb,hz,rfl,rfl⟩:=h
  refine ⟨_,.inl rfl,?_⟩
  have ha : 0<=(if a<0 then -a else a):=by split<;>omega
  have eg:gc (if a<0 then -a else a) b=gc a b:=by
    rw [show (if a<0 then -a else a)=(a.natAbs:Int) by split<;>omega]
    have:=FJ a b
    rw [show (b.natAbs:Int)=b by omega] at this
    exact this
  have gp:=nT (a:=a) (show b ≠ 0 by omega)
  have gl:=EI (a:=a) hb
  refine az (aO 2 (bH.to (t':=ti (gc a b)) (Ev.s (aM Mi (Nat.le_refl _) (ah (xI T.ye (ae 0 rfl)) (ah (ae 1 rfl) ao)) ⟨_,b,ha,by omega,rfl,rfl⟩)) (by rw [eg])) (fun _=>CU.nd)) ?_
  have cd:∀ i:Int,tv i (gc a b):=fun i=>⟨gp,Nat.lt_of_le_of_lt (by omega) hz⟩
  refine aE (bF (Ev.s (jd (ah (jS (ae 0 rfl) (ae 2 rfl) (cd _)) (ah (jS (ae 1 rfl) (ae 2 rfl) (cd _)) ao)) ?_ (by show 2<=sizeLine;decide))))
  show [di (a / gc a b),di (b / gc a b)]=_
  rw [FK hb,FL hb]
end
end bT
namespace bT
open PySem L2 ft
section
variable {P:Program} {w:World} {K:PySem.W.Frag} {mg:Str->Option Value} {base:Heap}
theorem dz {W s:Int} (h : 0<W) (w1:W<2 ^ 70) (s0 : 0<=s) (s1:s<=100*W):fO (fW W s):=by
  have a:=gD (s:=s) h
  have b:=TN (s:=s) h
  have c:=SQ (s:=s) h
  refine ⟨a,?_,?_⟩
  · have:(fW W s).2.natAbs<=2 ^ 70:=by omega
    exact Nat.lt_of_le_of_lt this (by decide)
  · have:(fW W s).1.natAbs<=100*2 ^ 70:=by omega
    exact Nat.lt_of_le_of_lt this (by decide)
theorem D6 {W s t:Int} (h : 0<W):(lT ((fW W s).1*(fW W t).2-(fW W t).1*(fW W s).2) ((fW W s).2*(fW W t).2),lB ((fW W s).1*(fW W t).2-(fW W t).1*(fW W s).2) ((fW W s).2*(fW W t).2))=fW W (s-t):=by
  have p1:=gD (s:=s) h
  have p2:=gD (s:=t) h
  have c1:=gx (s:=s) h
  have c2:=gx (s:=t) h
  generalize (fW W s).1=a at *
  generalize (fW W s).2=b at *
  generalize (fW W t).1=c at *
  generalize (fW W t).2=d at *
  refine nD h (by have:=Int.mul_pos p1 p2;omega) ?_
  have e1:(a*d-c*b)*W=(a*W)*d-(c*W)*b:=by
    rw [Int.sub_mul,Int.mul_right_comm a d W,Int.mul_right_comm c b W]
  rw [e1,c1,c2,Int.sub_mul,Int.mul_assoc s b d,Int.mul_assoc t d b,Int.mul_comm d b]
theorem P1 {W s c:Int} (h : 0<W):(lT ((fW W s).1*c) ((fW W s).2*1),lB ((fW W s).1*c) ((fW W s).2*1))=fW W (s*c):=by
  have p1:=gD (s:=s) h
  have c1:=gx (s:=s) h
  generalize (fW W s).1=a at *
  generalize (fW W s).2=b at *
  refine nD h (by omega) ?_
  rw [Int.mul_one,Int.mul_right_comm a c W,c1,Int.mul_right_comm]
theorem RC {W s c:Int} (h : 0<W) (hc : 0<c) (hd:c ∣ s):(lT ((fW W s).1*1) ((fW W s).2*c),lB ((fW W s).1*1) ((fW W s).2*c))=fW W (s / c):=by
  have p1:=gD (s:=s) h
  have c1:=gx (s:=s) h
  generalize (fW W s).1=a at *
  generalize (fW W s).2=b at *
  obtain ⟨q,rfl⟩:=hd
  rw [Int.mul_ediv_cancel_left _ (by omega)]
  refine nD h (by have:=Int.mul_pos p1 hc;omega) ?_
  rw [Int.mul_one,c1,Int.mul_comm c q,Int.mul_assoc,Int.mul_comm c b]
theorem S2 {W c:Int} (h : 0<W):(c,(1:Int))=fW W (c*W):=by
  rw [<- iN]
  exact nD h (by decide) (by rw [Int.mul_one])
theorem Gy {c:Int} (h0 : 0<=c) (h1:c<1000):fO (c,1):=⟨by show (0:Int)<1;decide,by show (1:Int).natAbs<2 ^ 90;decide,Nat.lt_of_le_of_lt (show c.natAbs<=1000 by omega) (by decide)⟩
abbrev nJ:Stmt:=top 12
theorem P2:bf ["one", "other"] ["one", "other"] (aw nJ):=⟨rfl,rfl,rfl,by decide +kernel,rfl,by decide +kernel,by decide +kernel⟩
def xR (dd:List Dv) (t:Tr):Prop:=∃ p q:Int×Int,fO p/\fO q/\dd=[dF p,dF q]/\t=tF (lT (p.1*q.2-q.1*p.2) (p.2*q.2),lB (p.1*q.2-q.1*p.2) (p.2*q.2))
theorem P4 {f f1:Addr} {fd aH:FuncData} {k:Nat} (F:bh K "minus" "minus" nJ f fd) (T:Txt mg) (cw:Kn P w K mg base aj (k+2) "fraction" f1 aH ["top", "bottom"] (spT K fb)):aP P w K mg base aj (k+3) f fd ["one", "other"] (spT K xR):=by
  refine bq F.d P2 (fun dd t h=>by obtain ⟨_,_,_,_,rfl,_⟩:=h;rfl) fun dd t h=>?_
  obtain ⟨p,q,⟨p1,p2,p3⟩,⟨q1,q2,q3⟩,rfl,rfl⟩:=h
  refine ⟨_,.inl rfl,?_⟩
  have dh:∀ r:Int×Int,aU [di r.1,di r.2] 0=some (di r.1):=fun _=>rfl
  have cE:∀ r:Int×Int,aU [di r.1,di r.2] 1=some (di r.2):=fun _=>rfl
  exact aE (bF (Ev.s (aM cw (Nat.le_refl _) (ah (Sy (eu (aW (ae 0 rfl) ak rfl (dh p)) (aW (ae 1 rfl) ak rfl (cE q)) ⟨bC p3 (by decide),bC q2 (by decide)⟩) (eu (aW (ae 1 rfl) ak rfl (dh q)) (aW (ae 0 rfl) ak rfl (cE p)) ⟨bC q3 (by decide),bC p2 (by decide)⟩)) (ah (eu (aW (ae 0 rfl) ak rfl (cE p)) (aW (ae 1 rfl) ak rfl (cE q)) ⟨bC p2 (by decide),bC q2 (by decide)⟩) ao)) ⟨_,_,Int.mul_pos p1 q1,bC (qc p2 q2) (by decide),rfl,rfl⟩)))
abbrev nK:Stmt:=top 13
theorem P5:bf ["one", "other"] ["one", "other"] (aw nK):=⟨rfl,rfl,rfl,by decide +kernel,rfl,by decide +kernel,by decide +kernel⟩
def Gz (dd:List Dv) (t:Tr):Prop:=∃ p q:Int×Int,fO p/\fO q/\dd=[dF p,dF q]/\t=tF (lT (p.1*q.1) (p.2*q.2),lB (p.1*q.1) (p.2*q.2))
theorem P6 {f f1:Addr} {fd aH:FuncData} {k:Nat} (F:bh K "times" "times" nK f fd) (T:Txt mg) (cw:Kn P w K mg base aj (k+2) "fraction" f1 aH ["top", "bottom"] (spT K fb)):aP P w K mg base aj (k+3) f fd ["one", "other"] (spT K Gz):=by
  refine bq F.d P5 (fun dd t h=>by obtain ⟨_,_,_,_,rfl,_⟩:=h;rfl) fun dd t h=>?_
  obtain ⟨p,q,⟨p1,p2,p3⟩,⟨q1,q2,q3⟩,rfl,rfl⟩:=h
  refine ⟨_,.inl rfl,?_⟩
  have dh:∀ r:Int×Int,aU [di r.1,di r.2] 0=some (di r.1):=fun _=>rfl
  have cE:∀ r:Int×Int,aU [di r.1,di r.2] 1=some (di r.2):=fun _=>rfl
  exact aE (bF (Ev.s (aM cw (Nat.le_refl _) (ah (eu (aW (ae 0 rfl) ak rfl (dh p)) (aW (ae 1 rfl) ak rfl (dh q)) ⟨bC p3 (by decide),bC q3 (by decide)⟩) (ah (eu (aW (ae 0 rfl) ak rfl (cE p)) (aW (ae 1 rfl) ak rfl (cE q)) ⟨bC p2 (by decide),bC q2 (by decide)⟩) ao)) ⟨_,_,Int.mul_pos p1 q1,bC (qc p2 q2) (by decide),rfl,rfl⟩)))
abbrev nX:Stmt:=top 14
theorem RD:bf ["one", "other"] ["one", "other"] (aw nX):=⟨rfl,rfl,rfl,by decide +kernel,rfl,by decide +kernel,by decide +kernel⟩
def GA (dd:List Dv) (t:Tr):Prop:=∃ p q:Int×Int,fO p/\fO q/\0<q.1/\dd=[dF p,dF q]/\t=tF (lT (p.1*q.2) (p.2*q.1),lB (p.1*q.2) (p.2*q.1))
theorem RE {f f1:Addr} {fd aH:FuncData} {k:Nat} (F:bh K "over" "over" nX f fd) (T:Txt mg) (cw:Kn P w K mg base aj (k+2) "fraction" f1 aH ["top", "bottom"] (spT K fb)):aP P w K mg base aj (k+3) f fd ["one", "other"] (spT K GA):=by
  refine bq F.d RD (fun dd t h=>by obtain ⟨_,_,_,_,_,rfl,_⟩:=h;rfl) fun dd t h=>?_
  obtain ⟨p,q,⟨p1,p2,p3⟩,⟨q1,q2,q3⟩,qp,rfl,rfl⟩:=h
  refine ⟨_,.inl rfl,?_⟩
  have dh:∀ r:Int×Int,aU [di r.1,di r.2] 0=some (di r.1):=fun _=>rfl
  have cE:∀ r:Int×Int,aU [di r.1,di r.2] 1=some (di r.2):=fun _=>rfl
  refine az (dy (Et.s (gY (aW (ae 1 rfl) ak rfl (dh q)) ak)) (decide_eq_false (by omega))) ?_
  exact aE (bF (Ev.s (aM cw (Nat.le_refl _) (ah (eu (aW (ae 0 rfl) ak rfl (dh p)) (aW (ae 1 rfl) ak rfl (cE q)) ⟨bC p3 (by decide),bC q2 (by decide)⟩) (ah (eu (aW (ae 0 rfl) ak rfl (cE p)) (aW (ae 1 rfl) ak rfl (dh q)) ⟨bC p2 (by decide),bC q3 (by decide)⟩) ao)) ⟨_,_,Int.mul_pos p1 qp,bC (qc p2 q3) (by decide),rfl,rfl⟩)))
def xS (p q:Int×Int):Bool:=decide (p.1*q.2<q.1*p.2)
def qd (dd:List Dv) (t:Tr):Prop:=∃ p q:Int×Int,fO p/\fO q/\dd=[dF p,dF q]/\t=tb (xS p q)
abbrev nL:Stmt:=top 15
theorem P7:bf ["one", "other"] ["one", "other"] (aw nL):=⟨rfl,rfl,rfl,by decide +kernel,rfl,by decide +kernel,by decide +kernel⟩
theorem P8 {f:Addr} {fd:FuncData} {k:Nat} (F:bh K "under" "under" nL f fd) (T:Txt mg):aP P w K mg base aj (k+1) f fd ["one", "other"] (spT K qd):=by
  refine bq F.d P7 (fun dd t h=>by obtain ⟨_,_,_,_,rfl,_⟩:=h;rfl) fun dd t h=>?_
  obtain ⟨p,q,⟨p1,p2,p3⟩,⟨q1,q2,q3⟩,rfl,rfl⟩:=h
  refine ⟨_,.inl rfl,?_⟩
  have dh:∀ r:Int×Int,aU [di r.1,di r.2] 0=some (di r.1):=fun _=>rfl
  have cE:∀ r:Int×Int,aU [di r.1,di r.2] 1=some (di r.2):=fun _=>rfl
  exact aE (bF (Ev.s (tD (eu (aW (ae 0 rfl) ak rfl (dh p)) (aW (ae 1 rfl) ak rfl (cE q)) ⟨bC p3 (by decide),bC q2 (by decide)⟩) (eu (aW (ae 1 rfl) ak rfl (dh q)) (aW (ae 0 rfl) ak rfl (cE p)) ⟨bC q3 (by decide),bC p2 (by decide)⟩))))
theorem si {W s t:Int} (h : 0<W):xS (fW W s) (fW W t)=decide (s<t):=by
  unfold xS
  rw [decide_eq_decide]
  exact TQ h
abbrev d9 (W:Int) (ss:List Int):Dv:=.lst (ss.map fun s=>dF (fW W s))
abbrev nq:Stmt:=top 16
theorem rV:bf ["some", "total", "one"] ["some"] (aw nq):=⟨rfl,rfl,rfl,by decide +kernel,rfl,by decide +kernel,by decide +kernel⟩
def xT (dd:List Dv) (t:Tr):Prop:=∃ (W:Int) (ss:List Int),0<W/\W<2 ^ 70/\(∀ s ∈ ss,0<=s/\s<=W)/\ss.length<=90/\dd=[d9 W ss]/\t=tF (fW W ss.sum)
theorem pF {ss:List Int} {W:Int} (h:∀ s ∈ ss,0<=s/\s<=W) (w0 : 0<W):∀ j,0<=(ss.take j).sum/\(ss.take j).sum<=j*W
  | 0=>by rw [List.take_zero];show 0<=(0:Int)/\(0:Int)<=((0:Nat):Int)*W;omega
  | j+1=>by
    have ih:=pF h w0 j
    have e:(((j+1:Nat):Int))*W=j*W+W:=by rw [Int.natCast_add,Int.add_mul];show _+1*W=_;rw [Int.one_mul]
    rw [e]
    cases q:ss[j]? with
    | none =>
      have hj:ss.length<=j:=by
        rcases Nat.lt_or_ge j ss.length with z | z
        · rw [List.getElem?_eq_getElem z] at q;cases q
        · exact z
      rw [List.take_of_length_le (by omega)]
      rw [List.take_of_length_le hj] at ih
      omega
    | some x =>
      have hx:=h x (List.mem_of_getElem? q)
      rw [i9 q,List.sum_append,List.sum_singleton]
      omega
theorem O5 {f f1 f2:Addr} {fd aH fd2:FuncData} {k:Nat} {tk:Tok} (F:bh K "sum_of" "sum_of" nq f fd) (T:Txt mg) (cw:Kn P w K mg base aj (k+2) "fraction" f1 aH ["top", "bottom"] (spT K fb)) (B1:Binds K aH ["top", "bottom"] [.int 1 tk]) (xU:Kn P w K mg base aj (k+3) "plus" f2 fd2 ["one", "other"] (spT K qm)):aP P w K mg base aj (k+4) f fd ["some"] (spT K xT):=by
  refine bq F.d rV (fun dd t h=>by obtain ⟨_,_,_,_,_,_,rfl,_⟩:=h;rfl) fun dd t h=>?_
  obtain ⟨W,ss,w0,w1,sb,sl,rfl,rfl⟩:=h
  refine ⟨_,.inl rfl,?_⟩
  refine az (aO 1 (bH.to (t':=tF (fW W (ss.take 0).sum)) (Ev.s (gT cw B1 (by show k+2<=k+3;omega) (ah ak ao) ⟨0,1,by decide,by decide,rfl,rfl⟩)) (by rw [iN,List.take_zero];show tF (0,1)=tF (fW W 0);rw [nF w0])) (fun _=>rV.nd)) ?_
  refine az (eA (bA.s (ck (ae 0 rfl) rfl)) (bM 2 (fun _=>rV.nd)) (fun j=>[some (.fz (d9 W ss)),some (tF (fW W (ss.take j).sum)),none]) rfl (fun _=>rfl) (fun j d hd=>?_)) ?_
  · obtain ⟨x,hx,rfl⟩:=ef hd
    have hb:=sb x (List.mem_of_getElem? hx)
    have ht:=pF sb w0 j
    have hj:j<ss.length:=by
      rcases Nat.lt_or_ge j ss.length with z | z
      · exact z
      · rw [List.getElem?_eq_none z] at hx;cases hx
    have aas:(j:Int)*W<=100*W:=Int.mul_le_mul_of_nonneg_right (by omega) (by omega)
    refine ⟨_,[some (.fz (d9 W ss)),some (tF (fW W (ss.take (j+1)).sum)),some (tF (fW W x))],rfl,?_,[2],rfl⟩
    rw [i9 hx,List.sum_append,List.sum_singleton]
    generalize (ss.take j).sum=S at ht
    exact aE (aO 1 (bH.to (t':=tF (fW W (S+x))) (Ev.s (aM xU (Nat.le_refl _) (ah (ae 1 rfl) (ah (ae 2 rfl) ao)) ⟨fW W S,fW W x,dz w0 w1 ht.1 (by omega),dz w0 w1 hb.1 (by omega),rfl,rfl⟩)) (by rw [xh w0])) (fun _=>rV.nd))
  · rw [List.length_map,List.take_length]
    exact aE (bF (Ev.s (ae 1 rfl)))
def oz (l:List Int):Int:=l.foldl min (l.headD 0)
theorem vH (l:List Int):∀ a:Int,l.foldl min a<=a/\(∀ x ∈ l,l.foldl min a<=x)/\(l.foldl min a=a\/l.foldl min a ∈ l):=by
  induction l with
  | nil=>intro a;exact ⟨Int.le_refl _,fun _ h=>(nomatch h),.inl rfl⟩
  | cons y l ih =>
    intro a
    obtain ⟨h1,h2,h3⟩:=ih (min a y)
    rw [List.foldl_cons]
    refine ⟨by omega,fun x hx=>?_,?_⟩
    · rcases List.mem_cons.mp hx with rfl | hx
      · omega
      · exact h2 x hx
    · rcases h3 with h3 | h3
      · rcases Int.le_total a y with z | z
        · left;omega
        · right;rw [h3,Int.min_eq_right z];exact .head _
      · right;exact .tail _ h3
theorem E7 {l:List Int} {x:Int} (h:x ∈ l):oz l<=x:=(vH l _).2.1 x h
theorem D7 {l:List Int} (h:l ≠ []):oz l ∈ l:=by
  cases l with
  | nil=>exact absurd rfl h
  | cons a r =>
    rcases (vH (a::r) a).2.2 with z | z
    · show (a::r).foldl min a ∈ _
      rw [z];exact .head _
    · exact z
abbrev m4:Stmt:=top 18
theorem rM:bf ["some", "least", "one"] ["some"] (aw m4):=⟨rfl,rfl,rfl,by decide +kernel,rfl,by decide +kernel,by decide +kernel⟩
def D8 (dd:List Dv) (t:Tr):Prop:=∃ (W:Int) (ss:List Int),0<W/\W<2 ^ 70/\ss ≠ []/\(∀ s ∈ ss,0<=s/\s<=100*W)/\dd=[d9 W ss]/\t=tF (fW W (oz ss))
theorem NB {f f1:Addr} {fd aH:FuncData} {k:Nat} (F:bh K "least_of" "least_of" m4 f fd) (T:Txt mg) (E8:Kn P w K mg base aj (k+1) "under" f1 aH ["one", "other"] (spT K qd)):aP P w K mg base aj (k+2) f fd ["some"] (spT K D8):=by
  refine bq F.d rM (fun dd t h=>by obtain ⟨_,_,_,_,_,_,rfl,_⟩:=h;rfl) fun dd t h=>?_
  obtain ⟨W,ss,w0,w1,ne,sb,rfl,rfl⟩:=h
  refine ⟨_,.inl rfl,?_⟩
  have h0:aU (ss.map fun s=>dF (fW W s)) 0=some (dF (fW W (ss.headD 0))):=by
    cases ss with
    | nil=>exact absurd rfl ne
    | cons a r=>exact e7 (j:=0) rfl
  refine az (aO 1 (Ev.s (cm (ae 0 rfl) ak rfl h0)) (fun _=>rM.nd)) ?_
  have hm:∀ j,(ss.take j).foldl min (ss.headD 0) ∈ ss:=fun j=>by
    have hh:ss.headD 0 ∈ ss:=by
      cases ss with
      | nil=>exact absurd rfl ne
      | cons a r=>exact .head _
    rcases (vH (ss.take j) (ss.headD 0)).2.2 with z | z
    · rw [z];exact hh
    · exact List.mem_of_mem_take z
  refine az (eA (bA.s (ck (ae 0 rfl) rfl)) (bM 2 (fun _=>rM.nd)) (fun j=>[some (.fz (d9 W ss)),some (tF (fW W ((ss.take j).foldl min (ss.headD 0)))),none]) rfl (fun _=>rfl) (fun j d hd=>?_)) ?_
  · obtain ⟨x,hx,rfl⟩:=ef hd
    have hb:=sb x (List.mem_of_getElem? hx)
    have hl:=sb _ (hm j)
    refine ⟨_,[some (.fz (d9 W ss)),some (tF (fW W ((ss.take (j+1)).foldl min (ss.headD 0)))),some (tF (fW W x))],rfl,?_,[2],rfl⟩
    rw [i9 hx,List.foldl_append]
    show bb _ _ _ (.nx [_,some (tF (fW W (min ((ss.take j).foldl min (ss.headD 0)) x))),_])
    generalize (ss.take j).foldl min (ss.headD 0)=m at hl
    rcases Int.lt_or_le x m with z | z
    · rw [show min m x=x by omega]
      exact aE (nS (Et.s (iJ (Ev.to (aM E8 (by show k+1<=k+1;omega) (ah (ae 2 rfl) (ah (ae 1 rfl) ao)) ⟨fW W x,fW W m,dz w0 w1 hb.1 hb.2,dz w0 w1 hl.1 hl.2,rfl,rfl⟩) (t':=tb true) (by rw [si w0,decide_eq_true z])))) rfl (aE (aO 1 (Ev.s (ae 2 rfl)) (fun _=>rM.nd))))
    · rw [show min m x=m by omega]
      exact aE (dy (Et.s (iJ (Ev.to (aM E8 (by show k+1<=k+1;omega) (ah (ae 2 rfl) (ah (ae 1 rfl) ao)) ⟨fW W x,fW W m,dz w0 w1 hb.1 hb.2,dz w0 w1 hl.1 hl.2,rfl,rfl⟩) (t':=tb false) (by rw [si w0,decide_eq_false (by omega)])))) rfl)
  · rw [List.length_map,List.take_length]
    exact aE (bF (Ev.s (ae 1 rfl)))
def WM:Int:=2799360000000
structure bI where
  len:Int
  ai:List Int
  fin:List Int
def aA (l:List Int) (x:Int):Int:=l.getD x.toNat 0
def bZ (l:List Int):List Int:=(aq l.length).filter fun x=>decide (aA l x=0)
def au (fo:List (List Int)) (l:List Int):List Int:=fo.map fun o=>(de o (bZ l)).headD 0
def jx (l ai:List Int):List Int:=((aq l.length).filter fun x=>ai.contains x).map fun x=>aA l x / (ai.count x:Int)
def aR (l ai:List Int) (τ:Int):Int:=oz (τ::jx l ai)
def bw (l ai:List Int) (len:Int):List Int:=(aq l.length).map fun x=>aA l x-len*(ai.count x:Int)
def eH (fo:List (List Int)) (l:List Int) (τ:Int):bI:=⟨aR l (au fo l) τ,au fo l,(bZ (bw l (au fo l) (aR l (au fo l) τ))).filter fun x=>(au fo l).contains x⟩
def bJ:Nat->List (List Int)->List Int->Int->List bI
  | 0,_,_,_=>[]
  | n+1,fo,l,τ => if τ=0 then [] else eH fo l τ::bJ n fo (bw l (au fo l) (aR l (au fo l) τ)) (τ - aR l (au fo l) τ)
theorem nh (n:Nat) (fo:List (List Int)) (l:List Int):bJ n fo l 0=[]:=by cases n<;>simp [bJ]
theorem ku {n:Nat} {fo:List (List Int)} {l:List Int} {τ:Int} (h : τ ≠ 0):bJ (n+1) fo l τ=eH fo l τ::bJ n fo (bw l (au fo l) (aR l (au fo l) τ)) (τ - aR l (au fo l) τ):=by rw [bJ,if_neg h]
theorem gS (n:Nat):(aq n).length=n:=by unfold aq;rw [List.length_map,List.length_range]
theorem sk (g:Int->Int) {m:Nat} {x:Int} (h0 : 0<=x) (h1:x<m):aA ((aq m).map g) x=g x:=by
  unfold aA aq
  rw [List.map_map,List.getD_eq_getElem?_getD,List.getElem?_map,List.getElem?_range (by omega)]
  show g (0+((x.toNat:Nat):Int))=g x
  congr 1;omega
theorem kK (l ai:List Int) (len:Int):(bw l ai len).length=l.length:=by unfold bw;rw [List.length_map,gS]
theorem sI {l:List Int} {x:Int} (h0 : 0<=x) (h1:x<l.length):aA l x ∈ l:=by
  unfold aA
  rw [List.getD_eq_getElem?_getD,List.getElem?_eq_getElem (show x.toNat<l.length by omega)]
  exact List.getElem_mem _
def oV (l:List Int):Nat:=((aq l.length).filter fun x=>decide (aA l x ≠ 0)).length
structure fD (m:Nat) (fo:List (List Int)):Prop where
  o6:fo.length<=6
  none:∀ o ∈ fo,(m:Int) ∈ o
  bR:∀ o ∈ fo,∀ x ∈ o,0<=x/\x<=m
  nd:∀ o ∈ fo,o.Nodup
  len:∀ o ∈ fo,o.length<=100
structure gn (n m:Nat) (l:List Int) (τ:Int):Prop where
  len:l.length=m
  m6:m<=6
  lb:∀ x ∈ l,0<=x/\x<=9*WM/\((60 ^ n:Nat):Int) ∣ x
  t0 : 0 <= τ
  t1 : τ<=WM
  td:((60 ^ n:Nat):Int) ∣ τ
  nz : τ ≠ 0->oV l<n
theorem jb {l:List Int} {x:Int}:x ∈ bZ l ↔ (0<=x/\x<l.length)/\aA l x=0:=by
  unfold bZ
  rw [List.mem_filter,gy,decide_eq_true_iff]
theorem wm {m:Nat} {o:List Int} {l:List Int} (hl:l.length=m) (ho:(m:Int) ∈ o):∃ x r,de o (bZ l)=x::r/\x ∈ o/\x ∉ bZ l:=by
  have hm:(m:Int) ∈ de o (bZ l):=by
    unfold de
    refine List.mem_filter.mpr ⟨ho,?_⟩
    have:(m:Int) ∉ bZ l:=fun z=>by have:=(jb.mp z).1;omega
    simpa using this
  cases h:de o (bZ l) with
  | nil=>rw [h] at hm;cases hm
  | cons x r =>
    have hx:x ∈ de o (bZ l):=by rw [h];exact .head _
    unfold de at hx
    obtain ⟨h1,h2⟩:=List.mem_filter.mp hx
    exact ⟨x,r,rfl,h1,by simpa using h2⟩
theorem GB {m:Nat} {fo:List (List Int)} {l:List Int} (F:fD m fo) (hl:l.length=m) {x:Int} (hx:x ∈ au fo l) : 0<=x/\x<=m/\x ∉ bZ l:=by
  unfold au at hx
  obtain ⟨o,ho,rfl⟩:=List.mem_map.mp hx
  obtain ⟨y,r,e,h1,h2⟩:=wm hl (F.none o ho)
  rw [e]
  have:=F.bR o ho y h1
  exact ⟨this.1,this.2,h2⟩
theorem xt (fo:List (List Int)) (l:List Int):(au fo l).length=fo.length:=by unfold au;rw [List.length_map]
theorem sJ {l ai:List Int} {q:Int} (h:q ∈ jx l ai):∃ x:Int,0<=x/\x<l.length/\x ∈ ai/\q=aA l x / (ai.count x:Int):=by
  unfold jx at h
  obtain ⟨x,hx,rfl⟩:=List.mem_map.mp h
  obtain ⟨h1,h2⟩:=List.mem_filter.mp hx
  have:=gy.mp h1
  exact ⟨x,this.1,this.2,by simpa using h2,rfl⟩
theorem S3 {l ai:List Int} {x:Int} (h0 : 0<=x) (h1:x<l.length) (h2:x ∈ ai):aA l x / (ai.count x:Int) ∈ jx l ai :=
  List.mem_map.mpr ⟨x,List.mem_filter.mpr ⟨gy.mpr ⟨h0,h1⟩,by simpa using h2⟩,rfl⟩
theorem HE {c:Nat} (h1 : 1<=c) (h6:c<=6):(c:Int) ∣ 60:=by
  have:c=1\/c=2\/c=3\/c=4\/c=5\/c=6:=by omega
  rcases this with rfl | rfl | rfl | rfl | rfl | rfl<;>decide
theorem S4 {n:Nat} {v:Int} {c:Nat} (h1 : 1<=c) (h6:c<=6) (hd:((60 ^ (n+1):Nat):Int) ∣ v):(c:Int) ∣ v/\((60 ^ n:Nat):Int) ∣ v / c/\v / c*c=v:=by
  obtain ⟨k,rfl⟩:=hd
  obtain ⟨e,he⟩:=HE h1 h6
  have e1:((60 ^ (n+1):Nat):Int)*k=(c:Int)*(((60 ^ n:Nat):Int)*(e*k)):=by
    rw [Nat.pow_succ,Int.natCast_mul,show ((60:Nat):Int)=c*e from he,Int.mul_assoc,Int.mul_assoc,Int.mul_left_comm]
  have hc:(c:Int) ≠ 0:=by omega
  rw [e1,Int.mul_ediv_cancel_left _ hc]
  exact ⟨Int.dvd_mul_right _ _,Int.dvd_mul_right _ _,Int.mul_comm _ _⟩
structure S5 (n m:Nat) (l ai:List Int) (len τ:Int):Prop where
  pos : 0<len
  le:len <= τ
  part:((60 ^ n:Nat):Int) ∣ len
  has:∀ x:Int,0<=x->x<m->len*(ai.count x:Int)<=aA l x
  next:gn n m (bw l ai len) (τ - len)
theorem jf {n m:Nat} {fo:List (List Int)} {l:List Int} {τ:Int} (F:fD m fo) (S:gn (n+1) m l τ) (ht : τ ≠ 0):S5 n m l (au fo l) (aR l (au fo l) τ) τ:=by
  have hl:=S.len
  have fV:=xt fo l
  have z4:∀ x ∈ au fo l,0<=x/\x<=m/\x ∉ bZ l:=fun x hx=>GB F hl hx
  generalize au fo l=ai at fV z4
  have o6:=F.o6
  have cnt:∀ x ∈ ai,1<=ai.count x/\ai.count x<=6:=fun x hx=>⟨List.count_pos_iff.mpr hx,Nat.le_trans List.count_le_length (by omega)⟩
  have lb:∀ x:Int,0<=x->x<m->0<=aA l x/\aA l x<=9*WM/\((60 ^ (n+1):Nat):Int) ∣ aA l x:=fun x h0 h1=>S.lb _ (sI h0 (by omega))
  have IA:∀ x ∈ ai,x<m->0<aA l x:=fun x hx h1=>by
    obtain ⟨h0,_,h2⟩:=z4 x hx
    have a:=(lb x h0 h1).1
    rcases Int.lt_or_eq_of_le a with z | z
    · exact z
    · exact absurd (jb.mpr ⟨⟨h0,by omega⟩,z.symm⟩) h2
  have uC:∀ x ∈ ai,x<m->0<aA l x / (ai.count x:Int)/\((60 ^ n:Nat):Int) ∣ aA l x / (ai.count x:Int)/\aA l x / (ai.count x:Int)*(ai.count x:Int)=aA l x:=fun x hx h1=>by
    obtain ⟨h0,_,_⟩:=z4 x hx
    obtain ⟨c1,c6⟩:=cnt x hx
    obtain ⟨_,a,b⟩:=S4 c1 c6 (lb x h0 h1).2.2
    have p:=IA x hx h1
    refine ⟨?_,a,b⟩
    rcases Int.lt_or_le 0 (aA l x / (ai.count x:Int)) with z | z
    · exact z
    · have:aA l x / (ai.count x:Int)*(ai.count x:Int)<=0:=Int.mul_nonpos_of_nonpos_of_nonneg z (by omega)
      omega
  have yU:((60 ^ n:Nat):Int) ∣ ((60 ^ (n+1):Nat):Int):=⟨60,by rw [Nat.pow_succ,Int.natCast_mul];rfl⟩
  have tX:aR l ai τ ∈ τ::jx l ai:=D7 (by simp)
  have z5:∀ x,x ∈ τ::jx l ai->aR l ai τ<=x:=fun x hx=>E7 hx
  generalize aR l ai τ=len at tX z5
  have h1 : 0<len:=by
    rcases List.mem_cons.mp tX with z | z
    · have:=S.t0;omega
    · obtain ⟨x,h0,h1,h2,rfl⟩:=sJ z
      exact (uC x h2 (by omega)).1
  have h2:len <= τ:=z5 τ (.head _)
  have h3:((60 ^ n:Nat):Int) ∣ len:=by
    rcases List.mem_cons.mp tX with z | z
    · rw [z];exact Int.dvd_trans yU S.td
    · obtain ⟨x,a0,a1,a2,e⟩:=sJ z
      rw [e]
      exact (uC x a2 (by omega)).2.1
  have h4:∀ x:Int,0<=x->x<m->len*(ai.count x:Int)<=aA l x:=fun x a b=>by
    by_cases hx:x ∈ ai
    · have q:=z5 _ (.tail _ (S3 a (by omega) hx))
      have e:=(uC x hx b).2.2
      rw [<- e]
      exact Int.mul_le_mul_of_nonneg_right q (by omega)
    · rw [List.count_eq_zero.mpr hx]
      have:=(lb x a b).1
      show len*(0:Int)<=_
      omega
  refine ⟨h1,h2,h3,h4,?_⟩
  have lq:∀ x:Int,0<=x->x<m->aA (bw l ai len) x=aA l x-len*(ai.count x:Int):=fun x a b=>by
    unfold bw
    exact sk _ a (by omega)
  have aat : 0<WM:=by decide
  refine ⟨by rw [kK,hl],S.m6,fun y hy=>?_,by omega,by have:=S.t1;omega,Int.dvd_sub (Int.dvd_trans yU S.td) h3,fun hn=>?_⟩
  · unfold bw at hy
    obtain ⟨x,hx,rfl⟩:=List.mem_map.mp hy
    obtain ⟨a,b⟩:=gy.mp hx
    have a4:=h4 x a (by omega)
    obtain ⟨b1,b2,b3⟩:=lb x a (by omega)
    have : 0<=len*(ai.count x:Int):=Int.mul_nonneg (by omega) (by omega)
    exact ⟨by omega,by omega,Int.dvd_sub (Int.dvd_trans yU b3) (Int.dvd_mul_of_dvd_left h3)⟩
  · have hq:len ∈ jx l ai:=by
      rcases List.mem_cons.mp tX with z | z
      · omega
      · exact z
    obtain ⟨x,a,b,hx,e⟩:=sJ hq
    have zero:aA (bw l ai len) x=0:=by
      rw [lq x a (by omega),e,(uC x hx (by omega)).2.2];omega
    have pos:=IA x hx (by omega)
    have key:oV (bw l ai len)<oV l:=by
      unfold oV
      rw [kK]
      have e1:((aq l.length).filter fun x=>decide (aA (bw l ai len) x ≠ 0))=((aq l.length).filter fun x=>decide (aA l x ≠ 0)).filter fun x=>decide (aA (bw l ai len) x ≠ 0):=by
        rw [List.filter_filter]
        refine List.filter_congr fun y hy=>?_
        obtain ⟨a',b'⟩:=gy.mp hy
        rw [Bool.eq_iff_iff,Bool.and_eq_true,decide_eq_true_iff,decide_eq_true_iff]
        refine ⟨fun z=>⟨z,fun w=>z ?_⟩,fun z=>z.1⟩
        rw [lq y a' (by omega)]
        have:=h4 y a' (by omega)
        have : 0<=len*(ai.count y:Int):=Int.mul_nonneg (by omega) (by omega)
        omega
      rw [e1]
      refine List.length_filter_lt_length_iff_exists.mpr ⟨x,List.mem_filter.mpr ⟨gy.mpr ⟨a,b⟩,decide_eq_true (by omega)⟩,?_⟩
      rw [zero];decide
    have:=S.nz ht
    omega
theorem wI {m:Nat} {fo:List (List Int)} (F:fD m fo):∀ (n:Nat) (l:List Int) (τ:Int),gn n m l τ->∀ s ∈ bJ n fo l τ,∃ l',l'.length=m/\s.ai=au fo l'/\0<s.len/\s.len<=WM
  | 0,l,τ,_,s,hs=>by cases hs
  | n+1,l,τ,S,s,hs=>by
    by_cases ht : τ=0
    · rw [ht,nh] at hs;cases hs
    · rw [ku ht] at hs
      have ok:=jf F S ht
      rcases List.mem_cons.mp hs with rfl | hs
      · exact ⟨l,S.len,rfl,ok.pos,Int.le_trans ok.le S.t1⟩
      · exact wI F n _ _ ok.next s hs
theorem su {m:Nat} {fo:List (List Int)} (F:fD m fo):∀ (n:Nat) (l:List Int) (τ:Int),gn n m l τ->((bJ n fo l τ).map bI.len).sum = τ
  | 0,l,τ,S=>by
    by_cases ht : τ=0
    · rw [ht];rfl
    · exact absurd (S.nz ht) (Nat.not_lt_zero _)
  | n+1,l,τ,S=>by
    by_cases ht : τ=0
    · rw [ht,nh];rfl
    · rw [ku ht,List.map_cons,List.sum_cons,su F n _ _ (jf F S ht).next]
      show aR l (au fo l) τ+_=_
      omega
theorem wK:∀ (n:Nat) (fo:List (List Int)) (l:List Int) (τ:Int),(bJ n fo l τ).length<=n
  | 0,_,_,_=>Nat.le_refl _
  | n+1,fo,l,τ => by
    rw [bJ]
    split
    · exact Nat.zero_le _
    · rw [List.length_cons];have:=wK n fo (bw l (au fo l) (aR l (au fo l) τ)) (τ - aR l (au fo l) τ);omega
theorem S6 (l:List Int):oV l<=l.length:=by
  unfold oV
  exact Nat.le_trans (List.length_filter_le _ _) (by rw [gS];exact Nat.le_refl _)
def bU (c:List Int) (os:List (List Int)):List bI:=bJ 7 (os.map (aB c.length)) (c.map (·*WM)) WM
theorem kF {c:List Int} (h6:c.length<=6) (hc:∀ x ∈ c,0<=x/\x<=9):gn 7 c.length (c.map (·*WM)) WM:=by
  have hw:WM=((60 ^ 7:Nat):Int):=by decide
  refine ⟨by rw [List.length_map],h6,fun x hx=>?_,by decide,Int.le_refl _,by rw [<- hw];exact Int.dvd_refl _,fun _=>?_⟩
  · obtain ⟨y,hy,rfl⟩:=List.mem_map.mp hx
    obtain ⟨a,b⟩:=hc y hy
    refine ⟨Int.mul_nonneg a (by decide),Int.mul_le_mul_of_nonneg_right b (by decide),by rw [<- hw];exact Int.dvd_mul_left _ _⟩
  · have:=S6 (c.map (·*WM))
    rw [List.length_map] at this
    omega
end
end bT
namespace bT
open PySem L2 ft
section
variable {P:Program} {w:World} {K:PySem.W.Frag} {mg:Str->Option Value} {base:Heap}
theorem bX : 0<WM:=by decide
theorem gq:WM<2 ^ 70:=by decide
theorem E9 {α:Type} (l:List Int) (f:Int -> α):l.map f=(aq l.length).map fun x=>f (aA l x):=by
  unfold aq
  rw [List.map_map,<- rJ l 0 f]
  refine List.map_congr_left fun j hj=>?_
  show f ((l[j]?).getD 0)=f (aA l (0+(j:Int)))
  unfold aA
  rw [Int.zero_add,Int.toNat_natCast,List.getD_eq_getElem?_getD]
theorem S7 {α β:Type} (l:List α) (d : α) (f : α -> β):l.map f=(aq l.length).map fun x=>f (l.getD x.toNat d):=by
  unfold aq
  rw [List.map_map,<- rJ l d f]
  refine List.map_congr_left fun j hj=>?_
  show f ((l[j]?).getD d)=f (l.getD (0+(j:Int)).toNat d)
  rw [Int.zero_add,Int.toNat_natCast,List.getD_eq_getElem?_getD]
theorem HF (l:List Int) (f:Int->Dv):ju (l.map f)=(aq l.length).map fun x=>.tup [di x,f (aA l x)]:=by
  rw [E9 l f]
  unfold ju aq
  rw [List.map_map,List.length_map,List.length_range,List.zipWith_map_right,List.zipWith_self,List.map_map]
  refine List.map_congr_left fun j _=>?_
  show Dv.tup [di (j:Int),f (aA l (0+(j:Int)))]=Dv.tup [di (0+(j:Int)),f (aA l (0+(j:Int)))]
  rw [Int.zero_add]
theorem GD {α:Type} (f:Int -> α) {l:List Int} {x:Int} (h0 : 0<=x) (h1:x<l.length):aU (l.map f) x=some (f (aA l x)):=by
  obtain ⟨j,rfl⟩:∃ j:Nat,x=(j:Int):=⟨x.toNat,by omega⟩
  refine e7 ?_
  unfold aA
  rw [List.getElem?_map,Int.toNat_natCast,List.getD_eq_getElem?_getD,List.getElem?_eq_getElem (show j<l.length by omega)];rfl
theorem GF (p q:Int×Int):bV (dF p) (dF q)=decide (p=q):=by
  show (p.1==q.1&&(p.2==q.2&&true))=_
  rw [Bool.and_true,Bool.eq_iff_iff,Bool.and_eq_true,beq_iff_eq,beq_iff_eq,decide_eq_true_iff]
  exact ⟨fun h=>Prod.ext h.1 h.2,fun h=>by rw [h];exact ⟨rfl,rfl⟩⟩
theorem wL {W s:Int} (h : 0<W):bV (dF (fW W s)) (dF (lT 0 1,lB 0 1))=decide (s=0):=by
  rw [GF,iN,<- nF h,decide_eq_decide]
  exact ⟨fun e=>FQ h e,fun e=>by rw [e]⟩
theorem Kt (p:Int×Int):cW (er (tF p))<=50:=Nat.le_trans (xQ p) (by decide)
structure oW (l:List Int):Prop where
  len:l.length<=6
  b:∀ x ∈ l,0<=x/\x<=9*WM/\(60:Int) ∣ x
theorem oW.at {l:List Int} (h:oW l) {x:Int} (h0 : 0<=x) (h1:x<l.length) : 0<=aA l x/\aA l x<=9*WM/\(60:Int) ∣ aA l x:=h.b _ (sI h0 h1)
abbrev mH:Stmt:=top 40
theorem CV:bf ["left", "eaten", "time_left", "things"] ["left", "eaten", "time_left"] (aw mH):=⟨rfl,rfl,rfl,by decide +kernel,rfl,by decide +kernel,by decide +kernel⟩
def D9 (dd:List Dv) (t:Tr):Prop:=∃ (l ai:List Int) (τ:Int),oW l/\ai.length<=6/\0 <= τ /\ τ<=WM/\dd=[d9 WM l,dis ai,dF (fW WM τ)]/\t=tF (fW WM (aR l ai τ))
theorem Mj {f f1 f2 f3:Addr} {fd aH fd2 iG:FuncData} {k:Nat} {tk:Tok} (F:bh K "next_length" "next_length" mH f fd) (T:Txt mg) (cw:Kn P w K mg base aj (k+2) "fraction" f1 aH ["top", "bottom"] (spT K fb)) (B1:Binds K aH ["top", "bottom"] [.int 1 tk]) (S8:Kn P w K mg base aj (k+3) "over" f2 fd2 ["one", "other"] (spT K GA)) (Oa:Kn P w K mg base aj (k+2) "least_of" f3 iG ["some"] (spT K D8)):aP P w K mg base aj (k+4) f fd ["left", "eaten", "time_left"] (spT K D9):=by
  refine bq F.d CV (fun dd t h=>by obtain ⟨_,_,_,_,_,_,_,rfl,_⟩:=h;rfl) fun dd t h=>?_
  obtain ⟨l,ai,τ,fK,e6,t0,t1,rfl,rfl⟩:=h
  refine ⟨_,.inl rfl,?_⟩
  have big : 1000<sizeLine:=by decide
  have w0:=bX
  have l6:=fK.len
  have fV:(((l.map fun s=>dF (fW WM s)).length:Nat):Int)=l.length:=by rw [List.length_map]
  have rA:gJ 0 (((l.map fun s=>dF (fW WM s)).length:Nat):Int).toNat=(aq l.length).map di:=by
    rw [fV,Int.toNat_natCast]
    unfold aq
    rw [List.map_map];rfl
  refine az (jU 3 (kY (dR.as (d:=dis ((aq l.length).filter fun x=>ai.contains x)) (qA (own:=["thing"]) (fr:=[1]) (aq l.length) di (fun x=>ai.contains x) ti (bA.to (gv T.e8 (cL T.cG (ae 0 rfl) (.inl rfl)) (by rw [fV];omega)) rA) (bM 0 (fun _=>by show List.Nodup (["thing", "eaten"]:List Str);decide)) (by decide) (by rw [gS];omega) (fun x hx=>⟨_,rfl,by exact fN (tE (ae 0 rfl) (ae 1 rfl) rfl (by with_unfolding_all rfl)),fun _=>by exact ae 0 rfl⟩) (fun dd=>by cases dd<;>rfl)) (dk _))) (fun i=>lcs ⟨rfl,rfl,by decide +kernel,by decide +kernel,by decide +kernel,by decide +kernel⟩) (fun _=>CV.nd)) ?_
  have rp:∀ x ∈ (aq l.length).filter (fun x=>ai.contains x),0<=x/\x<l.length/\1<=ai.count x/\ai.count x<=6:=fun x hx=>by
    obtain ⟨h1,h2⟩:=List.mem_filter.mp hx
    have:=gy.mp h1
    exact ⟨this.1,this.2,List.count_pos_iff.mpr (by simpa using h2),Nat.le_trans List.count_le_length e6⟩
  have hlen:((aq l.length).filter (fun x=>ai.contains x)).length<=6:=Nat.le_trans (List.length_filter_le _ _) (by rw [gS];exact l6)
  have eq:jx l ai=((aq l.length).filter fun x=>ai.contains x).map fun x=>aA l x / (ai.count x:Int):=rfl
  have hq:∀ s ∈ τ::jx l ai,0<=s/\s<=100*WM:=fun s hs=>by
    rcases List.mem_cons.mp hs with rfl | hs
    · omega
    · obtain ⟨x,a0,a1,_,rfl⟩:=sJ hs
      have:=fK.at a0 a1
      have d1:=Int.ediv_nonneg this.1 (show (0:Int)<=(ai.count x:Int) by omega)
      have d2:=Int.ediv_le_self (ai.count x:Int) this.1
      omega
  unfold aR
  rw [eq] at hq ⊢
  generalize (aq l.length).filter (fun x=>ai.contains x)=th at rp hlen hq
  show bb _ _ [some (.fz (d9 WM l)),some (.fz (dis ai)),some (tF (fW WM τ)),some (.fz (dis th))] _
  refine aE (bF (Ev.s (aM Oa (by show k+2<=k+3;omega) (ah (Ev.as (d:=d9 WM (τ::th.map fun x=>aA l x / (ai.count x:Int))) (nR (xs:=[dF (fW WM τ)]) (ys:=th.map fun x=>dF (fW WM (aA l x / (ai.count x:Int)))) (cT (ah (ae 2 rfl) ao) (by show 1<=sizeLine;decide)) (gC (own:=["thing"]) (fr:=[0,1]) th di (fun x=>tF (fW WM (aA l x / (ai.count x:Int)))) (fun i=>lcs ⟨rfl,rfl,by decide +kernel,by decide +kernel,by decide +kernel,by decide +kernel⟩) (ck (ae 3 rfl) rfl) (bM 0 (fun _=>by show List.Nodup (["thing", "left", "eaten"]:List Str);decide)) (by decide) (by omega) (fun x hx=>⟨_,rfl,by
      obtain ⟨x0,x1,c1,c6⟩:=rp x hx
      obtain ⟨l0,l9,Ku⟩:=fK.at x0 x1
      have iQ:(0:Int)<(ai.count x:Int):=by omega
      exact Ev.to (aM S8 (Nat.le_refl _) (ah (cm (ae 1 rfl) (ae 0 rfl) rfl (GD (fun s=>dF (fW WM s)) x0 x1)) (ah (Ev.to (gT cw B1 (by show k+2<=k+3;omega) (ah (DR (ae 2 rfl) rfl (ae 0 rfl)) ao) ⟨(ai.count x:Int),1,by decide,by decide,rfl,rfl⟩) (t':=tF ((ai.count x:Int),1)) (by rw [iN])) ao)) ⟨fW WM (aA l x),((ai.count x:Int),1),dz bX gq l0 (by omega),Gy (by omega) (by omega),iQ,rfl,rfl⟩) (by rw [<- RC bX iQ (Int.dvd_trans (HE c1 c6) Ku)])⟩) (fun dd=>by cases dd<;>rfl)) rfl (cZ _ _) (by rw [List.length_map];show 1+_<=_;omega)) (by rw [kQ];show Dv.lst (dF (fW WM τ)::_)=Dv.lst (dF (fW WM τ)::_);rw [List.map_map];rfl)) ao) ⟨WM,_,bX,gq,by simp,hq,rfl,rfl⟩)))
abbrev mI:Stmt:=top 41
theorem Mk:bf ["left", "eaten", "length"] ["left", "eaten", "length"] (aw mI):=⟨rfl,rfl,rfl,by decide +kernel,rfl,by decide +kernel,by decide +kernel⟩
def C5 (dd:List Dv) (t:Tr):Prop:=∃ (l ai:List Int) (len:Int),oW l/\ai.length<=6/\0<=len/\len<=WM/\dd=[d9 WM l,dis ai,dF (fW WM len)]/\t=.ow ((bw l ai len).map fun s=>tF (fW WM s))
theorem Ml {f f1 f2 f3:Addr} {fd aH fd2 iG:FuncData} {k:Nat} {tk:Tok} (F:bh K "left_behind" "left_behind" mI f fd) (T:Txt mg) (cw:Kn P w K mg base aj (k+2) "fraction" f1 aH ["top", "bottom"] (spT K fb)) (B1:Binds K aH ["top", "bottom"] [.int 1 tk]) (xu:Kn P w K mg base aj (k+3) "minus" f2 fd2 ["one", "other"] (spT K xR)) (RF:Kn P w K mg base aj (k+3) "times" f3 iG ["one", "other"] (spT K Gz)):aP P w K mg base aj (k+4) f fd ["left", "eaten", "length"] (spT K C5):=by
  refine bq F.d Mk (fun dd t h=>by obtain ⟨_,_,_,_,_,_,_,rfl,_⟩:=h;rfl) fun dd t h=>?_
  obtain ⟨l,ai,len,fK,e6,t0,t1,rfl,rfl⟩:=h
  refine ⟨_,.inl rfl,?_⟩
  have big : 1000<sizeLine:=by decide
  have w0:=bX
  have l6:=fK.len
  unfold bw
  rw [List.map_map]
  refine aE (bF (Ev.s (gC (own:=["thing", "some"]) (fr:=[2,1]) (aq l.length) (fun x=>.tup [di x,dF (fW WM (aA l x))]) (fun x=>tF (fW WM (aA l x-len*(ai.count x:Int)))) (fun i=>lcs ⟨rfl,rfl,by decide +kernel,by decide +kernel,by decide +kernel,by decide +kernel⟩) (bA.to (kB T.kq (ae 0 rfl) rfl) (HF l fun s=>dF (fW WM s))) (jT 0 1 (fun _=>by show List.Nodup (["thing", "some", "length", "eaten"]:List Str);decide)) (by decide) (by rw [gS];omega) (fun x hx=>⟨_,rfl,by
      obtain ⟨x0,x1⟩:=gy.mp hx
      obtain ⟨l0,l9,Ku⟩:=fK.at x0 x1
      have c6:ai.count x<=6:=Nat.le_trans List.count_le_length e6
      have c0 : 0<=len*(ai.count x:Int):=Int.mul_nonneg t0 (by omega)
      have c9:len*(ai.count x:Int)<=WM*6:=Int.mul_le_mul t1 (by omega) (by omega) (by omega)
      exact Ev.to (aM xu (Nat.le_refl _) (ah (ae 1 rfl) (ah (Ev.to (aM RF (Nat.le_refl _) (ah (ae 2 rfl) (ah (Ev.to (gT cw B1 (by show k+2<=k+3;omega) (ah (DR (ae 3 rfl) rfl (ae 0 rfl)) ao) ⟨(ai.count x:Int),1,by decide,by decide,rfl,rfl⟩) (t':=tF ((ai.count x:Int),1)) (by rw [iN])) ao)) ⟨fW WM len,((ai.count x:Int),1),dz bX gq t0 (by omega),Gy (by omega) (by omega),rfl,rfl⟩) (t':=tF (fW WM (len*(ai.count x:Int)))) (by rw [<- P1 bX])) ao)) ⟨fW WM (aA l x),fW WM (len*(ai.count x:Int)),dz bX gq l0 (by omega),dz bX gq c0 (by omega),rfl,rfl⟩) (by rw [D6 bX])⟩) (fun dd=>by rcases dd with _ | ⟨a,_ | ⟨b,dd⟩⟩<;>rfl))))
abbrev mn:Stmt:=top 42
theorem L5:bf ["left"] ["left"] (aw mn):=⟨rfl,rfl,rfl,by decide +kernel,rfl,by decide +kernel,by decide +kernel⟩
def GH (dd:List Dv) (t:Tr):Prop:=∃ l:List Int,l.length<=6/\dd=[d9 WM l]/\t=bu (bZ l)
theorem L6 {f f1:Addr} {fd aH:FuncData} {k:Nat} {tk:Tok} (F:bh K "ended_things" "ended_things" mn f fd) (T:Txt mg) (cw:Kn P w K mg base aj (k+2) "fraction" f1 aH ["top", "bottom"] (spT K fb)) (B1:Binds K aH ["top", "bottom"] [.int 1 tk]):aP P w K mg base aj (k+3) f fd ["left"] (spT K GH):=by
  refine bq F.d L5 (fun dd t h=>by obtain ⟨_,_,rfl,_⟩:=h;rfl) fun dd t h=>?_
  obtain ⟨l,l6,rfl,rfl⟩:=h
  refine ⟨_,.inl rfl,?_⟩
  have big : 1000<sizeLine:=by decide
  refine aE (bF (Ev.s (kR (own:=["thing", "some"]) (fr:=[]) (aq l.length) (fun x=>.tup [di x,dF (fW WM (aA l x))]) (fun x=>decide (aA l x=0)) ti (fun i=>lcs ⟨rfl,rfl,by decide +kernel,by decide +kernel,by decide +kernel,by decide +kernel⟩) (bA.to (kB T.kq (ae 0 rfl) rfl) (HF l fun s=>dF (fW WM s))) (jT 0 1 (fun _=>by show List.Nodup (["thing", "some"]:List Str);decide)) (by decide) (by rw [gS];omega) (fun x hx=>⟨_,rfl,by
      exact fN (Et.to (sP (tb':=tF (lT 0 1,lB 0 1)) (ae 1 rfl) (gT cw B1 (Nat.le_refl _) (ah ak ao) ⟨0,1,by decide,by decide,rfl,rfl⟩) (.inr ⟨_,_,rfl,rfl⟩) (Kt _)) (wL bX)),fun _=>by exact ae 0 rfl⟩) (fun dd=>by rcases dd with _ | ⟨a,_ | ⟨b,dd⟩⟩<;>rfl))))
def jY (s:bI):Dv:=.tup [dF (fW WM s.len),dis s.ai,dis s.fin]
abbrev sW (st:List bI):Dv:=.lst (st.map jY)
abbrev mP:Stmt:=top 43
theorem iH:bf ["table", "orders", "left", "time_left", "steps", "gone", "eaten", "length"] ["table"] (aw mP):=⟨rfl,rfl,rfl,by decide +kernel,rfl,by decide +kernel,by decide +kernel⟩
def sX (dd:List Dv) (t:Tr):Prop:=∃ (c:List Int) (os:List (List Int)),cM c os/\fD c.length (os.map (aB c.length))/\dd=[cq c os]/\t=.ow ((bU c os).map fun s=>.fz (jY s))
theorem gn.fK {n m:Nat} {l:List Int} {τ:Int} (S:gn (n+1) m l τ):oW l:=by
  refine ⟨by rw [S.len];exact S.m6,fun x hx=>?_⟩
  obtain ⟨a,b,c⟩:=S.lb x hx
  refine ⟨a,b,Int.dvd_trans ?_ c⟩
  exact ⟨((60 ^ n:Nat):Int),by rw [Nat.pow_succ,Int.natCast_mul,Int.mul_comm];rfl⟩
theorem MD {f f1 f2 f3 f4 f5 f6 f7:Addr} {fd aH fd2 iG rB z6 z7 z8:FuncData} {k:Nat} {tk:Tok} (F:bh K "meal_steps" "meal_steps" mP f fd) (T:Txt mg) (cw:Kn P w K mg base aj (k+2) "fraction" f1 aH ["top", "bottom"] (spT K fb)) (B1:Binds K aH ["top", "bottom"] [.int 1 tk]) (xu:Kn P w K mg base aj (k+3) "minus" f2 fd2 ["one", "other"] (spT K xR)) (vI:Kn P w K mg base aj (k+1) "full_order" f3 iG ["table", "asker"] (spT K yf)) (M8:Kn P w K mg base aj (k+1) "first_left" f4 rB ["order", "gone"] (spT K Gw))
    (ME:Kn P w K mg base aj (k+4) "next_length" f5 z6 ["left", "eaten", "time_left"] (spT K D9)) (MF:Kn P w K mg base aj (k+4) "left_behind" f6 z7 ["left", "eaten", "length"] (spT K C5)) (CW:Kn P w K mg base aj (k+3) "ended_things" f7 z8 ["left"] (spT K GH)):aP P w K mg base aj (k+5) f fd ["table"] (spT K sX):=by
  refine bq F.d iH (fun dd t h=>by obtain ⟨_,_,_,_,rfl,_⟩:=h;rfl) fun dd t h=>?_
  obtain ⟨c,os,tab,du,rfl,rfl⟩:=h
  refine ⟨_,.inl rfl,?_⟩
  have big : 1000<sizeLine:=by decide
  have c6:=tab.c6
  have o6:=tab.o6
  have jv:(((os.map dis).length:Nat):Int)=os.length:=by rw [List.length_map]
  have rA:gJ 0 (((os.map dis).length:Nat):Int).toNat=(aq os.length).map di:=by
    rw [jv,Int.toNat_natCast]
    unfold aq
    rw [List.map_map];rfl
  have eO:er (.ow ((aq os.length).map fun x=>bu (aB c.length (os.getD x.toNat []))))=.lst ((os.map (aB c.length)).map dis):=by
    rw [cZ]
    show Dv.lst _=Dv.lst (List.map _ (List.map _ _))
    rw [List.map_map,S7 os [] (dis ∘ aB c.length)]
    congr 1
    exact List.map_congr_left fun x _=>dk _
  refine az (jU 1 (kY (dR.as (tT (own:=["asker"]) (fr:=[0]) (aq os.length) di (fun x=>bu (aB c.length (os.getD x.toNat []))) (bA.to (gv T.e8 (cL T.cG (aW (d:=.lst (os.map dis)) (ae 0 rfl) ak rfl rfl) (.inl rfl)) (by rw [jv];omega)) rA) (bM 0 (fun _=>by show List.Nodup (["asker", "table"]:List Str);decide)) (by decide) (by rw [gS];omega) (fun x hx=>⟨_,rfl,by
      obtain ⟨x0,x1⟩:=gy.mp hx
      have hx:os[x.toNat]?=some (os.getD x.toNat []):=by rw [List.getD_eq_getElem?_getD,List.getElem?_eq_getElem (show x.toNat<os.length by omega)];rfl
      have hm:=List.mem_of_getElem? hx
      have hl:=vY (tab.nd _ hm) (tab.bR _ hm)
      have uD:aU os x=some (os.getD x.toNat []):=by
        have:=PH (k:=x.toNat) hx
        rwa [show ((x.toNat:Nat):Int)=x by omega] at this
      exact aM vI (by show k+1<=k+4;omega) (ah (ae 1 rfl) (ah (ae 0 rfl) ao)) ⟨c,os,x,os.getD x.toNat [],by omega,by omega,uD,rfl,rfl⟩⟩) (fun dd=>by cases dd<;>rfl)) eO)) (fun i=>lcs ⟨rfl,rfl,by decide +kernel,by decide +kernel,by decide +kernel,by decide +kernel⟩) (fun _=>iH.nd)) ?_
  have eL:er (.ow (c.map fun x=>tF (fW WM (x*WM))))=d9 WM (c.map (·*WM)):=by
    rw [cZ]
    show Dv.lst _=Dv.lst (List.map _ (List.map _ _))
    rw [List.map_map];rfl
  refine az (jU 2 (kY (dR.as (tT (own:=["count"]) (fr:=[]) c di (fun x=>tF (fW WM (x*WM))) (ck (aW (d:=dis c) (ae 0 rfl) ak rfl rfl) rfl) (bM 0 (fun _=>by show List.Nodup (["count"]:List Str);decide)) (by decide) (by omega) (fun x hx=>⟨_,rfl,by
      exact Ev.to (gT cw B1 (by show k+2<=k+4;omega) (ah (ae 0 rfl) ao) ⟨x,1,by decide,by decide,rfl,rfl⟩) (by rw [iN,S2 bX])⟩) (fun dd=>by cases dd<;>rfl)) eL)) (fun i=>lcs ⟨rfl,rfl,by decide +kernel,by decide +kernel,by decide +kernel,by decide +kernel⟩) (fun _=>iH.nd)) ?_
  refine az (aO 3 (bH.to (t':=tF (fW WM WM)) (Ev.s (gT cw B1 (by show k+2<=k+4;omega) (ah ak ao) ⟨1,1,by decide,by decide,rfl,rfl⟩)) (by rw [iN,QK bX])) (fun _=>iH.nd)) ?_
  refine az (aO 4 (Ev.s (cT ao (Nat.zero_le _))) (fun _=>iH.nd)) ?_
  have Kw:=kF tab.c6 tab.cnt
  have e0:bU c os=bJ 7 (os.map (aB c.length)) (c.map (·*WM)) WM:=rfl
  generalize bU c os=res at e0
  generalize c.map (·*WM)=l0 at Kw e0
  generalize os.map (aB c.length)=fo at du e0
  refine rK (fun p:(List bI×List Int)×(Int×Nat)=>[some (.fz (cq c os)),some (.fz (.lst (fo.map dis))),some (.fz (d9 WM p.1.2)),some (tF (fW WM p.2.1)),some (.ow (p.1.1.map fun s=>.fz (jY s))),none,none,none]) (fun p=>gn p.2.2 c.length p.1.2 p.2.1/\p.1.1++bJ p.2.2 fo p.1.2 p.2.1=res/\p.1.1.length<=7-p.2.2/\p.2.2<=7) (fun p=>!decide (p.2.1=0)) (fun p=>p.2.2) (([],l0),(WM,7)) rfl ⟨Kw,e0.symm,by show 0<=_;omega,Nat.le_refl _⟩ (fun p hp=>?_) (fun p hp h=>?_) (fun p hp h=>?_)
  · refine Et.s (Et.to (jh (tb':=tF (lT 0 1,lB 0 1)) (ae 3 rfl) (gT cw B1 (by show k+2<=k+4;omega) (ah ak ao) ⟨0,1,by decide,by decide,rfl,rfl⟩) (.inr ⟨_,_,rfl,rfl⟩) (Kt _)) ?_)
    show (!bV (dF (fW WM p.2.1)) (dF (lT 0 1,lB 0 1)))=_
    rw [wL bX]
  · obtain ⟨⟨acc,l⟩,⟨τ,n⟩⟩:=p
    obtain ⟨h1,h2,h3,h4⟩:=hp
    have ht : τ ≠ 0:=by simpa using h
    replace h1:gn n c.length l τ:=h1
    replace h2:acc++bJ n fo l τ=res:=h2
    replace h3:acc.length<=7-n:=h3
    replace h4:n<=7:=h4
    obtain ⟨n,rfl⟩:∃ m,n=m+1:=⟨n-1,by have:=h1.nz ht;omega⟩
    have fv:=jf du h1 ht
    have fK:=h1.fK
    have UJ:=h1.len
    rw [ku ht] at h2
    have T5:eH fo l τ=⟨aR l (au fo l) τ,au fo l,(bZ (bw l (au fo l) (aR l (au fo l) τ))).filter fun x=>(au fo l).contains x⟩:=rfl
    have fV:=xt fo l
    have fo6:=du.o6
    refine ⟨((acc++[eH fo l τ],bw l (au fo l) (aR l (au fo l) τ)),(τ - aR l (au fo l) τ,n)),⟨fv.next,by show (acc++[eH fo l τ])++_=_;rw [List.append_assoc];exact h2,by show (acc++[eH fo l τ]).length<=7-n;rw [List.length_append,List.length_singleton];omega,by show n<=7;omega⟩,Nat.lt_succ_self n,?_⟩
    have UK:er (.ow (fo.map fun o=>ti ((de o (bZ l)).headD 0)))=dis (au fo l):=by
      rw [cZ]
      unfold au
      show Dv.lst _=Dv.lst (List.map _ (List.map _ _))
      rw [List.map_map];rfl
    refine bb.fg (ρ1:=[some (.fz (cq c os)),some (.fz (.lst (fo.map dis))),some (.fz (d9 WM (bw l (au fo l) (aR l (au fo l) τ)))),some (tF (fW WM (τ - aR l (au fo l) τ))),some (.ow ((acc++[eH fo l τ]).map fun s=>.fz (jY s))),some (.fz (dis (bZ l))),some (.fz (dis (au fo l))),some (tF (fW WM (aR l (au fo l) τ)))]) ?_ ⟨[5,6,7],rfl⟩
    refine az (aO 5 (Ev.s (Ev.as (aM CW (by show k+3<=k+4;omega) (ah (ae 2 rfl) ao) ⟨l,fK.len,rfl,rfl⟩) (dk _))) (fun _=>iH.nd)) ?_
    refine az (aO 6 (Ev.s (Ev.as (gC (own:=["order"]) (fr:=[5]) fo dis (fun o=>ti ((de o (bZ l)).headD 0)) (fun i=>lcs ⟨rfl,rfl,by decide +kernel,by decide +kernel,by decide +kernel,by decide +kernel⟩) (ck (ae 1 rfl) rfl) (bM 0 (fun _=>by show List.Nodup (["order", "gone"]:List Str);decide)) (by decide) (by omega) (fun o ho=>⟨_,rfl,by
        obtain ⟨x,r,e,_,_⟩:=wm UJ (du.none o ho)
        exact Ev.to (aM M8 (by show k+1<=k+4;omega) (ah (ae 0 rfl) (ah (ae 1 rfl) ao)) ⟨o,bZ l,x,r,du.len o ho,e,rfl,rfl⟩) (by rw [e];rfl)⟩) (fun dd=>by cases dd<;>rfl)) UK)) (fun _=>iH.nd)) ?_
    have eS:acc++[eH fo l τ]=acc++[⟨aR l (au fo l) τ,au fo l,(bZ (bw l (au fo l) (aR l (au fo l) τ))).filter fun x=>(au fo l).contains x⟩]:=by rw [T5]
    rw [eS]
    generalize au fo l=ai at fv fV
    have aau:oW l:=fK
    refine az (aO 7 (Ev.s (aM ME (Nat.le_refl _) (ah (ae 2 rfl) (ah (ae 6 rfl) (ah (ae 3 rfl) ao))) ⟨l,ai,τ,fK,by omega,h1.t0,h1.t1,rfl,rfl⟩)) (fun _=>iH.nd)) ?_
    generalize aR l ai τ=len at fv
    have l0:=fv.pos
    have l1:len<=WM:=Int.le_trans fv.le h1.t1
    refine az (aO 2 (Ev.s (Ev.as (d:=d9 WM (bw l ai len)) (aM MF (Nat.le_refl _) (ah (ae 2 rfl) (ah (ae 6 rfl) (ah (ae 7 rfl) ao))) ⟨l,ai,len,fK,by omega,by omega,l1,rfl,rfl⟩) (cZ _ _))) (fun _=>iH.nd)) ?_
    have t0:=h1.t0
    have t1:=h1.t1
    refine az (aO 3 (bH.to (t':=tF (fW WM (τ - len))) (Ev.s (aM xu (by show k+3<=k+4;omega) (ah (ae 3 rfl) (ah (ae 7 rfl) ao)) ⟨fW WM τ,fW WM len,dz bX gq t0 (by omega),dz bX gq (by omega) (by omega),rfl,rfl⟩)) (by rw [D6 bX])) (fun _=>iH.nd)) ?_
    have lr:(bw l ai len).length<=6:=by rw [kK];exact fK.len
    generalize bw l ai len=bl at lr
    have aav:(bZ bl).length<=6:=by
      unfold bZ
      exact Nat.le_trans (List.length_filter_le _ _) (by rw [gS];exact lr)
    rw [List.map_append]
    refine aE (ng 4 rfl (Ev.s (jd (dd:=[dF (fW WM len),dis ai,dis ((bZ bl).filter fun x=>ai.contains x)]) (ah (ae 7 rfl) (ah (ae 6 rfl) (ah (Ev.as (d:=dis ((bZ bl).filter fun x=>ai.contains x)) (kR (own:=["thing"]) (fr:=[6]) (bZ bl) di (fun x=>ai.contains x) ti (fun i=>lcs ⟨rfl,rfl,by decide +kernel,by decide +kernel,by decide +kernel,by decide +kernel⟩) (ck (aM CW (by show k+3<=k+4;omega) (ah (ae 2 rfl) ao) ⟨bl,lr,rfl,rfl⟩) (dk _)) (bM 0 (fun _=>by show List.Nodup (["thing", "eaten"]:List Str);decide)) (by decide) (by omega) (fun x hx=>⟨_,rfl,by exact fN (tE (ae 0 rfl) (ae 1 rfl) rfl (by with_unfolding_all rfl)),fun _=>by exact ae 0 rfl⟩) (fun dd=>by cases dd<;>rfl)) (dk _)) ao))) rfl (by show 3<=sizeLine;decide))) (by rw [List.length_map];omega))
  · obtain ⟨⟨acc,l⟩,⟨τ,n⟩⟩:=p
    obtain ⟨h1,h2,h3,h4⟩:=hp
    have ht : τ=0:=by simpa using h
    replace h2:acc++bJ n fo l τ=res:=h2
    rw [ht,nh,List.append_nil] at h2
    rw [<- h2]
    exact aE (je 4 rfl)
def eU (steps:List bI) (a one:Int):Int:=((steps.filter fun s=>decide (aA s.ai a=one)).map bI.len).sum
def gZ (m:Nat) (steps:List bI) (a:Int):List Int:=(aq (m+1)).map (eU steps a)
theorem De (s:bI) (st:List bI) (a x:Int):eU (s::st) a x=(if aA s.ai a=x then s.len else 0)+eU st a x:=by
  unfold eU
  rw [List.filter_cons]
  by_cases h:aA s.ai a=x
  · rw [if_pos (decide_eq_true h),if_pos h,List.map_cons,List.sum_cons]
  · rw [if_neg (by rw [decide_eq_true_iff];exact h),if_neg h];omega
theorem M9 {steps:List bI} (h:∀ s ∈ steps,0<=s.len) (a x:Int) : 0<=eU steps a x/\eU steps a x<=(steps.map bI.len).sum:=by
  induction steps with
  | nil=>exact ⟨Int.le_refl _,Int.le_refl _⟩
  | cons s st ih =>
    have:=ih fun t ht=>h t (.tail _ ht)
    have h0:=h s (.head _)
    rw [De,List.map_cons,List.sum_cons]
    split<;>omega
theorem RG {n:Nat} {o:List Int} (nd:o.Nodup) (h:∀ x ∈ o,0<=x/\x<n):(aB n o).Nodup:=by
  unfold aB e9
  rw [List.append_assoc,List.nodup_append]
  refine ⟨nd,?_,?_⟩
  · rw [List.singleton_append,List.nodup_cons]
    refine ⟨fun hx=>?_,?_⟩
    · obtain ⟨k,hk,e⟩:=List.mem_map.mp hx
      have:=List.mem_range.mp (List.mem_filter.mp hk).1
      omega
    · rw [List.nodup_iff_pairwise_ne,List.pairwise_map]
      exact ((List.nodup_range (n:=n)).filter _).imp fun h z=>h (by omega)
  · intro x hx y hy e
    subst e
    rcases List.mem_append.mp hy with hy | hy
    · have:=List.mem_singleton.mp hy
      have:=h x hx
      omega
    · obtain ⟨k,hk,e⟩:=List.mem_map.mp hy
      have h2:=(List.mem_filter.mp hk).2
      rw [e] at h2
      simp at h2
      exact h2 hx
theorem nM {c:List Int} {os:List (List Int)} (T:cM c os):fD c.length (os.map (aB c.length)):=by
  refine ⟨by rw [List.length_map];exact T.o6,fun o ho=>?_,fun o ho x hx=>?_,fun o ho=>?_,fun o ho=>?_⟩
  · obtain ⟨p,hp,rfl⟩:=List.mem_map.mp ho
    unfold aB;simp
  · obtain ⟨p,hp,rfl⟩:=List.mem_map.mp ho
    have:=Rz (T.bR p hp) x hx
    omega
  · obtain ⟨p,hp,rfl⟩:=List.mem_map.mp ho
    exact RG (T.nd p hp) (T.bR p hp)
  · obtain ⟨p,hp,rfl⟩:=List.mem_map.mp ho
    have:=PZ (n:=c.length) p
    have:=T.c6
    have:=vY (T.nd p hp) (T.bR p hp)
    omega
structure HG (n:Nat) (s:bI):Prop where
  len:s.ai.length=n
  l0 : 0<=s.len
  l1:s.len<=WM
abbrev m5:Stmt:=top 44
theorem NC:bf ["steps", "asker", "one"] ["steps", "asker", "one"] (aw m5):=⟨rfl,rfl,rfl,by decide +kernel,rfl,by decide +kernel,by decide +kernel⟩
def Ea (dd:List Dv) (t:Tr):Prop:=∃ (n:Nat) (st:List bI) (a one:Int),(∀ s ∈ st,HG n s)/\st.length<=90/\0<=a/\a<n/\dd=[sW st,di a,di one]/\t=tF (fW WM (eU st a one))
theorem ND {f f1:Addr} {fd aH:FuncData} {k:Nat} (F:bh K "eaten_by" "eaten_by" m5 f fd) (T:Txt mg) (wM:Kn P w K mg base aj (k+4) "sum_of" f1 aH ["some"] (spT K xT)):aP P w K mg base aj (k+5) f fd ["steps", "asker", "one"] (spT K Ea):=by
  refine bq F.d NC (fun dd t h=>by obtain ⟨_,_,_,_,_,_,_,_,rfl,_⟩:=h;rfl) fun dd t h=>?_
  obtain ⟨n,st,a,one,fv,sl,a0,a1,rfl,rfl⟩:=h
  refine ⟨_,.inl rfl,?_⟩
  have big : 1000<sizeLine:=by decide
  have eF:er (.ow ((st.filter fun s=>decide (aA s.ai a=one)).map fun s=>tF (fW WM s.len)))=d9 WM ((st.filter fun s=>decide (aA s.ai a=one)).map bI.len):=by
    rw [cZ]
    show Dv.lst _=Dv.lst (List.map _ (List.map _ _))
    rw [List.map_map];rfl
  refine aE (bF (Ev.s (aM wM (Nat.le_refl _) (ah (Ev.as (kR (own:=["length", "eaten", "ended"]) (fr:=[2,1]) st jY (fun s=>decide (aA s.ai a=one)) (fun s=>tF (fW WM s.len)) (fun i=>lcs ⟨rfl,rfl,by decide +kernel,by decide +kernel,by decide +kernel,by decide +kernel⟩) (ck (ae 0 rfl) rfl) (pZ 0 1 2 (fun _=>by show List.Nodup (["length", "eaten", "ended", "one", "asker"]:List Str);decide)) (by decide) (by omega) (fun s hs=>⟨_,rfl,by
      exact fN (gY (cm (ae 1 rfl) (ae 4 rfl) rfl (GD di a0 (by rw [(fv s hs).len];exact a1))) (ae 3 rfl)),fun _=>by exact ae 0 rfl⟩) (fun dd=>by rcases dd with _ | ⟨a,_ | ⟨b,_ | ⟨c,dd⟩⟩⟩<;>rfl)) eF) ao) ⟨WM,(st.filter fun s=>decide (aA s.ai a=one)).map bI.len,bX,gq,fun x hx=>?_,?_,rfl,rfl⟩)))
  · obtain ⟨s,hs,rfl⟩:=List.mem_map.mp hx
    have:=fv s (List.mem_filter.mp hs).1
    exact ⟨this.l0,this.l1⟩
  · rw [List.length_map]
    exact Nat.le_trans (List.length_filter_le _ _) sl
abbrev nY:Stmt:=top 45
theorem sL:bf ["table", "steps", "many", "shares"] ["table"] (aw nY):=⟨rfl,rfl,rfl,by decide +kernel,rfl,by decide +kernel,by decide +kernel⟩
def nN (m:Nat) (st:List bI) (n:Nat):Dv:=.lst ((aq n).map fun a=>d9 WM (gZ m st a))
def HH (dd:List Dv) (t:Tr):Prop:=∃ (c:List Int) (os:List (List Int)),cM c os/\fD c.length (os.map (aB c.length))/\dd=[cq c os]/\t=.fz (.tup [sW (bU c os),nN c.length (bU c os) os.length])
theorem sv {c:List Int} {os:List (List Int)} (tab:cM c os) (du:fD c.length (os.map (aB c.length))):∀ s ∈ bU c os,HG os.length s:=fun s hs=>by
  obtain ⟨l',hl,e,p,q⟩:=wI du 7 _ _ (kF tab.c6 tab.cnt) s hs
  exact ⟨by rw [e,xt,List.length_map],Int.le_of_lt p,q⟩
theorem RH {f f1 f2:Addr} {fd aH fd2:FuncData} {k:Nat} (F:bh K "meal" "meal" nY f fd) (T:Txt mg) (vJ:Kn P w K mg base aj (k+5) "meal_steps" f1 aH ["table"] (spT K sX)) (Ob:Kn P w K mg base aj (k+5) "eaten_by" f2 fd2 ["steps", "asker", "one"] (spT K Ea)):aP P w K mg base aj (k+6) f fd ["table"] (spT K HH):=by
  refine bq F.d sL (fun dd t h=>by obtain ⟨_,_,_,_,rfl,_⟩:=h;rfl) fun dd t h=>?_
  obtain ⟨c,os,tab,du,rfl,rfl⟩:=h
  refine ⟨_,.inl rfl,?_⟩
  have big : 1000<sizeLine:=by decide
  have c6:=tab.c6
  have o6:=tab.o6
  have fv:=sv tab du
  have IB:(bU c os).length<=7:=wK 7 _ _ _
  have jv:(((os.map dis).length:Nat):Int)=os.length:=by rw [List.length_map]
  have IC:(((c.map di).length:Nat):Int)=c.length:=by rw [List.length_map]
  have rA:gJ 0 (((os.map dis).length:Nat):Int).toNat=(aq os.length).map di:=by
    rw [jv,Int.toNat_natCast]
    unfold aq
    rw [List.map_map];rfl
  have UL:gJ 0 ((((c.map di).length:Nat):Int)+1).toNat=(aq (c.length+1)).map di:=by
    rw [IC,show ((c.length:Int)+1).toNat=c.length+1 by omega]
    unfold aq
    rw [List.map_map];rfl
  have e1:er (.ow ((bU c os).map fun s=>.fz (jY s)))=sW (bU c os):=cZ _ _
  refine az (aO 1 (Ev.s (Ev.as (aM vJ (Nat.le_refl _) (ah (ae 0 rfl) ao) ⟨c,os,tab,du,rfl,rfl⟩) e1)) (fun _=>sL.nd)) ?_
  generalize bU c os=st at fv IB
  refine az (aO 2 (Ev.s (cL T.cG (aW (d:=dis c) (ae 0 rfl) ak rfl rfl) (.inl rfl))) (fun _=>sL.nd)) ?_
  have e2:er (.ow ((aq os.length).map fun a=>.ow ((aq (c.length+1)).map fun x=>tF (fW WM (eU st a x)))))=nN c.length st os.length:=by
    rw [cZ]
    unfold nN
    congr 1
    refine List.map_congr_left fun a _=>?_
    rw [cZ]
    unfold gZ
    show _=Dv.lst _
    rw [List.map_map];rfl
  refine az (jU 3 (kY (dR.as (tT (own:=["asker"]) (fr:=[1,2]) (aq os.length) di (fun a=>.ow ((aq (c.length+1)).map fun x=>tF (fW WM (eU st a x)))) (bA.to (gv T.e8 (cL T.cG (aW (d:=.lst (os.map dis)) (ae 0 rfl) ak rfl rfl) (.inl rfl)) (by rw [jv];omega)) rA) (bM 0 (fun _=>by show List.Nodup (["asker", "steps", "many"]:List Str);decide)) (by decide) (by rw [gS];omega) (fun a ha=>⟨_,rfl,by
      obtain ⟨a0,a1⟩:=gy.mp ha
      exact gC (own:=["one"]) (fr:=[1,0]) (aq (c.length+1)) di (fun x=>tF (fW WM (eU st a x))) (fun i=>TR ["asker", "steps", "many"] ⟨rfl,by decide +kernel,by decide +kernel,by decide +kernel,by decide +kernel⟩ fun y hy=>nc _ _ y hy) (bA.to (gv T.e8 (gV (ae 2 rfl) ak) (by rw [IC];omega)) UL) (bM 0 (fun _=>by show List.Nodup (["one", "steps", "asker"]:List Str);decide)) (by decide) (by rw [gS];omega) (fun x hx=>⟨_,rfl,by
        exact aM Ob (Nat.le_refl _) (ah (ae 1 rfl) (ah (ae 2 rfl) (ah (ae 0 rfl) ao))) ⟨os.length,st,a,x,fv,by omega,a0,a1,rfl,rfl⟩⟩) (fun dd=>by cases dd<;>rfl)⟩) (fun dd=>by cases dd<;>rfl)) e2)) (fun i=>HZ ⟨rfl,rfl,by decide +kernel,by decide +kernel,by decide +kernel,by decide +kernel⟩) (fun _=>sL.nd)) ?_
  exact aE (bF (Ev.s (jd (ah (ae 1 rfl) (ah (ae 3 rfl) ao)) rfl (by show 2<=sizeLine;decide))))
end
end bT
namespace bT
open PySem L2 ft
section
variable {P:Program} {w:World} {K:PySem.W.Frag} {mg:Str->Option Value} {base:Heap}
abbrev fj:=Int×List (Option Int)
def dG (t:Int) (l:List (Option Int)) (xs:List Int):List (Option Int):=xs.foldl (fun l x=>l.set x.toNat (some t)) l
def fE (p:fj) (s:bI):fj:=(p.1+s.len,dG (p.1+s.len) p.2 s.fin)
def fF (st:List bI) (p:fj) (k:Nat):fj:=(st.take k).foldl fE p
def eY (c:List Int):fj:=(0,c.map fun x=>if x=0 then some 0 else none)
theorem DA {st:List bI} {p:fj} {k:Nat} {s:bI} (h:st[k]?=some s):fF st p (k+1)=fE (fF st p k) s:=by
  unfold fF
  rw [i9 h,List.foldl_append];rfl
theorem nr (t:Int):∀ (xs:List Int) (l:List (Option Int)),(dG t l xs).length=l.length
  | [],_=>rfl
  | x::xs,l=>by
    show (dG t (l.set x.toNat (some t)) xs).length=_
    rw [nr t xs,List.length_set]
theorem pG (st:List bI) (p:fj):∀ k,(fF st p k).2.length=p.2.length
  | 0=>rfl
  | k+1=>by
    cases q:st[k]? with
    | none =>
      have:st.length<=k:=by
        rcases Nat.lt_or_ge k st.length with z | z
        · rw [List.getElem?_eq_getElem z] at q;cases q
        · exact z
      have:=pG st p k
      unfold fF at this ⊢
      rw [List.take_of_length_le (by omega)]
      rwa [List.take_of_length_le (by omega)] at this
    | some s =>
      rw [DA q]
      show (dG _ _ _).length=_
      rw [nr,pG st p k]
theorem Eb (st:List bI) (p:fj) (k:Nat):(fF st p k).1=p.1+((st.take k).map bI.len).sum:=by
  unfold fF
  generalize st.take k=l
  induction l generalizing p with
  | nil=>simp
  | cons s l ih =>
    rw [List.foldl_cons,ih,List.map_cons,List.sum_cons]
    show p.1+s.len+_=_
    omega
theorem sx (t:Int) (j:Nat):∀ (xs:List Int) (l:List (Option Int)),(∀ x ∈ xs,0<=x)->j<l.length->(dG t l xs)[j]?=if (j:Int) ∈ xs then some (some t) else l[j]?
  | [],_,_,_=>by rw [if_neg (by simp)];rfl
  | x::xs,l,h0,hj=>by
    show (dG t (l.set x.toNat (some t)) xs)[j]?=_
    rw [sx t j xs _ (fun y hy=>h0 y (.tail _ hy)) (by rw [List.length_set];exact hj)]
    have hx:=h0 x (.head _)
    by_cases h1:(j:Int) ∈ xs
    · rw [if_pos h1,if_pos (.tail _ h1)]
    · by_cases h2:(j:Int)=x
      · rw [if_neg h1,if_pos (by rw [h2];exact .head _),List.getElem?_set,if_pos (by omega),if_pos (by omega)]
      · rw [if_neg h1,if_neg (by rw [List.mem_cons,not_or];exact ⟨h2,h1⟩),List.getElem?_set,if_neg (by omega)]
def fB (st:List bI) (x:Int):Int:=(st.map fun s=>s.len*(s.ai.count x:Int)).sum
theorem DB (len x:Int):∀ e:List Int,(e.map fun y=>if y=x then len else 0).sum=len*(e.count x:Int)
  | [] => by simp
  | y::e=>by
    rw [List.map_cons,List.sum_cons,DB len x e,List.count_cons]
    by_cases h:y=x
    · rw [if_pos h,if_pos (by simp [h])]
      rw [Int.natCast_add,Int.mul_add]
      show _=_+len*1
      omega
    · rw [if_neg h,if_neg (by simp [h])]
      simp
theorem sum_add {α:Type} (f g : α->Int):∀ l:List α,(l.map fun a=>f a+g a).sum=(l.map f).sum+(l.map g).sum
  | [] => rfl
  | a::l=>by rw [List.map_cons,List.sum_cons,sum_add f g l,List.map_cons,List.sum_cons,List.map_cons,List.sum_cons];omega
theorem Oc {n:Nat} {st:List bI} (h:∀ s ∈ st,s.ai.length=n) (x:Int):((aq n).map fun a=>eU st a x).sum=fB st x:=by
  induction st with
  | nil =>
    show ((aq n).map fun _=>(0:Int)).sum=0
    generalize aq n=l
    induction l with
    | nil=>rfl
    | cons _ _ ih=>rw [List.map_cons,List.sum_cons,ih];rfl
  | cons s st ih =>
    have ih:=ih fun t ht=>h t (.tail _ ht)
    have e1:((aq n).map fun a=>eU (s::st) a x)=(aq n).map fun a=>(if aA s.ai a=x then s.len else 0)+eU st a x:=List.map_congr_left fun a _=>De s st a x
    rw [e1,sum_add,ih]
    show _=s.len*(s.ai.count x:Int)+fB st x
    congr 1
    rw [<- DB s.len x s.ai,E9 s.ai fun y=>if y=x then s.len else 0,h s (.head _)]
theorem Df {m:Nat} {fo:List (List Int)} {l:List Int} (F:fD m fo) (hl:l.length=m) {x:Int} (h0 : 0<=x) (h1:x<m) (hz:aA l x=0):(au fo l).count x=0:=by
  rw [List.count_eq_zero]
  intro hx
  exact (GB F hl hx).2.2 (jb.mpr ⟨⟨h0,by omega⟩,hz⟩)
theorem wo {m:Nat} {fo:List (List Int)} (F:fD m fo) {x:Int} (h0 : 0<=x) (h1:x<m):∀ (n:Nat) (l:List Int) (τ:Int),gn n m l τ ->
    fB (bJ n fo l τ) x<=aA l x/\(aA l x=0->fB (bJ n fo l τ) x=0/\∀ s ∈ bJ n fo l τ,x ∉ s.fin)/\(aA l x ≠ 0->(fB (bJ n fo l τ) x=aA l x ↔ ∃ s ∈ bJ n fo l τ,x ∈ s.fin))
  | 0,l,τ,S=>by
    have hb:=(S.lb _ (sI h0 (by rw [S.len];exact h1))).1
    exact ⟨hb,fun _=>⟨rfl,fun _ z=>nomatch z⟩,fun hn=>⟨fun z=>absurd z.symm hn,fun ⟨_,z,_⟩=>nomatch z⟩⟩
  | n+1,l,τ,S=>by
    by_cases ht : τ=0
    · rw [ht,nh]
      have hb:=(S.lb _ (sI h0 (by rw [S.len];exact h1))).1
      exact ⟨hb,fun _=>⟨rfl,fun _ z=>nomatch z⟩,fun hn=>⟨fun z=>absurd z.symm hn,fun ⟨_,z,_⟩=>nomatch z⟩⟩
    · have ok:=jf F S ht
      obtain ⟨i1,i2,i3⟩:=wo F h0 h1 n _ _ ok.next
      rw [ku ht]
      have lq:aA (bw l (au fo l) (aR l (au fo l) τ)) x=aA l x-aR l (au fo l) τ*((au fo l).count x:Int):=by
        unfold bw
        exact sk _ h0 (by rw [S.len];exact h1)
      have lr:(bw l (au fo l) (aR l (au fo l) τ)).length=m:=by rw [kK,S.len]
      have fin:x ∈ (eH fo l τ).fin ↔ aA (bw l (au fo l) (aR l (au fo l) τ)) x=0/\x ∈ au fo l:=by
        show x ∈ (bZ _).filter _ ↔ _
        rw [List.mem_filter,jb]
        constructor
        · rintro ⟨⟨_,a⟩,b⟩;exact ⟨a,by simpa using b⟩
        · rintro ⟨a,b⟩;exact ⟨⟨⟨h0,by rw [lr];exact h1⟩,a⟩,by simpa using b⟩
      have es:fB (eH fo l τ::bJ n fo (bw l (au fo l) (aR l (au fo l) τ)) (τ - aR l (au fo l) τ)) x=aR l (au fo l) τ*((au fo l).count x:Int)+fB (bJ n fo (bw l (au fo l) (aR l (au fo l) τ)) (τ - aR l (au fo l) τ)) x:=by
        unfold fB
        rw [List.map_cons,List.sum_cons];rfl
      rw [es]
      have zc:=fun hz=>Df F S.len h0 h1 hz
      have UM:∀ {y:Int},y ∈ au fo l->0<(au fo l).count y:=fun hy=>List.count_pos_iff.mpr hy
      generalize bJ n fo (bw l (au fo l) (aR l (au fo l) τ)) (τ - aR l (au fo l) τ)=rest at *
      generalize aA (bw l (au fo l) (aR l (au fo l) τ)) x=b at *
      have lp:=ok.pos
      generalize aR l (au fo l) τ=len at *
      refine ⟨by omega,fun hz=>?_,fun hn=>?_⟩
      · have c0:=zc hz
        rw [c0] at lq ⊢
        have hb:b=0:=by rw [lq];simp [hz]
        obtain ⟨j1,j2⟩:=i2 hb
        refine ⟨by rw [j1];simp,fun s hs=>?_⟩
        rcases List.mem_cons.mp hs with rfl | hs
        · rw [fin]
          rintro ⟨_,hx⟩
          have:=UM hx
          omega
        · exact j2 s hs
      · by_cases hb:b=0
        · obtain ⟨j1,j2⟩:=i2 hb
          have hx:x ∈ au fo l:=by
            apply Classical.byContradiction
            intro hx
            rw [List.count_eq_zero.mpr hx] at lq
            apply hn
            rw [hb] at lq
            have:len*((0:Nat):Int)=0:=by simp
            omega
          exact ⟨fun _=>⟨_,.head _,fin.mpr ⟨hb,hx⟩⟩,fun _=>by rw [j1];omega⟩
        · have i3:=i3 hb
          constructor
          · intro e
            obtain ⟨s,hs,hx⟩:=i3.mp (by omega)
            exact ⟨s,.tail _ hs,hx⟩
          · rintro ⟨s,hs,hx⟩
            rcases List.mem_cons.mp hs with rfl | hs
            · exact absurd (fin.mp hx).1 hb
            · have:=i3.mpr ⟨s,hs,hx⟩
              omega
theorem pS {fo:List (List Int)} {m:Nat}:∀ (n:Nat) (l:List Int) (τ:Int),l.length=m->∀ s ∈ bJ n fo l τ,∀ x ∈ s.fin,0<=x/\x<m
  | 0,_,_,_,s,hs=>by cases hs
  | n+1,l,τ,hl,s,hs=>by
    rw [bJ] at hs
    split at hs
    · cases hs
    · rcases List.mem_cons.mp hs with rfl | hs
      · intro x hx
        have cV:x ∈ (bZ (bw l (au fo l) (aR l (au fo l) τ))).filter _:=hx
        have:=(jb.mp (List.mem_filter.mp cV).1).1
        rw [kK,hl] at this
        exact this
      · exact pS n _ _ (by rw [kK,hl]) s hs
def dO:Option Int->Dv
  | none=>dn
  | some t=>dF (fW WM t)
abbrev oX (l:List (Option Int)):Tr:=.ow (l.map fun o=>.fz (dO o))
abbrev nZ:Stmt:=top 47
theorem nO:bf ["table", "told", "now", "length", "eaten", "ended", "thing"] ["table"] (aw nZ):=⟨rfl,rfl,rfl,by decide +kernel,rfl,by decide +kernel,by decide +kernel⟩
def HI (dd:List Dv) (t:Tr):Prop:=∃ (c:List Int) (os:List (List Int)),cM c os/\fD c.length (os.map (aB c.length))/\dd=[cq c os]/\t=oX (fF (bU c os) (eY c) (bU c os).length).2
theorem RJ {f f1 f2 f3:Addr} {fd aH fd2 iG:FuncData} {k:Nat} {tk:Tok} (F:bh K "ends" "ends" nZ f fd) (T:Txt mg) (cw:Kn P w K mg base aj (k+2) "fraction" f1 aH ["top", "bottom"] (spT K fb)) (B1:Binds K aH ["top", "bottom"] [.int 1 tk]) (xU:Kn P w K mg base aj (k+3) "plus" f2 fd2 ["one", "other"] (spT K qm)) (vJ:Kn P w K mg base aj (k+5) "meal_steps" f3 iG ["table"] (spT K sX)):aP P w K mg base aj (k+6) f fd ["table"] (spT K HI):=by
  refine bq F.d nO (fun dd t h=>by obtain ⟨_,_,_,_,rfl,_⟩:=h;rfl) fun dd t h=>?_
  obtain ⟨c,os,tab,du,rfl,rfl⟩:=h
  refine ⟨_,.inl rfl,?_⟩
  have big : 1000<sizeLine:=by decide
  have c6:=tab.c6
  have e1:er (.ow ((bU c os).map fun s=>.fz (jY s)))=sW (bU c os):=cZ _ _
  have fv:=sv tab du
  have yV:=pS (fo:=os.map (aB c.length)) 7 (c.map (·*WM)) WM (List.length_map ..)
  have IE:=su du 7 _ _ (kF tab.c6 tab.cnt)
  replace yV:∀ s ∈ bU c os,∀ x ∈ s.fin,0<=x/\x<c.length:=yV
  have IB:(bU c os).length<=7:=wK 7 _ _ _
  have rS:sX [cq c os] (.ow ((bU c os).map fun s=>.fz (jY s))):=⟨c,os,tab,du,rfl,rfl⟩
  generalize bU c os=st at *
  have e0:Tr.ow (c.map fun x=>if x=0 then tF (fW WM 0) else tn)=oX (eY c).2:=by
    show Tr.ow _=Tr.ow (List.map _ (List.map _ _))
    rw [List.map_map]
    congr 1
    refine List.map_congr_left fun x _=>?_
    show _=Tr.fz (dO (if x=0 then some 0 else none))
    split<;>rfl
  refine az (jU 1 (kY (dR.to (tT (own:=["count"]) (fr:=[]) c di (fun x=>if x=0 then tF (fW WM 0) else tn) (ck (aW (d:=dis c) (ae 0 rfl) ak rfl rfl) rfl) (bM 0 (fun _=>by show List.Nodup (["count"]:List Str);decide)) (by decide) (by omega) (fun x hx=>⟨_,rfl,by
      exact TF (gY (ae 0 rfl) ak) (fun h=>Ev.to (gT cw B1 (by show k+2<=k+5;omega) (ah ak ao) ⟨0,1,by decide,by decide,rfl,rfl⟩) (by rw [if_pos (of_decide_eq_true h),iN,nF bX])) (fun h=>Ev.to pW (by rw [if_neg (of_decide_eq_false h)]))⟩) (fun dd=>by cases dd<;>rfl)) e0)) (fun i=>lcs ⟨rfl,rfl,by decide +kernel,by decide +kernel,by decide +kernel,by decide +kernel⟩) (fun _=>nO.nd)) ?_
  refine az (aO 2 (bH.to (t':=tF (fW WM 0)) (Ev.s (gT cw B1 (by show k+2<=k+5;omega) (ah ak ao) ⟨0,1,by decide,by decide,rfl,rfl⟩)) (by rw [iN,nF bX])) (fun _=>nO.nd)) ?_
  refine az (eA (bA.s (ck (aM vJ (Nat.le_refl _) (ah (ae 0 rfl) ao) rS) e1)) (pZ 3 4 5 (fun _=>nO.nd)) (fun i=>[some (.fz (cq c os)),some (oX (fF st (eY c) i).2),some (tF (fW WM (fF st (eY c) i).1)),none,none,none,none]) rfl (fun _=>rfl) (fun i d hd=>?_)) ?_
  · obtain ⟨s,hs,rfl⟩:=ef hd
    have hm:=List.mem_of_getElem? hs
    have so:=fv s hm
    have sr:=yV s hm
    have now:=Eb st (eY c) i
    have tY:=pG st (eY c) i
    have hi:i<st.length:=by
      rcases Nat.lt_or_ge i st.length with z | z
      · exact z
      · rw [List.getElem?_eq_none z] at hs;cases hs
    have nb:=pF (ss:=st.map bI.len) (W:=WM) (fun x hx=>by
      obtain ⟨y,hy,rfl⟩:=List.mem_map.mp hx
      exact ⟨(fv y hy).l0,(fv y hy).l1⟩) bX i
    rw [<- List.map_take] at nb
    have i7:(i:Int)*WM<=7*WM:=Int.mul_le_mul_of_nonneg_right (by omega) (by decide)
    have w0:=bX
    rw [DA hs]
    have z0:(eY c).1=0:=rfl
    have zl:(eY c).2.length=c.length:=by show (c.map _).length=_;rw [List.length_map]
    rw [z0,Int.zero_add] at now
    rw [zl] at tY
    generalize fF st (eY c) i=p at now tY
    obtain ⟨t,l⟩:=p
    simp only at now tY
    have t0 : 0<=t:=by rw [now];exact nb.1
    have t7:t<=7*WM:=by rw [now];omega
    have s0:=so.l0
    have s1:=so.l1
    refine ⟨_,[some (.fz (cq c os)),some (oX (dG (t+s.len) l s.fin)),some (tF (fW WM (t+s.len))),some (tF (fW WM s.len)),some (.fz (dis s.ai)),some (.fz (dis s.fin)),none],rfl,?_,[3,4,5],rfl⟩
    refine az (aO 2 (bH.to (t':=tF (fW WM (t+s.len))) (Ev.s (aM xU (by show k+3<=k+5;omega) (ah (ae 2 rfl) (ah (ae 3 rfl) ao)) ⟨fW WM t,fW WM s.len,dz bX gq t0 (by omega),dz bX gq s0 (by omega),rfl,rfl⟩)) (by rw [xh bX])) (fun _=>nO.nd)) ?_
    have full:dG (t+s.len) l s.fin=dG (t+s.len) l (s.fin.take s.fin.length):=by rw [List.take_length]
    rw [full]
    have inner:∀ j,(dG (t+s.len) l (s.fin.take j)).length=c.length:=fun j=>by rw [nr,tY]
    refine aE (Rn.to (eA (bA.s (ck (ae 5 rfl) rfl)) (bM 6 (fun _=>nO.nd)) (fun j=>[some (.fz (cq c os)),some (oX (dG (t+s.len) l (s.fin.take j))),some (tF (fW WM (t+s.len))),some (tF (fW WM s.len)),some (.fz (dis s.ai)),some (.fz (dis s.fin)),none]) rfl (fun _=>rfl) (fun j d hd=>?_)) (by rw [List.length_map]))
    obtain ⟨x,hx,rfl⟩:=ef hd
    obtain ⟨x0,x1⟩:=sr x (List.mem_of_getElem? hx)
    have ej:dG (t+s.len) l (s.fin.take (j+1))=(dG (t+s.len) l (s.fin.take j)).set x.toNat (some (t+s.len)):=by
      unfold dG
      rw [i9 hx,List.foldl_append];rfl
    have il:=inner j
    rw [ej]
    generalize dG (t+s.len) l (s.fin.take j)=g at il
    refine ⟨_,[some (.fz (cq c os)),some (oX (g.set x.toNat (some (t+s.len)))),some (tF (fW WM (t+s.len))),some (tF (fW WM s.len)),some (.fz (dis s.ai)),some (.fz (dis s.fin)),some (ti x)],rfl,?_,[6],rfl⟩
    refine aE (Rn.to (PB 1 (us:=g.map fun o=>.fz (dO o)) (n:=x) (m:=x.toNat) rfl (Ev.s (ae 6 rfl)) (by rw [List.length_map];unfold fI;rw [if_pos x0,if_pos (by omega)]) (Ev.s (ae 2 rfl)) (hps:=fun i=>R6 (pv 1) (Hn i) set_list)) ?_)
    show [_,some (Tr.ow _),_,_,_,_,_]=[_,some (Tr.ow _),_,_,_,_,_]
    rw [List.map_set];rfl
  · rw [List.length_map]
    exact aE (je 1 rfl)
end
end bT
namespace bT
open PySem L2 ft
section
variable {P:Program} {w:World} {K:PySem.W.Frag} {mg:Str->Option Value} {base:Heap}
abbrev l3 (t:Int×Int×Int):List Int:=[t.1,t.2.1,t.2.2]
def wJ (n:Nat) (o cI:List Int) (a:Nat) (m:Nat):List (Int×Int×Int):=(List.range m).flatMap fun j=>if cz cI ((aB n o).getD j 0)=0 then [] else ((aB n o).take j).map fun x=>((a:Int),x,(aB n o).getD j 0)
def bK (n:Nat) (os:List (List Int)) (S:Nat->List Int) (m:Nat):List (Int×Int×Int):=(List.range m).flatMap fun a=>wJ n (os.getD a []) (S a) a (aB n (os.getD a [])).length
theorem pT (n:Nat) (o cI:List Int) (a m:Nat):wJ n o cI a (m+1)=wJ n o cI a m++(if cz cI ((aB n o).getD m 0)=0 then [] else ((aB n o).take m).map fun x=>((a:Int),x,(aB n o).getD m 0)):=by
  unfold wJ
  rw [List.range_succ,List.flatMap_append]
  simp
theorem wq (n:Nat) (os:List (List Int)) (S:Nat->List Int) (m:Nat):bK n os S (m+1)=bK n os S m++wJ n (os.getD m []) (S m) m (aB n (os.getD m [])).length:=by
  unfold bK
  rw [List.range_succ,List.flatMap_append]
  simp
def tri:Nat->Nat
  | 0=>0
  | m+1=>tri m+m
theorem sY (n:Nat) (o cI:List Int) (a:Nat):∀ m,(wJ n o cI a m).length<=tri m
  | 0=>Nat.zero_le _
  | m+1=>by
    rw [pT,List.length_append]
    have:=sY n o cI a m
    show _<=tri m+m
    split
    · show _+0<=_;omega
    · rw [List.length_map,List.length_take];omega
theorem yW {m:Nat} (h:m<=7):tri m<=21:=by
  have:∀ m:Fin 8,tri m.val<=21:=by decide
  exact this ⟨m,by omega⟩
theorem jN {n:Nat} {o:List Int} (hr:∀ x ∈ o,0<=x/\x<n) {x:Int}:x ∈ aB n o ↔ 0<=x/\x<=n:=by
  unfold aB e9
  simp only [List.mem_append,List.mem_singleton,List.mem_map,List.mem_filter,List.mem_range]
  constructor
  · rintro ((h | h) | ⟨k,⟨h1,_⟩,rfl⟩)
    · have:=hr x h;omega
    · omega
    · omega
  · intro h
    by_cases hx:x ∈ o
    · exact .inl (.inl hx)
    by_cases hn:x=n
    · exact .inl (.inr hn)
    · refine .inr ⟨x.toNat,⟨by omega,?_⟩,by omega⟩
      rw [show 0+((x.toNat:Nat):Int)=x by omega]
      simpa using hx
theorem oq {n:Nat} {o:List Int} (hn:n<=6) (nd:o.Nodup) (hr:∀ x ∈ o,0<=x/\x<n):(aB n o).length<=7/\(aB n o).Nodup:=by
  have nf:(aB n o).Nodup:=by
    unfold aB
    rw [List.nodup_append,List.nodup_append]
    refine ⟨⟨nd,List.nodup_cons.mpr ⟨(fun z=>nomatch z),.nil⟩,fun a ha b hb=>?_⟩,?_,fun a ha b hb=>?_⟩
    · rw [List.mem_singleton.mp hb]
      have:=hr a ha
      omega
    · unfold e9
      refine List.Pairwise.map _ (fun a b (h:a<b)=>?_) ((List.pairwise_lt_range (n:=n)).filter _)
      omega
    · obtain ⟨k,hk,rfl⟩:=List.mem_map.mp hb
      obtain ⟨h1,h2⟩:=List.mem_filter.mp hk
      have h1:=List.mem_range.mp h1
      rcases List.mem_append.mp ha with ha | ha
      · intro z
        rw [z] at ha
        rw [List.contains_iff_mem.mpr ha] at h2
        cases h2
      · rw [List.mem_singleton.mp ha];omega
  refine ⟨?_,nf⟩
  have:=Ts.xP (aB n o) (aq (n+1)) nf fun x hx=>by
    have:=(jN hr).mp hx
    exact gy.mpr ⟨by omega,by omega⟩
  rw [show (aq (n+1)).length=n+1 by unfold aq;rw [List.length_map,List.length_range]] at this
  omega
theorem kG {n:Nat} {os:List (List Int)} (S:Nat->List Int) (h:∀ o ∈ os,(aB n o).length<=7):∀ m,m<=os.length->(bK n os S m).length<=21*m
  | 0,_=>Nat.zero_le _
  | m+1,hm=>by
    rw [wq,List.length_append]
    have:=kG S h m (by omega)
    have h1:=sY n (os.getD m []) (S m) m (aB n (os.getD m [])).length
    have h2:os.getD m [] ∈ os:=by
      rw [List.getD_eq_getElem?_getD,List.getElem?_eq_getElem (show m<os.length by omega)]
      exact List.getElem_mem _
    have:=yW (h _ h2)
    omega
theorem wN {n:Nat} {os:List (List Int)} {S:Nat->List Int} {m:Nat} {t:Int×Int×Int}:t ∈ bK n os S m ↔ ∃ a j,a<m/\j<(aB n (os.getD a [])).length/\cz (S a) ((aB n (os.getD a [])).getD j 0) ≠ 0/\∃ x ∈ (aB n (os.getD a [])).take j,t=((a:Int),x,(aB n (os.getD a [])).getD j 0):=by
  unfold bK wJ
  simp only [List.mem_flatMap,List.mem_range]
  constructor
  · rintro ⟨a,ha,j,hj,h⟩
    split at h
    · cases h
    · rename_i hz
      obtain ⟨x,hx,rfl⟩:=List.mem_map.mp h
      exact ⟨a,j,ha,hj,hz,x,hx,rfl⟩
  · rintro ⟨a,j,ha,hj,hz,x,hx,rfl⟩
    exact ⟨a,ha,j,hj,by rw [if_neg hz];exact List.mem_map.mpr ⟨x,hx,rfl⟩⟩
def rC (n:Nat) (os:List (List Int)) (S:Nat->List Int):List (Nat×Nat):=(bK n os S os.length).map fun t=>(t.2.1.toNat,t.2.2.toNat)
theorem Od {ps qs:List (Nat×Nat)} (h:∀ p,p ∈ ps ↔ p ∈ qs):gL ps=gL qs:=by
  unfold gL
  refine List.filter_congr fun p _=>?_
  rw [Bool.eq_iff_iff]
  simpa using h p
theorem S9 (ts:List (Int×Int×Int)):∃ Kx:List (Int×Int×Int),hZ (ts.map l3)=Kx.map l3/\Kx.Perm ts:=by
  obtain ⟨g,hg⟩:∃ g:List Int->Int×Int×Int,g=fun d=>(d.getD 0 0,d.getD 1 0,d.getD 2 0):=⟨_,rfl⟩
  have gl:∀ t,g (l3 t)=t:=fun t=>by rw [hg];rfl
  refine ⟨(hZ (ts.map l3)).map g,?_,?_⟩
  · rw [List.map_map]
    refine ((List.map_congr_left (g:=id) fun d hd=>?_).trans (List.map_id _)).symm
    obtain ⟨t,_,rfl⟩:=List.mem_map.mp ((ph _).mem_iff.mp hd)
    show l3 (g (l3 t))=_
    rw [gl];rfl
  · have:=(ph (ts.map l3)).map g
    rw [List.map_map] at this
    refine this.trans (List.Perm.of_eq ?_)
    exact (List.map_congr_left (g:=id) fun t _=>gl t).trans (List.map_id _)
theorem pH {n:Nat} {o:List Int} {j:Nat} (h:j<(aB n o).length):(aB n o)[j]?=some ((aB n o).getD j 0):=by
  rw [List.getD_eq_getElem?_getD,List.getElem?_eq_getElem h];rfl
theorem P9 {α:Type} (l:List α) (m:Nat):cutD l none (some (m:Int))=l.take m:=by
  unfold cutD
  rw [HT.wV]
  show (l.drop 0).take (min m l.length-0)=_
  rw [List.drop_zero,Nat.sub_zero]
  rcases Nat.le_total m l.length with z | z
  · rw [Nat.min_eq_left z]
  · rw [Nat.min_eq_right z,List.take_length,List.take_of_length_le z]
abbrev nWI:List Str:=["table", "shares", "told", "asker", "row", "order", "place", "b"]
abbrev nu:Stmt:=top 30
theorem pj:bf nWI ["table", "shares"] (aw nu):=⟨rfl,rfl,rfl,by decide +kernel,rfl,by decide +kernel,by decide +kernel⟩
abbrev tW (ts:List (Int×Int×Int)):Tr:=.ow (ts.map fun t=>.fz (dT (l3 t)))
theorem T6 (ts:List (Int×Int×Int)):er (tW ts)=.lst ((ts.map l3).map dT):=by rw [cZ,List.map_map];rfl
abbrev dv (W:Int) (A:Nat) (S:Nat->List Int):Dv:=.lst ((List.range A).map fun a=>ic W (S a))
def yg (dd:List Dv) (t:Tr):Prop:=∃ (c:List Int) (os:List (List Int)) (W:Int) (S:Nat->List Int),cM c os/\(∀ a,a<os.length->fQ W c.length (S a))/\dd=[cq c os,dv W os.length S]/\t=.ow ((hZ ((bK c.length os S os.length).map l3)).map fun d=>.fz (dT d))
theorem O6 {f f1 f2:Addr} {fd aH fd2:FuncData} {k:Nat} {tk:Tok} (F:bh K "wishes" "wishes" nu f fd) (T:Txt mg) (vI:Kn P w K mg base aj (k+1) "full_order" f1 aH ["table", "asker"] (spT K yf)) (cw:Kn P w K mg base aj (k+2) "fraction" f2 fd2 ["top", "bottom"] (spT K fb)) (B1:Binds K fd2 ["top", "bottom"] [.int 1 tk]):aP P w K mg base aj (k+3) f fd ["table", "shares"] (spT K yg):=by
  refine bq F.d pj (fun dd t h=>by obtain ⟨_,_,_,_,_,_,rfl,_⟩:=h;rfl) fun dd t h=>?_
  obtain ⟨c,os,W,S,ok,bY,rfl,rfl⟩:=h
  refine ⟨_,.inl rfl,?_⟩
  have big : 1000<sizeLine:=by decide
  have o6:=ok.o6
  have c6:=ok.c6
  have fl:∀ o ∈ os,(aB c.length o).length<=7:=fun o ho=>(oq c6 (ok.nd o ho) (ok.bR o ho)).1
  have wl:=kG S fl os.length (Nat.le_refl _)
  refine az (aO 2 (Ev.s (cT ao (Nat.zero_le _))) (fun _=>pj.nd)) ?_
  refine az (eA (bA.s (kB T.kq (ae 1 rfl) rfl)) (jT 3 4 (fun _=>pj.nd)) (fun k=>[some (.fz (cq c os)),some (.fz (dv W os.length S)),some (tW (bK c.length os S k)),none,none,none,none,none]) rfl (fun _=>rfl) (fun j d hd=>?_)) ?_
  · obtain ⟨x,hx,rfl⟩:=pP hd
    obtain ⟨a,ha,rfl⟩:=ef hx
    have ja:a=j:=by
      obtain ⟨q1,q2⟩:=List.getElem?_eq_some_iff.mp ha
      rw [List.getElem_range] at q2;exact q2.symm
    subst ja
    have hj:a<os.length:=by have:=(List.getElem?_eq_some_iff.mp ha).1;rw [List.length_range] at this;exact this
    obtain ⟨o,lY⟩:∃ o,os[a]?=some o:=⟨_,List.getElem?_eq_getElem hj⟩
    have og:os.getD a []=o:=by rw [List.getD_eq_getElem?_getD,lY];rfl
    have om:=List.mem_of_getElem? lY
    have f7:=fl o om
    have R:=bY a hj
    have oR:=ok.jv om
    have wa:=kG S fl a (by omega)
    refine ⟨_,_,rfl,az (aO 5 (Ev.s (Ev.as (d:=dis (aB c.length o)) (aM vI (by show k+1<=k+2;omega) (ah (ae 0 rfl) (ah (ae 3 rfl) ao)) ⟨c,os,a,o,by omega,by omega,e7 lY,rfl,rfl⟩) (dk _))) (fun _=>pj.nd)) (aE (eA (bA.s (kB T.kq (ae 5 rfl) rfl)) (jT 6 7 (fun _=>pj.nd)) (fun i=>[some (.fz (cq c os)),some (.fz (dv W os.length S)),some (tW (bK c.length os S a++wJ c.length o (S a) a i)),some (ti a),some (.fz (ic W (S a))),some (.fz (dis (aB c.length o))),none,none]) ?_ (fun _=>rfl) (fun i d hd=>?_))),[3,4,5],?_⟩
    · show [_,_,some (tW (bK c.length os S a++[])),_,_,_,_,_]=_
      rw [List.append_nil];rfl
    · obtain ⟨y,hy,rfl⟩:=pP hd
      obtain ⟨b,hb,rfl⟩:=ef hy
      have il:=(List.getElem?_eq_some_iff.mp hb).1
      have bg:(aB c.length o).getD i 0=b:=by rw [List.getD_eq_getElem?_getD,hb];rfl
      have bm:=(jN (ok.bR o om)).mp (List.mem_of_getElem? hb)
      have UN:er (.ow ((cutD ((aB c.length o).map di) none (some ((i:Nat):Int))).map .fz))=.lst (((aB c.length o).take i).map di):=by
        rw [kQ,sd,P9]
      have wj:=sY c.length o (S a) a i
      have ti7:=yW (m:=i) (by omega)
      have tw:∀ l r:List (Int×Int×Int),tW (l++r)=.ow ((l.map fun t=>.fz (dT (l3 t)))++r.map fun t=>.fz (dT (l3 t))):=fun l r=>by show Tr.ow _=Tr.ow _;rw [List.map_append]
      refine ⟨_,_,rfl,aE (qh (o:=.nx [some (.fz (cq c os)),some (.fz (dv W os.length S)),some (tW (bK c.length os S a++wJ c.length o (S a) a (i+1))),some (ti a),some (.fz (ic W (S a))),some (.fz (dis (aB c.length o))),some (ti i),some (ti b)]) (p:=!decide (cz (S a) b=0)) (cX.to (Et.s (jh (cm (ae 4 rfl) (ae 7 rfl) rfl (rowAt R bm.1 bm.2)) (gT cw B1 (Nat.le_refl _) (ah ak ao) ⟨0,1,by decide,by decide,rfl,rfl⟩) (.inr ⟨_,_,rfl,rfl⟩) (Nat.le_trans (xQ _) (by decide)))) ?_) (fun h=>bb.to (aE (OJ 2 rfl (Ev.s (gC (own:=["a"]) (fr:=[3,7]) ((aB c.length o).take i) di (fun x=>.fz (dT [(a:Int),x,b])) (fun i=>lcs ⟨rfl,rfl,by decide +kernel,by decide +kernel,by decide +kernel,by decide +kernel⟩) (ck (wy (ae 5 rfl) rfl EC (sE (ae 6 rfl))) UN) (bM 0 (fun _=>by show List.Nodup (["a", "asker", "b"]:List Str);decide)) (by decide) (by rw [List.length_take];omega) (fun x hx=>⟨_,rfl,by exact jd (dd:=[di a,di x,di b]) (ah (ae 1 rfl) (ah (ae 0 rfl) (ah (ae 2 rfl) ao))) rfl (by show 3<=sizeLine;decide)⟩) (fun dd=>by cases dd<;>rfl))) ?_)) ?_) (fun h=>bb.to nC ?_)),[6,7],rfl⟩
      · show (!bV (dF _) (dF _))=_
        rw [wL R.w0]
      · rw [List.length_map,List.length_map,List.length_append,List.length_take];omega
      · have hb:¬ cz (S a) b=0:=fun z=>by rw [decide_eq_true z] at h;cases h
        show Out.nx [_,_,some (.ow _),_,_,_,_,_]=_
        rw [pT,bg,if_neg hb,<- List.append_assoc,tw,List.map_map]
        rfl
      · have hb:cz (S a) b=0:=Classical.byContradiction fun z=>by rw [decide_eq_false z] at h;cases h
        rw [pT,bg,if_pos hb,List.append_nil]
        rfl
    · show [_,_,some (tW _),_,_,_,_,_]=_
      rw [wq,og,sG,List.length_map]
  · rw [sG,List.length_map,List.length_range]
    refine vE (d:=.lst (((bK c.length os S os.length).map l3).map dT)) 2 rfl (T6 _) ?_
    exact aE (bF (Ev.s (N8 T.wH (ae 2 rfl) rfl (fun d hd=>by obtain ⟨t,_,rfl⟩:=List.mem_map.mp hd;exact List.cons_ne_nil _ _) (by rw [List.length_map];omega))))
abbrev mQ:Stmt:=top 31
theorem MG:bf ["table", "shares"] ["table", "shares"] (aw mQ):=⟨rfl,rfl,rfl,by decide +kernel,rfl,by decide +kernel,by decide +kernel⟩
abbrev Ky (ps:List (Nat×Nat)):Tr:=.ow ((ps.map lP).map fun d=>.fz (dT d))
def HJ (dd:List Dv) (t:Tr):Prop:=∃ (c:List Int) (os:List (List Int)) (W:Int) (S:Nat->List Int),cM c os/\(∀ a,a<os.length->fQ W c.length (S a))/\dd=[cq c os,dv W os.length S]/\t=Ky (gL (rC c.length os S))
theorem MJ {f f1:Addr} {fd aH:FuncData} {k:Nat} (F:bh K "over_pairs" "over_pairs" mQ f fd) (T:Txt mg) (wO:Kn P w K mg base aj (k+3) "wishes" f1 aH ["table", "shares"] (spT K yg)):aP P w K mg base aj (k+4) f fd ["table", "shares"] (spT K HJ):=by
  refine bq F.d MG (fun dd t h=>by obtain ⟨_,_,_,_,_,_,rfl,_⟩:=h;rfl) fun dd t h=>?_
  obtain ⟨c,os,W,S,ok,bY,rfl,rfl⟩:=h
  refine ⟨_,.inl rfl,?_⟩
  have big : 1000<sizeLine:=by decide
  have o6:=ok.o6
  have c6:=ok.c6
  have fl:∀ o ∈ os,(aB c.length o).length<=7:=fun o ho=>(oq c6 (ok.nd o ho) (ok.bR o ho)).1
  have wl:=kG S fl os.length (Nat.le_refl _)
  obtain ⟨ts,ets,z9⟩:=S9 (bK c.length os S os.length)
  have Kz:∀ t ∈ ts,0<=t.2.1/\t.2.1<=6/\0<=t.2.2/\t.2.2<=6:=fun t ht=>by
    obtain ⟨a,j,ha,hj,_,x,hx,rfl⟩:=wN.mp (z9.mem_iff.mp ht)
    have om:os.getD a [] ∈ os:=by
      rw [List.getD_eq_getElem?_getD,List.getElem?_eq_getElem ha]
      exact List.getElem_mem _
    have h1:=(jN (ok.bR _ om)).mp (List.mem_of_mem_take hx)
    have h2:=(jN (ok.bR _ om)).mp (List.mem_of_getElem? (pH hj))
    exact ⟨h1.1,by show x<=6;omega,h2.1,by show (aB c.length (os.getD a [])).getD j 0<=6;omega⟩
  have ew:er (.ow ((hZ ((bK c.length os S os.length).map l3)).map fun d=>.fz (dT d)))=.lst (ts.map fun t=>dT (l3 t)):=by
    rw [cZ,ets,List.map_map];rfl
  have ec:er (.ow (ts.map fun t=>Tr.fz (dT (lP (t.2.1.toNat,t.2.2.toNat)))))=.lst (((ts.map fun t=>(t.2.1.toNat,t.2.2.toNat)).map lP).map dT):=by
    rw [cZ,List.map_map,List.map_map];rfl
  refine aE (bF (bH.to (Ev.s (Nu T.wH T.HB (gC (own:=["asker", "a", "b"]) (fr:=[]) ts (fun t=>dT (l3 t)) (fun t=>Tr.fz (dT (lP (t.2.1.toNat,t.2.2.toNat)))) (fun i=>lcs ⟨rfl,rfl,by decide +kernel,by decide +kernel,by decide +kernel,by decide +kernel⟩) (ck (aM wO (Nat.le_refl _) (ah (ae 0 rfl) (ah (ae 1 rfl) ao)) ⟨c,os,W,S,ok,bY,rfl,rfl⟩) ew) (pZ 0 1 2 (fun _=>by show List.Nodup (["asker", "a", "b"]:List Str);decide)) (by decide) (by rw [z9.length_eq];omega) (fun t ht=>⟨_,rfl,?_⟩) (fun dd=>by match dd with | [] => rfl | [_] => rfl | [_,_] => rfl | _::_::_::_=>rfl)) ec ?_)) ?_))
  · have:=Kz t ht
    exact Ev.to (jd (dd:=[di t.2.1,di t.2.2]) (ah (ae 1 rfl) (ah (ae 2 rfl) ao)) rfl (by show 2<=sizeLine;decide)) (by
      show Tr.fz (.tup [di t.2.1,di t.2.2])=Tr.fz (.tup [di ((t.2.1.toNat:Nat):Int),di ((t.2.2.toNat:Nat):Int)])
      rw [show ((t.2.1.toNat:Nat):Int)=t.2.1 by omega,show ((t.2.2.toNat:Nat):Int)=t.2.2 by omega])
  · intro p hp
    obtain ⟨t,ht,rfl⟩:=List.mem_map.mp hp
    have:=Kz t ht
    exact ⟨by show t.2.1.toNat<=6;omega,by show t.2.2.toNat<=6;omega⟩
  · show Tr.ow _=Tr.ow _
    rw [Od (ps:=ts.map fun t=>(t.2.1.toNat,t.2.2.toNat)) (qs:=rC c.length os S) fun p=>(z9.map _).mem_iff]
def lZ (l:List Int) (x b:Int):Prop:=∃ (j:Nat),l[j]?=some b/\x ∈ l.take j
theorem RK {l r:List Int} {x b:Int}:lZ (l++r) x b ↔ lZ l x b\/(x ∈ l/\b ∈ r)\/lZ r x b:=by
  constructor
  · rintro ⟨j,h1,h2⟩
    rcases Nat.lt_or_ge j l.length with h | h
    · rw [List.getElem?_append_left h] at h1
      rw [List.take_append_of_le_length (Nat.le_of_lt h)] at h2
      exact .inl ⟨j,h1,h2⟩
    · rw [List.getElem?_append_right h] at h1
      rw [List.take_append,List.take_of_length_le h] at h2
      rcases List.mem_append.mp h2 with h2 | h2
      · exact .inr (.inl ⟨h2,List.mem_of_getElem? h1⟩)
      · exact .inr (.inr ⟨j-l.length,h1,h2⟩)
  · rintro (⟨j,h1,h2⟩ | ⟨h1,h2⟩ | ⟨j,h1,h2⟩)
    · have h:=(List.getElem?_eq_some_iff.mp h1).1
      exact ⟨j,by rw [List.getElem?_append_left h];exact h1,by rw [List.take_append_of_le_length (Nat.le_of_lt h)];exact h2⟩
    · obtain ⟨j,hj,ej⟩:=List.getElem_of_mem h2
      refine ⟨l.length+j,?_,?_⟩
      · rw [List.getElem?_append_right (by omega),show l.length+j-l.length=j by omega,List.getElem?_eq_getElem hj,ej]
      · rw [List.take_append,List.take_of_length_le (by omega)]
        exact List.mem_append_left _ h1
    · refine ⟨l.length+j,?_,?_⟩
      · rw [List.getElem?_append_right (by omega),show l.length+j-l.length=j by omega];exact h1
      · rw [List.take_append,show l.length+j-l.length=j by omega]
        exact List.mem_append_right _ h2
theorem RL {l:List Int} (nd:l.Nodup) {x b:Int}:lZ l x b ↔ x ∈ l/\b ∈ l/\l.idxOf x<l.idxOf b:=by
  constructor
  · rintro ⟨j,h1,h2⟩
    obtain ⟨hj,rfl⟩:=List.getElem?_eq_some_iff.mp h1
    obtain ⟨i,hi,rfl⟩:=List.mem_take_iff_getElem.mp h2
    rw [nd.idxOf_getElem j hj,nd.idxOf_getElem i (by omega)]
    exact ⟨List.getElem_mem _,List.getElem_mem _,by omega⟩
  · rintro ⟨h1,h2,h3⟩
    have k1:=List.idxOf_lt_length_iff.mpr h1
    have k2:=List.idxOf_lt_length_iff.mpr h2
    refine ⟨l.idxOf b,by rw [List.getElem?_eq_getElem k2,List.getElem_idxOf k2],List.mem_take_iff_getElem.mpr ⟨l.idxOf x,by omega,List.getElem_idxOf k1⟩⟩
end
end bT
namespace bT
open PySem L2 ft
section
variable {P:Program} {w:World} {K:PySem.W.Frag} {mg:Str->Option Value} {base:Heap}
def iR (ps:List (Nat×Nat)) (r:List Int):List Int:=(ps.filter fun p=>r.contains (p.1:Int)).map fun p=>(p.2:Int)
def b0 (ps:List (Nat×Nat)) (r:List Int):List Int:=r.filter fun x=>!(iR ps r).contains x
def fX (ps:List (Nat×Nat)) (r:List Int):List Int:=r.filter fun x=>(iR ps r).contains x
def km (ps:List (Nat×Nat)):Nat->List Int->List Int->List Int
  | 0,o,_=>o
  | n+1,o,r=>if b0 ps r=[] then o else km ps n (o++b0 ps r) (fX ps r)
def cY (ps:List (Nat×Nat)) (n:Nat):List Int:=km ps (n+1) [] (aq n)
theorem Fb (ps:List (Nat×Nat)) (r:List Int):(b0 ps r++fX ps r).Perm r:=by
  unfold b0 fX
  have:=List.filter_append_perm (fun x=>!(iR ps r).contains x) r
  refine (List.Perm.append_left _ (List.Perm.of_eq ?_)).trans this
  exact List.filter_congr fun x _=>by rw [Bool.not_not]
theorem Fc (ps:List (Nat×Nat)) (r:List Int):(b0 ps r).length+(fX ps r).length=r.length:=by
  rw [<- List.length_append]
  exact (Fb ps r).length_eq
theorem Fe {ps:List (Nat×Nat)} {r:List Int} {x:Int}:x ∈ iR ps r ↔ ∃ p ∈ ps,(p.1:Int) ∈ r/\x=(p.2:Int):=by
  unfold iR
  simp only [List.mem_map,List.mem_filter,List.contains_iff_mem]
  constructor
  · rintro ⟨p,⟨h1,h2⟩,rfl⟩;exact ⟨p,h1,h2,rfl⟩
  · rintro ⟨p,h1,h2,rfl⟩;exact ⟨p,⟨h1,h2⟩,rfl⟩
structure Lu (ps:List (Nat×Nat)) (N:Nat) (o r:List Int):Prop where
  perm:(o++r).Perm (aq N)
  KA:∀ p ∈ ps,(p.1:Int) ∈ aq N->(p.2:Int) ∈ o->lZ o p.1 p.2
theorem RM {ps:List (Nat×Nat)} {N:Nat} {o r:List Int} (L:Lu ps N o r):Lu ps N (o++b0 ps r) (fX ps r):=by
  refine ⟨?_,fun p hp hn hb=>?_⟩
  · rw [List.append_assoc]
    exact (List.Perm.append_left o (Fb ps r)).trans L.perm
  · rw [RK]
    rcases List.mem_append.mp hb with hb | hb
    · exact .inl (L.KA p hp hn hb)
    · right;left
      refine ⟨?_,hb⟩
      have h1:(p.1:Int) ∈ o++r:=L.perm.mem_iff.mpr hn
      rcases List.mem_append.mp h1 with h1 | h1
      · exact h1
      · exfalso
        have:=(List.mem_filter.mp hb).2
        rw [List.contains_iff_mem.mpr (Fe.mpr ⟨p,hp,h1,rfl⟩)] at this
        cases this
theorem GI {ps:List (Nat×Nat)} {N:Nat}:∀ (n:Nat) (o r:List Int),r.length<n->Lu ps N o r->∃ r',Lu ps N (km ps n o r) r'/\b0 ps r'=[]
  | 0,o,r,h,_=>by omega
  | n+1,o,r,h,L=>by
    unfold km
    by_cases hf:b0 ps r=[]
    · rw [if_pos hf];exact ⟨r,L,hf⟩
    · rw [if_neg hf]
      have:=Fc ps r
      have : 0<(b0 ps r).length:=List.length_pos_iff.mpr hf
      exact GI n _ _ (by omega) (RM L)
theorem GJ (ps:List (Nat×Nat)) (N:Nat):∃ r',Lu ps N (cY ps N) r'/\b0 ps r'=[]:=by
  have hl:(aq N).length=N:=by unfold aq;rw [List.length_map,List.length_range]
  exact GI (N+1) [] (aq N) (by omega) ⟨List.Perm.refl _,fun p _ _ h=>nomatch h⟩
def eM (ps:List (Nat×Nat)) (N:Nat):List Int:=(aq N).filter fun x=>!(cY ps N).contains x
theorem RN {ps:List (Nat×Nat)} {N:Nat} {x:Int} (h:x ∈ eM ps N):∃ p ∈ ps,(p.1:Int) ∈ eM ps N/\x=(p.2:Int):=by
  obtain ⟨r',L,hf⟩:=GJ ps N
  have nd:(cY ps N++r').Nodup:=L.perm.nodup_iff.mpr (rO N)
  have mem:∀ y,y ∈ eM ps N ↔ y ∈ r':=fun y=>by
    unfold eM
    rw [List.mem_filter]
    constructor
    · rintro ⟨h1,h2⟩
      rcases List.mem_append.mp (L.perm.mem_iff.mpr h1) with z | z
      · rw [List.contains_iff_mem.mpr z] at h2;cases h2
      · exact z
    · intro z
      refine ⟨L.perm.mem_iff.mp (List.mem_append_right _ z),?_⟩
      rw [Bool.not_eq_true',Bool.eq_false_iff]
      intro q
      have q:=List.contains_iff_mem.mp q
      exact (List.nodup_append.mp nd).2.2 y q y z rfl
  have hx:=(mem x).mp h
  have:x ∈ iR ps r':=by
    apply Classical.byContradiction
    intro z
    have:x ∈ b0 ps r':=List.mem_filter.mpr ⟨hx,by rw [Bool.not_eq_true',Bool.eq_false_iff];exact fun q=>z (List.contains_iff_mem.mp q)⟩
    rw [hf] at this
    cases this
  obtain ⟨p,h1,h2,h3⟩:=Fe.mp this
  exact ⟨p,h1,(mem _).mpr h2,h3⟩
theorem Ta {ps:List (Nat×Nat)} {N:Nat} (h:eM ps N=[]):(cY ps N).Perm (aq N)/\∀ p ∈ ps,(p.1:Int) ∈ aq N->(p.2:Int) ∈ aq N->lZ (cY ps N) p.1 p.2:=by
  obtain ⟨r',L,hf⟩:=GJ ps N
  have nd:(cY ps N++r').Nodup:=L.perm.nodup_iff.mpr (rO N)
  have rn:r'=[]:=by
    cases hr:r' with
    | nil=>rfl
    | cons y l =>
      exfalso
      have hy:y ∈ r':=by rw [hr];exact List.mem_cons_self ..
      have:y ∈ eM ps N:=List.mem_filter.mpr ⟨L.perm.mem_iff.mp (List.mem_append_right _ hy),by
        rw [Bool.not_eq_true',Bool.eq_false_iff]
        exact fun q=>(List.nodup_append.mp nd).2.2 y (List.contains_iff_mem.mp q) y hy rfl⟩
      rw [h] at this
      cases this
  have P:=L.perm
  rw [rn,List.append_nil] at P
  exact ⟨P,fun p hp h1 h2=>L.KA p hp h1 (P.mem_iff.mpr h2)⟩
theorem RO {ι:Type} {F:aY ι} {ρ:En} {pos:Pos} (j:Nat) {x n:Str} {t:Tr} {c0:Nat} {p0 px pt:Pos} {kt} (h : ρ[j]?=some (some t)) (hps:∀ i,PS (F.cx i) (.Return (some (.Tuple [.Constant (.str n) c0 p0,.Name x px] kt pt)) pos) (tL (yG (dZ (tC (.str n)) (dZ (fR j) fc))))) :
    Rn F (.Return (some (.Tuple [.Constant (.str n) c0 p0,.Name x px] kt pt)) pos) ρ (.rt (.tp [tx n,t])):=by
  refine ⟨_,hps,fun D σ G0 H0 G H r k=>?_⟩
  obtain ⟨fp,r⟩:=r
  obtain ⟨v,f,fr,q1,q2,q3,q4⟩:=r.own.split h
  have sub:∀ a ∈ f,a ∈ fp:=fun a ha=>q4.mem_iff.mpr (List.mem_append_left _ ha)
  refine ⟨v,q1,by show 2<=sizeLine;decide,fun p hp=>?_⟩
  have pf:p ∉ f:=fun z=>by
    obtain ⟨u,hu⟩:=r.own.there p (sub p z)
    rw [hp] at hu;cases hu
  refine k (.ref p) G _ (p::f) (r.st.trans (.j6 r.st.s hp)) ⟨p,_,f,rfl,fA,⟨.str n,[v],[],f,rfl,rfl,⟨rfl,rfl,rfl⟩,⟨v,[],f,[],rfl,(List.append_nil f).symm,q2.frame pf,rfl,rfl⟩⟩,rfl⟩ ⟨fun a ha=>?_,fun a ha=>?_,List.nodup_cons.mpr ⟨pf,(List.nodup_append.mp (q4.nodup_iff.mp r.d)).1⟩⟩
  · rcases List.mem_cons.mp ha with rfl | z
    · exact r.st.h.free hp
    · exact r.n a (sub a z)
  · rcases List.mem_cons.mp ha with rfl | z
    · exact r.st.s.free hp
    · exact r.g a (sub a z)
theorem Oe {ι:Type} {F:aY ι} {ρ:En} {st:Stmt} (j j2:Nat) {us:List Tr} {ns:List Int} (J8:j ≠ j2) (h : ρ[j]?=some (some (.ow us))) (h2 : ρ[j2]?=some (some (bu ns))) (hz:us.length+ns.length<=sizeLine)
    (hps:∀ i,PS (F.cx i) st (n5 (lJ F.K "list" wY (fR j) (dZ (fR j2) fc)))):Rn F st ρ (.nx (ρ.set j (some (.ow (us++ns.map fun n=>.fz (di n)))))):=by
  refine ⟨_,hps,fun D σ G0 H0 G H r k=>?_⟩
  obtain ⟨fp,r⟩:=r
  obtain ⟨l0,uq,ur,c1,c2,_⟩:=r.mut h (.refl r.st.s)
  obtain ⟨l,vs,fq,d1,d2,d3,d4,d5,d6,d7⟩:=r.mut h (.refl r.st.s)
  rw [c1] at d1
  cases d1
  obtain ⟨v2,f2,fr,a1,a2,a3,a4⟩:=r.own.split h2
  obtain ⟨b,zs,f',rfl,hb,ob,_⟩:=a2
  obtain ⟨rfl,rfl⟩:=DZ ob
  refine ⟨_,c1,.inl ⟨rfl,_,bj.of c2⟩,_,a1,l0,b,vs,_,rfl,rfl,d3,hb,by rw [<- d4.length,List.length_map];exact hz,k σ G _ (d7 (us++ns.map fun n=>.fz (di n)) (vs++ns.map V.int) (fq++[]) (d4.append (OW ns)) (by rw [List.append_nil];exact d5) fun a ha=>?_)⟩
  rw [List.append_nil] at ha
  exact .inl ha
def gM (A:Nat) (S:Nat->List Int) (x:Int):Int:=((List.range A).map fun a=>cz (S a) x).sum
abbrev m7:Stmt:=top 28
theorem NF:bf ["shares", "one"] ["shares", "one"] (aw m7):=⟨rfl,rfl,rfl,by decide +kernel,rfl,by decide +kernel,by decide +kernel⟩
def sZ (dd:List Dv) (t:Tr):Prop:=∃ (W:Int) (n A:Nat) (S:Nat->List Int) (x:Int),0<W/\W<2 ^ 70/\(∀ a,a<A->fQ W n (S a))/\A<=6/\0<=x/\x<=n/\dd=[dv W A S,di x]/\t=tF (fW W (gM A S x))
theorem NI {f f1:Addr} {fd aH:FuncData} {k:Nat} (F:bh K "dealt_of" "dealt_of" m7 f fd) (T:Txt mg) (wM:Kn P w K mg base aj (k+4) "sum_of" f1 aH ["some"] (spT K xT)):aP P w K mg base aj (k+5) f fd ["shares", "one"] (spT K sZ):=by
  refine bq F.d NF (fun dd t h=>by obtain ⟨_,_,_,_,_,_,_,_,_,_,_,rfl,_⟩:=h;rfl) fun dd t h=>?_
  obtain ⟨W,n,A,S,x,w0,w1,bY,a6,x0,x1,rfl,rfl⟩:=h
  refine ⟨_,.inl rfl,?_⟩
  have big : 1000<sizeLine:=by decide
  refine aE (bF (Ev.s (aM wM (Nat.le_refl _) (ah (gC (own:=["row"]) (fr:=[1]) (List.range A) (fun a=>ic W (S a)) (fun a=>tF (fW W (cz (S a) x))) (fun i=>lcs ⟨rfl,rfl,by decide +kernel,by decide +kernel,by decide +kernel,by decide +kernel⟩) (ck (ae 0 rfl) rfl) (bM 0 (fun _=>by show List.Nodup (["row", "one"]:List Str);decide)) (by decide) (by rw [List.length_range];omega) (fun a ha=>⟨_,rfl,by exact cm (ae 0 rfl) (ae 1 rfl) rfl (rowAt (bY a (List.mem_range.mp ha)) x0 x1)⟩) (fun dd=>by cases dd<;>rfl)) ao) ⟨W,(List.range A).map fun a=>cz (S a) x,w0,w1,fun s hs=>?_,by rw [List.length_map,List.length_range];omega,?_,rfl⟩)))
  · obtain ⟨a,ha,rfl⟩:=List.mem_map.mp hs
    exact se (bY a (List.mem_range.mp ha)) x
  · show [er (.ow _)]=_
    rw [cZ]
    show [Dv.lst _]=[Dv.lst _]
    rw [List.map_map];rfl
def oY (W:Int) (c:List Int) (A:Nat) (S:Nat->List Int):List Int:=((List.range c.length).filter fun j=>decide (gM A S ((j:Nat):Int)=(c.getD j 0)*W)).map fun j=>((j:Nat):Int)
abbrev mJ:Stmt:=top 32
theorem Mm:bf ["counts", "shares"] ["counts", "shares"] (aw mJ):=⟨rfl,rfl,rfl,by decide +kernel,rfl,by decide +kernel,by decide +kernel⟩
def IG (dd:List Dv) (t:Tr):Prop:=∃ (c:List Int) (W:Int) (A:Nat) (S:Nat->List Int),c.length<=6/\0<W/\W<2 ^ 70/\(∀ a,a<A->fQ W c.length (S a))/\A<=6/\dd=[dis c,dv W A S]/\t=bu (oY W c A S)
theorem GK {W c:Int} (h : 0<W):(lT c 1,lB c 1)=fW W (c*W):=nD h (by decide) (by rw [Int.mul_one])
theorem Mo {f f1 f2:Addr} {fd aH fd2:FuncData} {k:Nat} {tk:Tok} (F:bh K "full_things" "full_things" mJ f fd) (T:Txt mg) (Og:Kn P w K mg base aj (k+5) "dealt_of" f1 aH ["shares", "one"] (spT K sZ)) (cw:Kn P w K mg base aj (k+2) "fraction" f2 fd2 ["top", "bottom"] (spT K fb)) (B1:Binds K fd2 ["top", "bottom"] [.int 1 tk]):aP P w K mg base aj (k+6) f fd ["counts", "shares"] (spT K IG):=by
  refine bq F.d Mm (fun dd t h=>by obtain ⟨_,_,_,_,_,_,_,_,_,rfl,_⟩:=h;rfl) fun dd t h=>?_
  obtain ⟨c,W,A,S,c6,w0,w1,bY,a6,rfl,rfl⟩:=h
  refine ⟨_,.inl rfl,?_⟩
  have r25:k+2<=k+5:=by omega
  have big : 1000<sizeLine:=by decide
  refine aE (bF (Ev.s (Ev.to (t':=bu (oY W c A S)) (tG (own:=["thing", "count"]) (fr:=[1]) (fun i=>lcs ⟨rfl,rfl,by decide +kernel,by decide +kernel,by decide +kernel,by decide +kernel⟩) (kB T.kq (ae 0 rfl) rfl) (jT 0 1 (fun _=>by show List.Nodup (["thing", "count", "shares"]:List Str);decide)) (by decide) (fun k=>decide (gM A S ((k:Nat):Int)=(c.getD k 0)*W)) (fun k=>ti ((k:Nat):Int)) ?_ (fun k d hd=>?_) (fun dd=>?_)) ?_)))
  · rw [sG,List.length_map];omega
  · obtain ⟨y,hy,rfl⟩:=pP hd
    obtain ⟨z,hz,rfl⟩:=ef hy
    have hk:=(List.getElem?_eq_some_iff.mp hz).1
    refine ⟨_,rfl,?_,fun _=>ae 0 rfl⟩
    have ez:c.getD k 0=z:=by rw [List.getD_eq_getElem?_getD,hz];rfl
    rw [ez]
    exact fN (Et.to (sP (aM Og (Nat.le_refl _) (ah (ae 2 rfl) (ah (ae 0 rfl) ao)) ⟨W,c.length,A,S,((k:Nat):Int),w0,w1,bY,a6,by omega,by omega,rfl,rfl⟩) (gT cw B1 r25 (ah (ae 1 rfl) ao) ⟨z,1,by decide,by decide,rfl,rfl⟩) (.inr ⟨_,_,rfl,rfl⟩) (Nat.le_trans (xQ _) (by decide))) (by
      show bV (dF _) (dF _)=_
      rw [GK w0,GF,decide_eq_decide]
      exact ⟨fun q=>FQ w0 q,fun q=>by rw [q]⟩))
  · match dd with
    | [] => rfl
    | [_] => rfl
    | _::_::_=>rfl
  · rw [sG,List.length_map]
    show _=Tr.ow ((List.map _ _).map _)
    rw [List.map_map]
    rfl
abbrev nLU:List Str:=["many", "pairs", "order", "rest", "free", "held"]
abbrev m8:Stmt:=top 33
theorem kr:bf nLU ["many", "pairs"] (aw m8):=⟨rfl,rfl,rfl,by decide +kernel,rfl,by decide +kernel,by decide +kernel⟩
def GL (dd:List Dv) (t:Tr):Prop:=∃ (N:Nat) (ps:List (Nat×Nat)),1<=N/\N<=7/\ps.length<=49/\dd=[di N,.lst (ps.map fun p=>dT (lP p))]/\t=bu (cY ps N)
theorem Qa {α:Type} (p : α->Bool) (l:List α):(l.filter p).length<=l.length:=List.length_filter_le p l
theorem NK {f:Addr} {fd:FuncData} {k:Nat} (F:bh K "lined_up" "lined_up" m8 f fd) (T:Txt mg):aP P w K mg base aj (k+1) f fd ["many", "pairs"] (spT K GL):=by
  refine bq F.d kr (fun dd t h=>by obtain ⟨_,_,_,_,_,rfl,_⟩:=h;rfl) fun dd t h=>?_
  obtain ⟨N,ps,n1,n7,pl,rfl,rfl⟩:=h
  refine ⟨_,.inl rfl,?_⟩
  have big : 1000<sizeLine:=by decide
  have nl:(aq N).length=N:=by unfold aq;rw [List.length_map,List.length_range]
  have en:er (Tr.ow (((List.range ((N:Nat):Int).toNat).map fun i=>(0+((i:Nat):Int))).map fun n=>Tr.fz (di n)))=dis (aq N):=by rw [p7,List.map_id'];rfl
  refine az (aO 2 (Ev.s (cT ao (Nat.zero_le _))) (fun _=>kr.nd)) ?_
  refine az (aO 3 (Ev.s (Ev.as (d:=dis (aq N)) (vF T.ji T.e8 (ae 0 rfl) (by omega) (by omega)) en)) (fun _=>kr.nd)) ?_
  refine az (aO 4 (Ev.s (ae 3 rfl)) (fun _=>kr.nd)) ?_
  refine rK (α:=List Int×List Int×List Int×Nat) (fun a=>[some (ti N),some (.fz (.lst (ps.map fun p=>dT (lP p)))),some (bu a.1),some (.fz (dis a.2.1)),some (.fz (dis a.2.2.1)),none]) (fun a=>(a.2.2.1 ≠ []->a.2.1.length<a.2.2.2)/\a.1.length+a.2.1.length<=7/\cY ps N=if a.2.2.1=[] then a.1 else km ps a.2.2.2 a.1 a.2.1) (fun a=>!a.2.2.1.isEmpty) (fun a=>a.2.1.length+if a.2.2.1=[] then 0 else 1) ([],aq N,aq N,N+1) rfl ⟨fun _=>by show (aq N).length<N+1;omega,by show 0+(aq N).length<=7;omega,?_⟩ (fun a h=>?_) (fun a h hp=>?_) (fun a h hp=>?_)
  · show cY ps N=if aq N=[] then [] else km ps (N+1) [] (aq N)
    rw [if_neg (fun z=>by rw [z] at nl;exact absurd nl.symm (by show ¬ N=0;omega))]
    rfl
  · refine cX.to (Et.s (jh (ae 4 rfl) (cT ao (Nat.zero_le _)) (.inl ⟨_,_,rfl,rfl⟩) (Nat.le_trans (kI _) (by decide)))) ?_
    show (!bV (dis _) (.lst []))=_
    cases a.2.2.1<;>rfl
  · obtain ⟨o,r,fr,n⟩:=a
    obtain ⟨h1,h2,h3⟩:=h
    dsimp only at h1 h2 h3 hp ⊢
    have Aa:fr ≠ []:=fun z=>by rw [z] at hp;cases hp
    rw [if_neg Aa] at h3
    have h1:=h1 Aa
    have rl:=Fc ps r
    cases n with
    | zero=>omega
    | succ n =>
      refine ⟨(o++b0 ps r,fX ps r,b0 ps r,n),⟨fun z=>?_,?_,?_⟩,?_,?_⟩
      · have : 0<(b0 ps r).length:=List.length_pos_iff.mpr z
        show (fX ps r).length<n
        omega
      · show (o++b0 ps r).length+(fX ps r).length<=7
        rw [List.length_append];omega
      · show cY ps N=if b0 ps r=[] then o++b0 ps r else km ps n (o++b0 ps r) (fX ps r)
        rw [h3]
        show (if b0 ps r=[] then o else km ps n (o++b0 ps r) (fX ps r))=_
        by_cases z:b0 ps r=[]
        · rw [if_pos z,if_pos z,z,List.append_nil]
        · rw [if_neg z,if_neg z]
      · show (fX ps r).length+(if b0 ps r=[] then 0 else 1)<r.length+if fr=[] then 0 else 1
        rw [if_neg Aa]
        by_cases z:b0 ps r=[]
        · rw [if_pos z];omega
        · have : 0<(b0 ps r).length:=List.length_pos_iff.mpr z
          rw [if_neg z];omega
      · have hh:=Qa (fun p:Nat×Nat=>r.contains (p.1:Int)) ps
        refine az (aO 5 (Ev.s (Ev.as (d:=dis (iR ps r)) (kR (own:=["a", "b"]) (fr:=[3]) ps (fun p=>dT (lP p)) (fun p=>r.contains (p.1:Int)) (fun p=>ti (p.2:Int)) (fun i=>lcs ⟨rfl,rfl,by decide +kernel,by decide +kernel,by decide +kernel,by decide +kernel⟩) (ck (ae 1 rfl) rfl) (jT 0 1 (fun _=>by show List.Nodup (["a", "b", "rest"]:List Str);decide)) (by decide) (by omega) (fun p hp=>⟨_,rfl,by exact fN (tE (ae 0 rfl) (ae 2 rfl) rfl (by with_unfolding_all rfl)),fun _=>by exact ae 1 rfl⟩) (fun dd=>by match dd with | [] => rfl | [_] => rfl | _::_::_=>rfl)) ?_)) (fun _=>kr.nd)) ?_
        · rw [cZ]
          unfold iR
          show _=Dv.lst ((List.map _ _).map di)
          rw [List.map_map];rfl
        refine az (jU 4 (kY (dR.to (t':=bu (b0 ps r)) (qA (own:=["one"]) (fr:=[5]) r di (fun x=>!(iR ps r).contains x) ti (ck (ae 3 rfl) rfl) (bM 0 (fun _=>by show List.Nodup (["one", "held"]:List Str);decide)) (by decide) (by omega) (fun x hx=>⟨_,rfl,by exact fN (nk (ae 0 rfl) (ae 1 rfl) rfl (by with_unfolding_all rfl)),fun _=>by exact ae 0 rfl⟩) (fun dd=>by cases dd<;>rfl)) rfl)) (fun i=>lcs ⟨rfl,rfl,by decide +kernel,by decide +kernel,by decide +kernel,by decide +kernel⟩) (fun _=>kr.nd)) ?_
        refine az (aO 3 (Ev.s (Ev.as (d:=dis (fX ps r)) (kR (own:=["one"]) (fr:=[5]) r di (fun x=>(iR ps r).contains x) ti (fun i=>lcs ⟨rfl,rfl,by decide +kernel,by decide +kernel,by decide +kernel,by decide +kernel⟩) (ck (ae 3 rfl) rfl) (bM 0 (fun _=>by show List.Nodup (["one", "held"]:List Str);decide)) (by decide) (by omega) (fun x hx=>⟨_,rfl,by exact fN (tE (ae 0 rfl) (ae 1 rfl) rfl (by with_unfolding_all rfl)),fun _=>by exact ae 0 rfl⟩) (fun dd=>by cases dd<;>rfl)) ?_)) (fun _=>kr.nd)) ?_
        · rw [p7,List.map_id'];rfl
        refine az (Oe 2 4 (ns:=b0 ps r) (by decide) rfl rfl (by rw [List.length_map];omega) (fun i=>pI (n8 PySem.F.plainAttrs_list PySem.F.slot_list_extend PySem.F.type_list_extend Dm (pv 2) (dw (pv 4) eT)))) ?_
        refine vE (d:=dis (b0 ps r)) 4 rfl (dk _) ?_
        refine bb.to (PJ (ρ2:=[some (ti N),some (.fz (.lst (ps.map fun p=>dT (lP p)))),some (.ow ((o.map fun n=>.fz (di n))++(b0 ps r).map fun n=>.fz (di n))),some (.fz (dis (fX ps r))),some (.fz (dis (b0 ps r))),none]) ⟨[5],rfl⟩) ?_
        rw [<- List.map_append]
  · obtain ⟨o,r,fr,n⟩:=a
    obtain ⟨_,_,h3⟩:=h
    dsimp only at h3 hp ⊢
    have fe:fr=[]:=by
      cases fr with
      | nil=>rfl
      | cons _ _=>cases hp
    rw [if_pos fe] at h3
    rw [h3]
    exact aE (je 2 rfl)
abbrev eQ (ts:List (Int×Int×Int)):Dv:=.lst (ts.map fun t=>dT (l3 t))
end
end bT
namespace bT
open PySem L2 ft
section
variable {P:Program} {w:World} {K:PySem.W.Frag} {mg:Str->Option Value} {base:Heap}
def g3 (d:List Int):Int×Int×Int:=(d.getD 0 0,d.getD 1 0,d.getD 2 0)
def kn (n:Nat) (os:List (List Int)) (S:Nat->List Int):List (Int×Int×Int):=(hZ ((bK n os S os.length).map l3)).map g3
theorem T7 (n:Nat) (os:List (List Int)) (S:Nat->List Int):(kn n os S).map l3=hZ ((bK n os S os.length).map l3):=by
  unfold kn
  rw [List.map_map]
  refine (List.map_congr_left (g:=id) fun d hd=>?_).trans (List.map_id _)
  obtain ⟨t,_,rfl⟩:=List.mem_map.mp ((ph _).mem_iff.mp hd)
  rfl
theorem Ff (n:Nat) (os:List (List Int)) (S:Nat->List Int):(kn n os S).Perm (bK n os S os.length):=by
  have:=(ph ((bK n os S os.length).map l3)).map g3
  rw [List.map_map] at this
  exact this.trans (List.Perm.of_eq ((List.map_congr_left (g:=id) fun t _=>rfl).trans (List.map_id _)))
def oZ (W:Int) (c:List Int) (os:List (List Int)) (S:Nat->List Int):List (Int×Int×Int):=(kn c.length os S).filter fun t=>!(oY W c os.length S).contains t.2.1
def cv (c:List Int) (os:List (List Int)) (S:Nat->List Int):List (Nat×Nat):=gL (rC c.length os S)
theorem qD {c:List Int} {os:List (List Int)} {S:Nat->List Int} (ok:cM c os) {t:Int×Int×Int} (ht:t ∈ bK c.length os S os.length) : 0<=t.2.1/\t.2.1<=c.length/\0<=t.2.2/\t.2.2<=c.length/\t.2.1 ≠ t.2.2:=by
  obtain ⟨a,j,ha,hj,_,x,hx,rfl⟩:=wN.mp ht
  have om:os.getD a [] ∈ os:=by
    rw [List.getD_eq_getElem?_getD,List.getElem?_eq_getElem ha]
    exact List.getElem_mem _
  have h1:=(jN (ok.bR _ om)).mp (List.mem_of_mem_take hx)
  have h2:=(jN (ok.bR _ om)).mp (List.mem_of_getElem? (pH hj))
  refine ⟨h1.1,h1.2,h2.1,h2.2,fun z=>?_⟩
  have nd:=(oq ok.c6 (ok.nd _ om) (ok.bR _ om)).2
  obtain ⟨i,hi,ei⟩:=List.mem_take_iff_getElem.mp hx
  have z:x=(aB c.length (os.getD a [])).getD j 0:=z
  rw [List.getD_eq_getElem?_getD,List.getElem?_eq_getElem hj,Option.getD_some,<- ei] at z
  have:=(List.getElem_inj nd).mp z
  omega
theorem Tc {c:List Int} {os:List (List Int)} {S:Nat->List Int} {p:Nat×Nat} (h:p ∈ cv c os S):∃ t ∈ bK c.length os S os.length,p=(t.2.1.toNat,t.2.2.toNat):=by
  have h:=(List.mem_filter.mp h).2
  have h:p ∈ rC c.length os S:=by simpa using h
  obtain ⟨t,ht,rfl⟩:=List.mem_map.mp h
  exact ⟨t,ht,rfl⟩
theorem Qb (ps:List (Nat×Nat)):(gL ps).length<=49:=Nat.le_trans (List.length_filter_le _ _) (by decide)
abbrev nJU:List Str:=["table", "shares", "many", "wished", "full", "left", "order", "rest"]
abbrev ny:Stmt:=top 35
theorem kx:bf nJU ["table", "shares"] (aw ny):=⟨rfl,rfl,rfl,by decide +kernel,rfl,by decide +kernel,by decide +kernel⟩
def yX (dd:List Dv) (t:Tr):Prop:=∃ (c:List Int) (os:List (List Int)) (W:Int) (S:Nat->List Int),cM c os/\0<W/\W<2 ^ 70/\(∀ a,a<os.length->fQ W c.length (S a))/\oZ W c os S=[]/\eM (cv c os S) (c.length+1)=[]/\dd=[cq c os,dv W os.length S]/\t=.tp [tx "good",bu (cY (cv c os S) (c.length+1))]
theorem O7 {f f1 f2 f3 f4:Addr} {fd aH fd2 iG rB:FuncData} {k:Nat} (F:bh K "judged" "judged" ny f fd) (T:Txt mg) (wO:Kn P w K mg base aj (k+3) "wishes" f1 aH ["table", "shares"] (spT K yg)) (MK:Kn P w K mg base aj (k+6) "full_things" f2 fd2 ["counts", "shares"] (spT K IG)) (Oh:Kn P w K mg base aj (k+1) "lined_up" f3 iG ["many", "pairs"] (spT K GL)) (Nb:Kn P w K mg base aj (k+4) "over_pairs" f4 rB ["table", "shares"] (spT K HJ)):aP P w K mg base aj (k+7) f fd ["table", "shares"] (spT K yX):=by
  refine bq F.d kx (fun dd t h=>by obtain ⟨_,_,_,_,_,_,_,_,_,_,rfl,_⟩:=h;rfl) fun dd t h=>?_
  obtain ⟨c,os,W,S,ok,w0,w1,bY,hl,hr,rfl,rfl⟩:=h
  refine ⟨_,.inl rfl,?_⟩
  have big : 1000<sizeLine:=by decide
  have o6:=ok.o6
  have c6:=ok.c6
  have fl:∀ o ∈ os,(aB c.length o).length<=7:=fun o ho=>(oq c6 (ok.nd o ho) (ok.bR o ho)).1
  have wl:=kG S fl os.length (Nat.le_refl _)
  have wl2:(kn c.length os S).length<=126:=by rw [(Ff _ _ _).length_eq];omega
  obtain ⟨N,eN⟩:∃ N,N=c.length+1:=⟨_,rfl⟩
  have ew:er (.ow ((hZ ((bK c.length os S os.length).map l3)).map fun d=>.fz (dT d)))=eQ (kn c.length os S):=by
    rw [cZ,<- T7,List.map_map];rfl
  refine az (aO 2 (bH.to (t':=ti N) (Ev.s (gV (cL T.cG (aW (d:=dis c) (ae 0 rfl) ak rfl rfl) (.inl rfl)) ak)) (by rw [List.length_map,eN];rfl)) (fun _=>kx.nd)) ?_
  refine az (aO 3 (Ev.s (Ev.as (d:=eQ (kn c.length os S)) (aM wO (by show k+3<=k+6;omega) (ah (ae 0 rfl) (ah (ae 1 rfl) ao)) ⟨c,os,W,S,ok,bY,rfl,rfl⟩) ew)) (fun _=>kx.nd)) ?_
  refine az (aO 4 (Ev.s (Ev.as (d:=dis (oY W c os.length S)) (aM MK (Nat.le_refl _) (ah (aW (d:=dis c) (ae 0 rfl) ak rfl rfl) (ah (ae 1 rfl) ao)) ⟨c,W,os.length,S,c6,w0,w1,bY,o6,rfl,rfl⟩) (dk _))) (fun _=>kx.nd)) ?_
  refine az (jU 5 (kY (dR.as (d:=eQ (oZ W c os S)) (qA (own:=["wish"]) (fr:=[4]) (kn c.length os S) (fun t=>dT (l3 t)) (fun t=>!(oY W c os.length S).contains t.2.1) (fun t=>.fz (dT (l3 t))) (ck (ae 3 rfl) rfl) (bM 0 (fun _=>by show List.Nodup (["wish", "full"]:List Str);decide)) (by decide) (by omega) (fun t ht=>?_) (fun dd=>by cases dd<;>rfl)) (cZ ..))) (fun i=>lcs ⟨rfl,rfl,by decide +kernel,by decide +kernel,by decide +kernel,by decide +kernel⟩) (fun _=>kx.nd)) ?_
  · have a1:aU ((l3 t).map di) 1=some (di t.2.1):=rfl
    exact ⟨_,rfl,fN (nk (aW (ae 0 rfl) ak rfl a1) (ae 1 rfl) rfl (by with_unfolding_all rfl)),fun _=>ae 0 rfl⟩
  have ll:(oZ W c os S).length<=126:=Nat.le_trans (List.length_filter_le _ _) wl2
  have dpl:∀ l:List (Int×Int×Int),cW (eQ l)<=50:=fun l=>Nat.le_trans (EJ (n:=1) fun d hd=>by
    obtain ⟨t,_,rfl⟩:=List.mem_map.mp hd
    exact SY _) (by decide)
  rw [<- eN] at hr
  refine az (dy (cX.to (q:=false) (Et.s (jh (ae 5 rfl) (cT ao (Nat.zero_le _)) (.inl ⟨_,_,rfl,rfl⟩) (dpl _))) (by rw [hl];rfl)) rfl) ?_
  have eo:er (Ky (gL (rC c.length os S)))=.lst ((cv c os S).map fun p=>dT (lP p)):=by rw [cZ,List.map_map];rfl
  refine az (aO 6 (bH.to (t':=bu (cY (cv c os S) N)) (Ev.s (aM Oh (by show k+1<=k+6;omega) (ah (ae 2 rfl) (ah (aM Nb (by show k+4<=k+6;omega) (ah (ae 0 rfl) (ah (ae 1 rfl) ao)) ⟨c,os,W,S,ok,bY,rfl,rfl⟩) ao)) ⟨N,cv c os S,by omega,by omega,Qb _,?_,rfl⟩)) rfl) (fun _=>kx.nd)) ?_
  rotate_left
  · show [di _,er _]=_
    rw [eo]
  have Kk:((aq N).filter fun x=>!(cY (cv c os S) N).contains x)=eM (cv c os S) N:=rfl
  refine az (jU 7 (Uu (dR.to (t':=bu (eM (cv c os S) N)) (qA (own:=["one"]) (fr:=[6]) (aq N) di (fun x=>!(cY (cv c os S) N).contains x) ti (bA.to (gv T.e8 (ae 2 rfl) ⟨by omega,by omega⟩) ?_) (bM 0 (fun _=>by show List.Nodup (["one", "order"]:List Str);decide)) (by decide) (by rw [show (aq N).length=N by unfold aq;rw [List.length_map,List.length_range]];omega) (fun x hx=>⟨_,rfl,by exact fN (nk (ae 0 rfl) (ae 1 rfl) (dk _) (by with_unfolding_all rfl)),fun _=>by exact ae 0 rfl⟩) (fun dd=>by cases dd<;>rfl)) rfl) (sF _)) (fun i=>lcs ⟨rfl,rfl,by decide +kernel,by decide +kernel,by decide +kernel,by decide +kernel⟩) (fun _=>kx.nd)) ?_
  · rw [Int.toNat_natCast]
    unfold aq
    rw [List.map_map];rfl
  have rl:(eM (cv c os S) N).length<=7:=Nat.le_trans (List.length_filter_le _ _) (by rw [show (aq N).length=N by unfold aq;rw [List.length_map,List.length_range]];omega)
  refine vE (d:=dis (eM (cv c os S) N)) 7 rfl (dk _) ?_
  rw [<- eN]
  refine az (dy (cX.to (q:=false) (Et.s (jh (ae 7 rfl) (cT ao (Nat.zero_le _)) (.inl ⟨_,_,rfl,rfl⟩) (Nat.le_trans (kI _) (by decide)))) (by show (!bV (dis _) (.lst []))=false;rw [hr];rfl)) rfl) ?_
  exact aE (RO 6 rfl (fun i=>xB (Fq (dw Fi (dw (pv 6) eT)))))
end
end bT
namespace bT
open PySem L2 ft
section
variable {P:Program} {w:World} {K:PySem.W.Frag} {mg:Str->Option Value} {base:Heap}
theorem Ec (n:Nat) (o:List Int):e9 n o=(aq n).filter fun x=>!o.contains x:=by
  unfold e9 aq
  rw [List.filter_map];rfl
abbrev mV:Stmt:=top 56
theorem Nc:bf ["_law_counts_here", "_law_order_here"] ["_law_counts_here", "_law_order_here"] (aw mV):=⟨rfl,rfl,rfl,by decide +kernel,rfl,by decide +kernel,by decide +kernel⟩
def GN (dd:List Dv) (t:Tr):Prop:=∃ c o:List Int,c.length<=6/\o.length<=6/\dd=[dis c,dis o]/\t=bu (aB c.length o)
theorem Nf {f:Addr} {fd:FuncData} {k:Nat} (F:bh K "_law_full" "_law_full" mV f fd) (T:Txt mg):aP P w K mg base aj (k+1) f fd ["_law_counts_here", "_law_order_here"] (spT K GN):=by
  refine bq F.d Nc (fun dd t h=>by obtain ⟨_,_,_,_,rfl,_⟩:=h;rfl) fun dd t h=>?_
  obtain ⟨c,o,c6,o6,rfl,rfl⟩:=h
  refine ⟨_,.inl rfl,?_⟩
  have big : 1000<sizeLine:=by decide
  have fV:(((c.map di).length:Nat):Int)=c.length:=by rw [List.length_map]
  have rl:=vX c.length o
  refine aE (bF (bH.to (Ev.s (nR (nR (ae 1 rfl) (cT (ah (cL T.cG (ae 0 rfl) (.inl rfl)) ao) (by show 1<=sizeLine;decide)) rfl rfl ?_) (kR (own:=["_law_one"]) (fr:=[1]) (aq c.length) di (fun x=>!o.contains x) ti (fun i=>lcs ⟨rfl,rfl,by decide +kernel,by decide +kernel,by decide +kernel,by decide +kernel⟩) (bA.to (gv T.e8 (cL T.cG (ae 0 rfl) (.inl rfl)) (by rw [fV];omega)) ?_) (bM 0 (fun _=>by show List.Nodup (["_law_one", "_law_order_here"]:List Str);decide)) (by decide) (by rw [sf];omega) (fun x hx=>⟨_,rfl,by exact fN (nk (ae 0 rfl) (ae 1 rfl) rfl (by with_unfolding_all rfl)),fun _=>by exact ae 0 rfl⟩) (fun dd=>by cases dd<;>rfl)) (kQ _) (dk _) ?_)) ?_))
  · show (o.map di).length+1<=sizeLine
    rw [List.length_map];omega
  · rw [fV,Int.toNat_natCast]
    unfold aq
    rw [List.map_map];rfl
  · rw [<- Ec]
    show ((o.map di)++[di _]).length+((e9 c.length o).map di).length<=sizeLine
    simp only [List.length_append,List.length_map,List.length_singleton]
    omega
  · rw [<- Ec,fV]
    unfold aB
    show Tr.ow ((((o.map di)++[di _])++((e9 c.length o).map di)).map .fz)=Tr.ow ((o++[(c.length:Int)]++e9 c.length o).map _)
    simp only [List.map_append,List.map_map]
    rfl
abbrev mW:Stmt:=top 57
theorem Ng:bf ["_law_one", "_law_other"] ["_law_one", "_law_other"] (aw mW):=⟨rfl,rfl,rfl,by decide +kernel,rfl,by decide +kernel,by decide +kernel⟩
theorem Nh {f f1:Addr} {fd aH:FuncData} {k:Nat} (F:bh K "_law_plus" "_law_plus" mW f fd) (T:Txt mg) (ML:Kn P w K mg base aj (k+2) "_law_lowest" f1 aH ["_law_top", "_law_bottom"] (spT K fb)):aP P w K mg base aj (k+3) f fd ["_law_one", "_law_other"] (spT K qm):=by
  refine bq F.d Ng (fun dd t h=>by obtain ⟨_,_,_,_,rfl,_⟩:=h;rfl) fun dd t h=>?_
  obtain ⟨p,q,⟨p1,p2,p3⟩,⟨q1,q2,q3⟩,rfl,rfl⟩:=h
  refine ⟨_,.inl rfl,?_⟩
  have dh:∀ r:Int×Int,aU [di r.1,di r.2] 0=some (di r.1):=fun _=>rfl
  have cE:∀ r:Int×Int,aU [di r.1,di r.2] 1=some (di r.2):=fun _=>rfl
  exact aE (bF (Ev.s (aM ML (Nat.le_refl _) (ah (gV (eu (aW (ae 0 rfl) ak rfl (dh p)) (aW (ae 1 rfl) ak rfl (cE q)) ⟨bC p3 (by decide),bC q2 (by decide)⟩) (eu (aW (ae 1 rfl) ak rfl (dh q)) (aW (ae 0 rfl) ak rfl (cE p)) ⟨bC q3 (by decide),bC p2 (by decide)⟩)) (ah (eu (aW (ae 0 rfl) ak rfl (cE p)) (aW (ae 1 rfl) ak rfl (cE q)) ⟨bC p2 (by decide),bC q2 (by decide)⟩) ao)) ⟨_,_,Int.mul_pos p1 q1,bC (qc p2 q2) (by decide),rfl,rfl⟩)))
abbrev mR:Stmt:=top 58
theorem MM:bf ["_law_one", "_law_other"] ["_law_one", "_law_other"] (aw mR):=⟨rfl,rfl,rfl,by decide +kernel,rfl,by decide +kernel,by decide +kernel⟩
theorem MN {f:Addr} {fd:FuncData} {k:Nat} (F:bh K "_law_under" "_law_under" mR f fd) (T:Txt mg):aP P w K mg base aj (k+1) f fd ["_law_one", "_law_other"] (spT K qd):=by
  refine bq F.d MM (fun dd t h=>by obtain ⟨_,_,_,_,rfl,_⟩:=h;rfl) fun dd t h=>?_
  obtain ⟨p,q,⟨p1,p2,p3⟩,⟨q1,q2,q3⟩,rfl,rfl⟩:=h
  refine ⟨_,.inl rfl,?_⟩
  have dh:∀ r:Int×Int,aU [di r.1,di r.2] 0=some (di r.1):=fun _=>rfl
  have cE:∀ r:Int×Int,aU [di r.1,di r.2] 1=some (di r.2):=fun _=>rfl
  exact aE (bF (Ev.s (tD (eu (aW (ae 0 rfl) ak rfl (dh p)) (aW (ae 1 rfl) ak rfl (cE q)) ⟨bC p3 (by decide),bC q2 (by decide)⟩) (eu (aW (ae 1 rfl) ak rfl (dh q)) (aW (ae 0 rfl) ak rfl (cE p)) ⟨bC q3 (by decide),bC p2 (by decide)⟩))))
abbrev mK:Stmt:=top 61
theorem rH:bf ["_law_shares", "_law_one", "_law_total", "_law_row"] ["_law_shares", "_law_one"] (aw mK):=⟨rfl,rfl,rfl,by decide +kernel,rfl,by decide +kernel,by decide +kernel⟩
theorem Mp {f f1:Addr} {fd aH:FuncData} {k:Nat} (F:bh K "_law_column" "_law_column" mK f fd) (T:Txt mg) (NM:Kn P w K mg base aj (k+3) "_law_plus" f1 aH ["_law_one", "_law_other"] (spT K qm)):aP P w K mg base aj (k+4) f fd ["_law_shares", "_law_one"] (spT K sZ):=by
  refine bq F.d rH (fun dd t h=>by obtain ⟨_,_,_,_,_,_,_,_,_,_,_,rfl,_⟩:=h;rfl) fun dd t h=>?_
  obtain ⟨W,n,A,S,x,w0,w1,bY,a6,x0,x1,rfl,rfl⟩:=h
  refine ⟨_,.inl rfl,?_⟩
  obtain ⟨ss,uF⟩:∃ ss:List Int,ss=(List.range A).map fun a=>cz (S a) x:=⟨_,rfl⟩
  have sb:∀ s ∈ ss,0<=s/\s<=W:=fun s hs=>by
    rw [uF] at hs
    obtain ⟨a,ha,rfl⟩:=List.mem_map.mp hs
    exact se (bY a (List.mem_range.mp ha)) x
  have sl:ss.length=A:=by rw [uF,List.length_map,List.length_range]
  refine az (aO 2 (bH.to (t':=tF (fW W (ss.take 0).sum)) (Ev.s (jd (dd:=[di 0,di 1]) (ah ak (ah ak ao)) rfl (by show 2<=sizeLine;decide))) (by rw [List.take_zero];show tF (0,1)=tF (fW W 0);rw [nF w0])) (fun _=>rH.nd)) ?_
  refine az (eA (bA.s (ck (ae 0 rfl) rfl)) (bM 3 (fun _=>rH.nd)) (fun j=>[some (.fz (dv W A S)),some (ti x),some (tF (fW W (ss.take j).sum)),none]) rfl (fun _=>rfl) (fun j d hd=>?_)) ?_
  · obtain ⟨a,ha,rfl⟩:=ef hd
    have ja:a=j:=by
      obtain ⟨q1,q2⟩:=List.getElem?_eq_some_iff.mp ha
      rw [List.getElem_range] at q2;exact q2.symm
    subst ja
    have hj:a<A:=by have:=(List.getElem?_eq_some_iff.mp ha).1;rw [List.length_range] at this;exact this
    have hx:ss[a]?=some (cz (S a) x):=by rw [uF,List.getElem?_map,List.getElem?_range hj];rfl
    have hb:=sb _ (List.mem_of_getElem? hx)
    have ht:=pF sb w0 a
    have aaw:(a:Int)*W<=100*W:=Int.mul_le_mul_of_nonneg_right (by omega) (by omega)
    refine ⟨_,[some (.fz (dv W A S)),some (ti x),some (tF (fW W (ss.take (a+1)).sum)),some (.fz (ic W (S a)))],rfl,?_,[3],rfl⟩
    rw [i9 hx,List.sum_append,List.sum_singleton]
    generalize (ss.take a).sum=s0 at ht
    exact aE (aO 2 (bH.to (t':=tF (fW W (s0+cz (S a) x))) (Ev.s (aM NM (Nat.le_refl _) (ah (ae 2 rfl) (ah (cm (ae 3 rfl) (ae 1 rfl) rfl (rowAt (bY a hj) x0 x1)) ao)) ⟨fW W s0,fW W (cz (S a) x),dz w0 w1 ht.1 (by omega),dz w0 w1 hb.1 (by omega),rfl,rfl⟩)) (by rw [xh w0])) (fun _=>rH.nd))
  · rw [List.length_map,List.length_range,show ss.take A=ss from List.take_of_length_le (by omega)]
    exact aE (bF (bH.to (Ev.s (ae 2 rfl)) (by unfold gM;rw [uF])))
theorem T8 {W s:Int} (h : 0<W) (s0 : 0<=s):decide (0<(fW W s).1)=decide (0<s):=by
  have c:=gx (s:=s) h
  have p:=gD (s:=s) h
  have n:=OS (s:=s) h s0
  rw [decide_eq_decide]
  constructor
  · intro z
    rcases Int.lt_or_le 0 s with q | q
    · exact q
    · have:s=0:=by omega
      rw [this,nF h] at z
      exact absurd z (by decide)
  · intro z
    rcases Int.lt_or_le 0 (fW W s).1 with q | q
    · exact q
    · have e:(fW W s).1=0:=by omega
      rw [e,Int.zero_mul] at c
      have:=Int.mul_pos z p
      omega
abbrev nLW:List Str:=["_law_counts_here", "_law_orders_here", "_law_shares", "_law_found", "_law_asker", "_law_full_here", "_law_k"]
abbrev mL:Stmt:=top 62
theorem mq:bf nLW ["_law_counts_here", "_law_orders_here", "_law_shares"] (aw mL):=⟨rfl,rfl,rfl,by decide +kernel,rfl,by decide +kernel,by decide +kernel⟩
def GO (dd:List Dv) (t:Tr):Prop:=∃ (c:List Int) (os:List (List Int)) (W:Int) (S:Nat->List Int),cM c os/\0<W/\(∀ a,a<os.length->fQ W c.length (S a))/\dd=[dis c,.lst (os.map dis),dv W os.length S]/\t=.fz (eQ (bK c.length os S os.length))
theorem Oi (F:List Int) {i:Nat} (h:i<=F.length):(List.range i).map (fun j=>F.getD j 0)=F.take i:=by
  refine List.ext_getElem? fun j=>?_
  rw [List.getElem?_map]
  rcases Nat.lt_or_ge j i with hj | hj
  · rw [List.getElem?_range hj,List.getElem?_take_of_lt hj,List.getElem?_eq_getElem (by omega)]
    show some (F.getD j 0)=_
    rw [List.getD_eq_getElem?_getD,List.getElem?_eq_getElem (by omega)];rfl
  · rw [List.getElem?_eq_none (by rw [List.length_range];exact hj),List.getElem?_eq_none (by rw [List.length_take];omega)];rfl
theorem Mq {f f1:Addr} {fd aH:FuncData} {k:Nat} (F:bh K "_law_wishes" "_law_wishes" mL f fd) (T:Txt mg) (NN:Kn P w K mg base aj (k+1) "_law_full" f1 aH ["_law_counts_here", "_law_order_here"] (spT K GN)):aP P w K mg base aj (k+2) f fd ["_law_counts_here", "_law_orders_here", "_law_shares"] (spT K GO):=by
  refine bq F.d mq (fun dd t h=>by obtain ⟨_,_,_,_,_,_,_,rfl,_⟩:=h;rfl) fun dd t h=>?_
  obtain ⟨c,os,W,S,ok,w0,bY,rfl,rfl⟩:=h
  refine ⟨_,.inl rfl,?_⟩
  have big : 1000<sizeLine:=by decide
  have o6:=ok.o6
  have c6:=ok.c6
  have fl:∀ o ∈ os,(aB c.length o).length<=7:=fun o ho=>(oq c6 (ok.nd o ho) (ok.bR o ho)).1
  refine az (aO 3 (Ev.s (Ev.as (d:=eQ []) (cT ao (Nat.zero_le _)) rfl)) (fun _=>mq.nd)) ?_
  have rl:((gJ 0 (((os.map dis).length:Nat):Int).toNat)).length=os.length:=by rw [List.length_map,List.length_range,List.length_map];omega
  refine az (eA (bA.s (gv T.e8 (cL T.cG (ae 1 rfl) (.inl rfl)) ⟨by omega,by rw [List.length_map];omega⟩)) (bM 4 (fun _=>mq.nd)) (fun k=>[some (.fz (dis c)),some (.fz (.lst (os.map dis))),some (.fz (dv W os.length S)),some (.fz (eQ (bK c.length os S k))),none,none,none]) rfl (fun _=>rfl) (fun a d hd=>?_)) ?_
  · obtain ⟨ha,rfl⟩:=pN hd
    rw [List.length_map] at ha
    have hj:a<os.length:=by omega
    rw [Int.zero_add]
    obtain ⟨o,lY⟩:∃ o,os[a]?=some o:=⟨_,List.getElem?_eq_getElem hj⟩
    have og:os.getD a []=o:=by rw [List.getD_eq_getElem?_getD,lY];rfl
    have om:=List.mem_of_getElem? lY
    have f7:=fl o om
    have R:=bY a hj
    have oR:=ok.jv om
    have wa:=kG S fl a (by omega)
    have oat:aU (os.map dis) ((a:Nat):Int)=some (dis o):=e7 (by rw [List.getElem?_map,lY];rfl)
    have sat:aU ((List.range os.length).map fun a=>ic W (S a)) ((a:Nat):Int)=some (ic W (S a)):=e7 (by rw [List.getElem?_map,List.getElem?_range hj];rfl)
    have fl2:((gJ 0 ((((aB c.length o).map di).length:Nat):Int).toNat)).length=(aB c.length o).length:=by rw [List.length_map,List.length_range,List.length_map];omega
    refine ⟨_,_,rfl,az (aO 5 (Ev.s (Ev.as (d:=dis (aB c.length o)) (aM NN (Nat.le_refl _) (ah (ae 0 rfl) (ah (cm (ae 1 rfl) (ae 4 rfl) rfl oat) ao)) ⟨c,o,c6,oR,rfl,rfl⟩) (dk _))) (fun _=>mq.nd)) (aE (eA (bA.s (gv T.e8 (cL T.cG (ae 5 rfl) (.inl rfl)) ⟨by omega,by rw [List.length_map];omega⟩)) (bM 6 (fun _=>mq.nd)) (fun i=>[some (.fz (dis c)),some (.fz (.lst (os.map dis))),some (.fz (dv W os.length S)),some (.fz (eQ (bK c.length os S a++wJ c.length o (S a) a i))),some (ti a),some (.fz (dis (aB c.length o))),none]) ?_ (fun _=>rfl) (fun i d hd=>?_))),[4,5],?_⟩
    · show [_,_,_,some (Tr.fz (eQ (bK c.length os S a++[]))),_,_,_]=_
      rw [List.append_nil];rfl
    · obtain ⟨hi,rfl⟩:=pN hd
      rw [List.length_map] at hi
      have il:i<(aB c.length o).length:=by omega
      rw [Int.zero_add]
      have hb:=pH il
      generalize uh:(aB c.length o).getD i 0=b at hb
      have bm:=(jN (ok.bR o om)).mp (List.mem_of_getElem? hb)
      have KC:aU ((aB c.length o).map di) ((i:Nat):Int)=some (di b):=e7 (by rw [List.getElem?_map,hb];rfl)
      have wj:=sY c.length o (S a) a i
      have ti7:=yW (m:=i) (by omega)
      have tk:=se R b
      have a0:aU [di (fW W (cz (S a) b)).1,di (fW W (cz (S a) b)).2] 0=some (di (fW W (cz (S a) b)).1):=rfl
      refine ⟨_,_,rfl,aE (qh (o:=.nx [some (.fz (dis c)),some (.fz (.lst (os.map dis))),some (.fz (dv W os.length S)),some (.fz (eQ (bK c.length os S a++wJ c.length o (S a) a (i+1)))),some (ti a),some (.fz (dis (aB c.length o))),some (ti i)]) (p:=decide (0<cz (S a) b)) (cX.to (Et.s (qf (aW (cm (cm (ae 2 rfl) (ae 4 rfl) rfl sat) (cm (ae 5 rfl) (ae 6 rfl) rfl KC) rfl (rowAt R bm.1 bm.2)) ak rfl a0) ak)) (T8 w0 tk.1)) (fun h=>bb.to (aE (aO 3 (Ev.s (Ev.as (d:=eQ (bK c.length os S a++wJ c.length o (S a) a (i+1))) (nR (xs:=(bK c.length os S a++wJ c.length o (S a) a i).map fun t=>dT (l3 t)) (ys:=(List.range i).map fun j=>dT [(a:Int),(aB c.length o).getD j 0,b]) (ae 3 rfl) (gC (own:=["_law_j"]) (fr:=[4,5,6]) (List.range i) (fun j=>di ((j:Nat):Int)) (fun j=>.fz (dT [(a:Int),(aB c.length o).getD j 0,b])) (fun i=>lcs ⟨rfl,rfl,by decide +kernel,by decide +kernel,by decide +kernel,by decide +kernel⟩) (bA.to (gv T.e8 (ae 6 rfl) ⟨by omega,by omega⟩) ?_) (bM 0 (fun _=>by show List.Nodup (["_law_j", "_law_asker", "_law_full_here", "_law_k"]:List Str);decide)) (by decide) (by rw [List.length_range];omega) (fun j hj=>⟨_,rfl,?_⟩) (fun dd=>by cases dd<;>rfl)) rfl (cZ ..) ?_) ?_)) (fun _=>mq.nd))) rfl) (fun h=>bb.to nC ?_)),[6],rfl⟩
      · rw [Int.toNat_natCast]
        unfold gJ
        exact List.map_congr_left fun j _=>by rw [Int.zero_add]
      · have qX:=List.mem_range.mp hj
        have jat:aU ((aB c.length o).map di) ((j:Nat):Int)=some (di ((aB c.length o).getD j 0)):=e7 (by rw [List.getElem?_map,pH (by omega)];rfl)
        exact jd (dd:=[di a,di ((aB c.length o).getD j 0),di b]) (ah (ae 1 rfl) (ah (cm (ae 2 rfl) (ae 0 rfl) rfl jat) (ah (cm (ae 2 rfl) (ae 3 rfl) rfl KC) ao))) rfl (by show 3<=sizeLine;decide)
      · rw [List.length_map,List.length_map,List.length_append,List.length_range];omega
      · have Ab:¬ cz (S a) b=0:=by have:=of_decide_eq_true h;omega
        rw [kQ,pT,uh,if_neg Ab,<- List.append_assoc]
        show Dv.lst _=Dv.lst _
        rw [List.map_append (l₂:=((aB c.length o).take i).map _),<- Oi _ (by omega:i<=(aB c.length o).length),List.map_map,List.map_map]
        rfl
      · have Ab:cz (S a) b=0:=by have:=of_decide_eq_false h;omega
        rw [pT,uh,if_pos Ab,List.append_nil]
        rfl
    · show [_,_,_,some (Tr.fz (eQ _)),_,_,_]=_
      rw [wq,og,fl2]
  · rw [rl]
    exact aE (bF (Ev.s (ae 3 rfl)))
end
end bT
namespace bT
open PySem L2 ft
section
variable {P:Program} {w:World} {K:PySem.W.Frag} {mg:Str->Option Value} {base:Heap}
theorem DC {α:Type} (p : α->Bool) {ts:List α} {j:Nat} {t : α} (h:ts[j]?=some t):(ts.take (j+1)).filter p=(ts.take j).filter p++if p t=true then [t] else []:=by
  rw [i9 h,List.filter_append]
  congr 1
  rw [List.filter_cons,List.filter_nil]
theorem RP {W:Int} {n A:Nat} {S:Nat->List Int} (w0 : 0<W) (bY:∀ a,a<A->fQ W n (S a)) (a6:A<=6) (x:Int) : 0<=gM A S x/\gM A S x<=100*W:=by
  have sb:∀ s ∈ (List.range A).map (fun a=>cz (S a) x),0<=s/\s<=W:=fun s hs=>by
    obtain ⟨a,ha,rfl⟩:=List.mem_map.mp hs
    exact se (bY a (List.mem_range.mp ha)) x
  have h:=pF sb w0 A
  rw [List.take_of_length_le (by rw [List.length_map,List.length_range];exact Nat.le_refl _)] at h
  have h2:(A:Int)*W<=100*W:=Int.mul_le_mul_of_nonneg_right (by omega) (by omega)
  exact ⟨h.1,Int.le_trans h.2 h2⟩
def jL (W:Int) (c:List Int) (A:Nat) (S:Nat->List Int) (t:Int×Int×Int):Bool:=decide (t.2.1=(c.length:Int)) || decide (gM A S t.2.1<c.getD t.2.1.toNat 0*W)
abbrev nLL:List Str:=["_law_counts_here", "_law_shares", "_law_wishes_here", "_law_found", "_law_asker", "_law_better", "_law_one"]
abbrev mX:Stmt:=top 63
theorem vK:bf nLL ["_law_counts_here", "_law_shares", "_law_wishes_here"] (aw mX):=⟨rfl,rfl,rfl,by decide +kernel,rfl,by decide +kernel,by decide +kernel⟩
def HK (dd:List Dv) (t:Tr):Prop:=∃ (c:List Int) (W:Int) (A:Nat) (S:Nat->List Int) (ts:List (Int×Int×Int)),c.length<=6/\(∀ x ∈ c,0<=x/\x<=9)/\0<W/\W<2 ^ 70/\(∀ a,a<A->fQ W c.length (S a))/\A<=6/\ts.length<=126/\(∀ t ∈ ts,0<=t.2.1/\t.2.1<=c.length)/\dd=[dis c,dv W A S,eQ ts]/\t=tW (ts.filter (jL W c A S))
theorem Ni {f f1 f2:Addr} {fd aH fd2:FuncData} {k:Nat} (F:bh K "_law_left" "_law_left" mX f fd) (T:Txt mg) (MO:Kn P w K mg base aj (k+4) "_law_column" f1 aH ["_law_shares", "_law_one"] (spT K sZ)) (vL:Kn P w K mg base aj (k+1) "_law_under" f2 fd2 ["_law_one", "_law_other"] (spT K qd)):aP P w K mg base aj (k+5) f fd ["_law_counts_here", "_law_shares", "_law_wishes_here"] (spT K HK):=by
  refine bq F.d vK (fun dd t h=>by obtain ⟨_,_,_,_,_,_,_,_,_,_,_,_,_,rfl,_⟩:=h;rfl) fun dd t h=>?_
  obtain ⟨c,W,A,S,ts,c6,c9,w0,w1,bY,a6,tl,tr,rfl,rfl⟩:=h
  refine ⟨_,.inl rfl,?_⟩
  have big : 1000<sizeLine:=by decide
  refine az (aO 3 (bH.to (t':=tW ((ts.take 0).filter (jL W c A S))) (Ev.s (cT ao (Nat.zero_le _))) rfl) (fun _=>vK.nd)) ?_
  refine az (eA (bA.s (ck (ae 2 rfl) rfl)) (pZ 4 5 6 (fun _=>vK.nd)) (fun j=>[some (.fz (dis c)),some (.fz (dv W A S)),some (.fz (eQ ts)),some (tW ((ts.take j).filter (jL W c A S))),none,none,none]) rfl (fun _=>rfl) (fun j d hd=>?_)) ?_
  · obtain ⟨t,ht,rfl⟩:=ef hd
    have tm:=List.mem_of_getElem? ht
    obtain ⟨t0,t1⟩:=tr t tm
    have cb:=RP w0 bY a6 t.2.1
    have fl:=List.length_filter_le (jL W c A S) (ts.take j)
    rw [List.length_take] at fl
    refine ⟨_,_,rfl,aE (qh (o:=.nx [some (.fz (dis c)),some (.fz (dv W A S)),some (.fz (eQ ts)),some (tW ((ts.take (j+1)).filter (jL W c A S))),some (ti t.1),some (ti t.2.1),some (ti t.2.2)]) (p:=jL W c A S t) (Et.s (Ew.et (jj (p:=decide (t.2.1=(c.length:Int))) (q:=decide (gM A S t.2.1<c.getD t.2.1.toNat 0*W)) (Et.to (gY (ae 5 rfl) (cL T.cG (ae 0 rfl) (.inl rfl))) (by rw [List.length_map])) fun hp=>(kO ?_)))) (fun h=>bb.to (aE (ng 3 rfl (Ev.s (jd (dd:=[di t.1,di t.2.1,di t.2.2]) (ah (ae 4 rfl) (ah (ae 5 rfl) (ah (ae 6 rfl) ao))) rfl (by show 3<=sizeLine;decide))) (by rw [List.length_map];omega))) ?_) (fun h=>bb.to nC ?_)),[4,5,6],rfl⟩
    · have hn:¬ t.2.1=(c.length:Int):=of_decide_eq_false hp
      have hl:t.2.1.toNat<c.length:=by omega
      have hc:c[t.2.1.toNat]?=some (c.getD t.2.1.toNat 0):=by rw [List.getD_eq_getElem?_getD,List.getElem?_eq_getElem hl];rfl
      have hb:=c9 _ (List.mem_of_getElem? hc)
      have uD:aU (c.map di) t.2.1=some (di (c.getD t.2.1.toNat 0)):=by
        rw [show t.2.1=((t.2.1.toNat:Nat):Int) by omega]
        exact e7 (by rw [List.getElem?_map,Int.toNat_natCast,hc];rfl)
      generalize c.getD t.2.1.toNat 0=cx at hb uD
      have sm:fO (cx,1):=⟨Int.one_pos,show (1:Int).natAbs<2 ^ 90 by decide,Nat.lt_of_le_of_lt (show cx.natAbs<=9 by omega) (by decide)⟩
      refine Et.to (iJ (aM vL (by show k+1<=k+4;omega) (ah (aM MO (Nat.le_refl _) (ah (ae 1 rfl) (ah (ae 5 rfl) ao)) ⟨W,c.length,A,S,t.2.1,w0,w1,bY,a6,t0,t1,rfl,rfl⟩) (ah (sQ (ah (cm (ae 0 rfl) (ae 5 rfl) rfl uD) (ah ak ao)) (by show 2<=sizeLine;decide)) ao)) ⟨fW W (gM A S t.2.1),(cx,1),dz w0 w1 cb.1 cb.2,sm,rfl,rfl⟩)) ?_
      rw [show (cx,(1:Int))=fW W (cx*W) from (iN cx).symm.trans (GK w0),si w0]
    · rw [DC _ ht,if_pos h]
      show Out.nx [_,_,_,some (Tr.ow _),_,_,_]=Out.nx [_,_,_,some (Tr.ow _),_,_,_]
      rw [List.map_append];rfl
    · rw [DC _ ht,if_neg (by rw [h];exact Bool.false_ne_true),List.append_nil];rfl
  · rw [List.length_map,List.take_length]
    exact aE (je 3 rfl)
end
end bT
namespace bT
open PySem L2 ft
section
variable {P:Program} {w:World} {K:PySem.W.Frag} {mg:Str->Option Value} {base:Heap}
theorem DE (m:Nat) (steps:List bI) (a:Int) {x:Int} (h0 : 0<=x) (h1:x<=m):cz (gZ m steps a) x=eU steps a x:=sk _ h0 (by omega)
theorem head_take {o g:List Int} {k:Nat} {y:Int} (h1:y ∈ o.take k) (h2:y ∉ g):(de o g).headD 0 ∈ o.take k:=by
  have e:de o g=de (o.take k) g++de (o.drop k) g:=by
    unfold de
    rw [<- List.filter_append,List.take_append_drop]
  have hy:y ∈ de (o.take k) g:=List.mem_filter.mpr ⟨h1,by simpa using h2⟩
  rw [e]
  cases q:de (o.take k) g with
  | nil=>rw [q] at hy;cases hy
  | cons z r =>
    have hz:z ∈ de (o.take k) g:=by rw [q];exact .head _
    exact (List.mem_filter.mp hz).1
theorem RQ {fo:List (List Int)} {l:List Int} {a:Nat} {o:List Int} (h:fo[a]?=some o):aA (au fo l) (a:Int)=(de o (bZ l)).headD 0:=by
  unfold aA au
  rw [Int.toNat_natCast,List.getD_eq_getElem?_getD,List.getElem?_map,h];rfl
theorem Qc {m:Nat} {fo:List (List Int)} {steps:List bI} (hs:∀ s ∈ steps,∃ l',l'.length=m/\s.ai=au fo l'/\0<s.len/\s.len<=WM) (sm:(steps.map bI.len).sum=WM) (a:Int):fQ WM m (gZ m steps a):=by
  have nn:∀ s ∈ steps,0<=s.len:=fun s h=>by obtain ⟨_,_,_,p,_⟩:=hs s h;omega
  refine ⟨by decide,by decide,by unfold gZ;rw [List.length_map,gS],fun t ht=>?_⟩
  unfold gZ at ht
  obtain ⟨x,_,rfl⟩:=List.mem_map.mp ht
  have:=M9 nn a x
  rw [sm] at this
  exact this
theorem RR {c:List Int} {os:List (List Int)} {S:Nat->List Int} (ok:cM c os) (h:eM (cv c os S) (c.length+1)=[]):(cY (cv c os S) (c.length+1)).Perm (aq (c.length+1))/\∀ t ∈ bK c.length os S os.length,lZ (cY (cv c os S) (c.length+1)) t.2.1 t.2.2:=by
  obtain ⟨h1,h2⟩:=Ta h
  refine ⟨h1,fun t ht=>?_⟩
  have hi:=qD ok ht
  have c6:=ok.c6
  have mp:(t.2.1.toNat,t.2.2.toNat) ∈ cv c os S:=List.mem_filter.mpr ⟨D3.mpr ⟨by show t.2.1.toNat<=6;omega,by show t.2.2.toNat<=6;omega⟩,List.contains_iff_mem.mpr (List.mem_map.mpr ⟨t,ht,rfl⟩)⟩
  have nm:∀ y:Nat,y<c.length+1->(y:Int) ∈ aq (c.length+1):=fun y hy=>List.mem_map.mpr ⟨y,List.mem_range.mpr hy,by omega⟩
  have:=h2 _ mp (nm _ (by show t.2.1.toNat<_;omega)) (nm _ (by show t.2.2.toNat<_;omega))
  rw [show (((t.2.1.toNat,t.2.2.toNat).1:Nat):Int)=t.2.1 by show ((t.2.1.toNat:Nat):Int)=_;omega,show (((t.2.1.toNat,t.2.2.toNat).2:Nat):Int)=t.2.2 by show ((t.2.2.toNat:Nat):Int)=_;omega] at this
  exact this
theorem Oj {o g:List Int} {j:Nat} {x:Int} (nd:o.Nodup) (hj:j<o.length) (hx:x ∈ o.take j) (he:(de o g).headD 0=o.getD j 0):x ∈ g:=by
  apply Classical.byContradiction
  intro hg
  have h:=head_take hx hg
  rw [he,List.getD_eq_getElem?_getD,List.getElem?_eq_getElem hj,Option.getD_some] at h
  obtain ⟨i,hi,ei⟩:=List.mem_take_iff_getElem.mp h
  have:=(List.getElem_inj nd).mp ei
  omega
structure j8 (m:Nat) (l:List Int) (p:fj):Prop where
  len:p.2.length=m
  zero:∀ y:Nat,y<m->aA l (y:Int)=0->∃ t,t<=p.1/\p.2[y]?=some (some t)
  pos:∀ y:Nat,y<m->aA l (y:Int) ≠ 0->p.2[y]?=some none
theorem sy {n m:Nat} {fo:List (List Int)} {l:List Int} {τ:Int} (hl:l.length=m) {x:Int} (h0 : 0<=x) (h1:x<m):aA (bw l (au fo l) (aR l (au fo l) τ)) x=aA l x-aR l (au fo l) τ*((au fo l).count x:Int)/\(x ∈ (eH fo l τ).fin ↔ aA (bw l (au fo l) (aR l (au fo l) τ)) x=0/\x ∈ au fo l):=by
  have lr:(bw l (au fo l) (aR l (au fo l) τ)).length=m:=by rw [kK,hl]
  refine ⟨?_,?_⟩
  · unfold bw
    exact sk _ h0 (by rw [hl];exact h1)
  · show x ∈ (bZ _).filter _ ↔ _
    rw [List.mem_filter,jb]
    constructor
    · rintro ⟨⟨_,a⟩,b⟩;exact ⟨a,by simpa using b⟩
    · rintro ⟨a,b⟩;exact ⟨⟨⟨h0,by rw [lr];exact h1⟩,a⟩,by simpa using b⟩
theorem RT {fo:List (List Int)} {l:List Int} {τ:Int} {x:Int} (h:x ∈ (eH fo l τ).fin) : 0<=x:=by
  have hx:x ∈ (bZ (bw l (au fo l) (aR l (au fo l) τ))).filter _:=h
  exact (jb.mp (List.mem_filter.mp hx).1).1.1
theorem j8.get {m:Nat} {fo:List (List Int)} {l:List Int} {τ:Int} {p:fj} (E:j8 m l p) {y:Nat} (hy:y<m):(fE p (eH fo l τ)).2[y]?=if (y:Int) ∈ (eH fo l τ).fin then some (some (p.1+aR l (au fo l) τ)) else p.2[y]? :=
  sx _ y _ _ (fun _ h=>RT h) (by rw [E.len];exact hy)
theorem j8.step {n m:Nat} {fo:List (List Int)} {l:List Int} {τ:Int} (F:fD m fo) (S:gn (n+1) m l τ) (ht : τ ≠ 0) {p:fj} (E:j8 m l p):j8 m (bw l (au fo l) (aR l (au fo l) τ)) (fE p (eH fo l τ)):=by
  have ok:=jf F S ht
  have lp:=ok.pos
  refine ⟨by show (dG _ _ _).length=m;rw [nr];exact E.len,fun y hy hz=>?_,fun y hy hz=>?_⟩
  · obtain ⟨bl,fi⟩:=sy (n:=n) (fo:=fo) (τ:=τ) S.len (x:=(y:Int)) (by omega) (by omega)
    rw [E.get hy]
    by_cases hf:(y:Int) ∈ (eH fo l τ).fin
    · rw [if_pos hf];exact ⟨_,Int.le_refl _,rfl⟩
    · rw [if_neg hf]
      have hx:(y:Int) ∉ au fo l:=fun z=>hf (fi.mpr ⟨hz,z⟩)
      rw [List.count_eq_zero.mpr hx,show ((0:Nat):Int)=0 from rfl,Int.mul_zero] at bl
      obtain ⟨t,h1,h2⟩:=E.zero y hy (by omega)
      exact ⟨t,by show t<=p.1+aR l (au fo l) τ;omega,h2⟩
  · obtain ⟨bl,fi⟩:=sy (n:=n) (fo:=fo) (τ:=τ) S.len (x:=(y:Int)) (by omega) (by omega)
    rw [E.get hy,if_neg (fun z=>hz (fi.mp z).1)]
    refine E.pos y hy fun z=>hz ?_
    rw [bl,Df F S.len (by omega) (by omega) z,z,show ((0:Nat):Int)=0 from rfl,Int.mul_zero];rfl
theorem wQ {j:Nat}:∀ {st:List bI},(∀ s ∈ st,∀ x ∈ s.fin,0<=x)->(∀ s ∈ st,(j:Int) ∉ s.fin)->∀ p:fj,j<p.2.length->(st.foldl fE p).2[j]?=p.2[j]?
  | [],_,_,_,_=>rfl
  | s::st,h0,hn,p,hj=>by
    rw [List.foldl_cons,wQ (fun t ht=>h0 t (.tail _ ht)) (fun t ht=>hn t (.tail _ ht)) (fE p s) (by show j<(dG _ _ _).length;rw [nr];exact hj)]
    show (dG _ _ _)[j]?=_
    rw [sx _ _ _ _ (h0 s (.head _)) hj,if_neg (hn s (.head _))]
theorem Ed {m:Nat} {fo:List (List Int)} (F:fD m fo) {y:Nat} (hy:y<m):∀ (n:Nat) (l:List Int) (τ:Int) (p:fj),gn n m l τ->j8 m l p->aA l (y:Int) ≠ 0->((bJ n fo l τ).foldl fE p).2[y]?=some none\/∃ t,p.1<t/\((bJ n fo l τ).foldl fE p).2[y]?=some (some t)
  | 0,l,τ,p,S,E,hz=>.inl (E.pos y hy hz)
  | n+1,l,τ,p,S,E,hz=>by
    by_cases ht : τ=0
    · rw [ht,nh];exact .inl (E.pos y hy hz)
    · have ok:=jf F S ht
      have lp:=ok.pos
      have E':=E.step F S ht
      obtain ⟨bl,fi⟩:=sy (n:=n) (fo:=fo) (τ:=τ) S.len (x:=(y:Int)) (by omega) (by omega)
      rw [ku ht,List.foldl_cons]
      by_cases hb:aA (bw l (au fo l) (aR l (au fo l) τ)) (y:Int)=0
      · right
        have hx:(y:Int) ∈ au fo l:=by
          apply Classical.byContradiction
          intro hx
          rw [List.count_eq_zero.mpr hx,show ((0:Nat):Int)=0 from rfl,Int.mul_zero] at bl
          exact hz (by omega)
        refine ⟨p.1+aR l (au fo l) τ,by omega,?_⟩
        rw [wQ (fun s hs x hx=>(pS n _ _ ok.next.len s hs x hx).1) ((wo F (by omega) (by omega) n _ _ ok.next).2.1 hb).2 _ (by rw [E'.len];exact hy),E.get hy,if_pos (fi.mpr ⟨hb,hx⟩)]
      · rcases Ed F hy n _ _ _ ok.next E' hb with h | ⟨t,h1,h2⟩
        · exact .inl h
        · exact .inr ⟨t,by have h1:p.1+aR l (au fo l) τ < t:=h1;omega,h2⟩
theorem Ee {m:Nat} {fo:List (List Int)} (F:fD m fo) {a:Nat} {o:List Int} (ha:fo[a]?=some o) {j:Nat} (hj:j<o.length) {x:Int} (hx:x ∈ o.take j):∀ (n:Nat) (l:List Int) (τ:Int) (p:fj),gn n m l τ->j8 m l p->(∃ s ∈ bJ n fo l τ,aA s.ai (a:Int)=o.getD j 0) ->
    (0<=x/\x<m)/\fB (bJ n fo l τ) x=aA l x/\∃ t,((bJ n fo l τ).foldl fE p).2[x.toNat]?=some (some t)/\(o.getD j 0=m\/((bJ n fo l τ).foldl fE p).2[(o.getD j 0).toNat]?=some none\/∃ u,((bJ n fo l τ).foldl fE p).2[(o.getD j 0).toNat]?=some (some u)/\t<u)
  | 0,l,τ,p,S,E,⟨s,hs,_⟩=>by cases hs
  | n+1,l,τ,p,S,E,he=>by
    by_cases ht : τ=0
    · obtain ⟨s,hs,_⟩:=he
      rw [ht,nh] at hs;cases hs
    have om:o ∈ fo:=List.mem_of_getElem? ha
    have oj:o.getD j 0 ∈ o:=by rw [List.getD_eq_getElem?_getD,List.getElem?_eq_getElem hj];exact List.getElem_mem _
    by_cases hs:aA (au fo l) (a:Int)=o.getD j 0
    · rw [RQ ha] at hs
      obtain ⟨⟨x0,x1⟩,xz⟩:=jb.mp (Oj (F.nd o om) hj hx hs)
      rw [S.len] at x1
      obtain ⟨e0,nf⟩:=(wo F x0 x1 (n+1) l τ S).2.1 xz
      have xe:((x.toNat:Nat):Int)=x:=by omega
      obtain ⟨t,t1,t2⟩:=E.zero x.toNat (by omega) (by rw [xe];exact xz)
      refine ⟨⟨x0,x1⟩,e0.trans xz.symm,t,?_,?_⟩
      · rw [wQ (fun s hs x hx=>(pS (n+1) _ _ S.len s hs x hx).1) (by rw [xe];exact nf) p (by rw [E.len];omega),t2]
      · by_cases hm:o.getD j 0=m
        · exact .inl hm
        · right
          have hr:=F.bR o om _ oj
          obtain ⟨y,r,e1,_,h2⟩:=wm S.len (F.none o om)
          rw [e1] at hs
          have hs:y=o.getD j 0:=hs
          rw [hs] at h2
          generalize o.getD j 0=one at hm hr h2
          have oe:((one.toNat:Nat):Int)=one:=by omega
          rcases Ed F (y:=one.toNat) (by omega) (n+1) l τ p S E (by rw [oe];exact fun z=>h2 (jb.mpr ⟨⟨hr.1,by rw [S.len];omega⟩,z⟩)) with h | ⟨u,h1,h2⟩
          · exact .inl h
          · exact .inr ⟨u,h2,by omega⟩
    · have ok:=jf F S ht
      have E':=E.step F S ht
      have gQ:∃ s ∈ bJ n fo (bw l (au fo l) (aR l (au fo l) τ)) (τ - aR l (au fo l) τ),aA s.ai (a:Int)=o.getD j 0:=by
        obtain ⟨s,h1,h2⟩:=he
        rw [ku ht] at h1
        rcases List.mem_cons.mp h1 with e | h1
        · rw [e] at h2;exact absurd h2 hs
        · exact ⟨s,h1,h2⟩
      obtain ⟨⟨x0,x1⟩,ee,rest⟩:=Ee F ha hj hx n _ _ _ ok.next E' gQ
      rw [ku ht,List.foldl_cons]
      refine ⟨⟨x0,x1⟩,?_,rest⟩
      have es:fB (eH fo l τ::bJ n fo (bw l (au fo l) (aR l (au fo l) τ)) (τ - aR l (au fo l) τ)) x=aR l (au fo l) τ*((au fo l).count x:Int)+fB (bJ n fo (bw l (au fo l) (aR l (au fo l) τ)) (τ - aR l (au fo l) τ)) x:=by
        unfold fB
        rw [List.map_cons,List.sum_cons];rfl
      rw [es,ee,(sy (n:=n) (fo:=fo) (τ:=τ) S.len x0 x1).1]
      omega
theorem xv (c:List Int) (y:Int):aA (c.map (·*WM)) y=aA c y*WM:=by
  unfold aA
  rw [List.getD_eq_getElem?_getD,List.getElem?_map,List.getD_eq_getElem?_getD]
  cases c[y.toNat]? with
  | none=>show (0:Int)=0*WM;rw [Int.zero_mul]
  | some v=>rfl
theorem T9 (c:List Int):j8 c.length (c.map (·*WM)) (eY c):=by
  have g:∀ y:Nat,y<c.length->(eY c).2[y]?=some (if aA c (y:Int)=0 then some 0 else none):=fun y hy=>by
    show (c.map _)[y]?=_
    unfold aA
    rw [List.getElem?_map,Int.toNat_natCast,List.getD_eq_getElem?_getD,List.getElem?_eq_getElem hy];rfl
  have wp : 0<WM:=by decide
  refine ⟨by show (c.map _).length=_;rw [List.length_map],fun y hy hz=>?_,fun y hy hz=>?_⟩
  · rw [xv] at hz
    rw [g y hy]
    rcases Int.mul_eq_zero.mp hz with h | h
    · rw [if_pos h];exact ⟨0,Int.le_refl _,rfl⟩
    · omega
  · rw [xv] at hz
    rw [g y hy,if_neg fun z=>hz (by rw [z,Int.zero_mul])]
abbrev mS (c:List Int) (os:List (List Int)):Nat->List Int:=fun a=>gZ c.length (bU c os) (a:Int)
abbrev endsF (c:List Int) (os:List (List Int)):List (Option Int):=(fF (bU c os) (eY c) (bU c os).length).2
theorem vQ {c:List Int} {os:List (List Int)} (ok:cM c os) {t:Int×Int×Int} (ht:t ∈ bK c.length os (mS c os) os.length):(0<=t.2.1/\t.2.1<c.length)/\fB (bU c os) t.2.1=aA c t.2.1*WM/\∃ u,(endsF c os)[t.2.1.toNat]?=some (some u)/\(t.2.2=c.length\/(endsF c os)[t.2.2.toNat]?=some none\/∃ v,(endsF c os)[t.2.2.toNat]?=some (some v)/\u<v):=by
  obtain ⟨a,j,ha,hj,hs,x,hx,rfl⟩:=wN.mp ht
  have om:os.getD a [] ∈ os:=by
    rw [List.getD_eq_getElem?_getD,List.getElem?_eq_getElem ha]
    exact List.getElem_mem _
  have fa:(os.map (aB c.length))[a]?=some (aB c.length (os.getD a [])):=by
    rw [List.getElem?_map,List.getD_eq_getElem?_getD,List.getElem?_eq_getElem ha];rfl
  have hb:=(jN (ok.bR _ om)).mp (List.mem_of_getElem? (pH hj))
  have gj:∃ s ∈ bU c os,aA s.ai (a:Int)=(aB c.length (os.getD a [])).getD j 0:=by
    apply Classical.byContradiction
    intro hn
    apply hs
    rw [DE _ _ _ hb.1 hb.2]
    unfold eU
    rw [List.filter_eq_nil_iff.mpr fun s h1 h2=>hn ⟨s,h1,of_decide_eq_true h2⟩];rfl
  have:=Ee (nM ok) fa hj hx 7 _ WM (eY c) (kF ok.c6 ok.cnt) (T9 c) gj
  rw [xv] at this
  unfold endsF fF
  rw [List.take_length]
  exact this
theorem UO {c:List Int} {os:List (List Int)} (ok:cM c os):∀ a,a<os.length->fQ WM c.length (mS c os a):=fun a _ =>
  Qc (wI (nM ok) 7 _ _ (kF ok.c6 ok.cnt)) (su (nM ok) 7 _ _ (kF ok.c6 ok.cnt)) _
theorem UP {c:List Int} {os:List (List Int)} (ok:cM c os) {x:Int} (h0 : 0<=x) (h1:x<=c.length):gM os.length (mS c os) x=fB (bU c os) x:=by
  rw [<- Oc (fun s hs=>(sv ok (nM ok) s hs).len) x]
  unfold gM aq
  rw [List.map_map]
  congr 1
  refine List.map_congr_left fun a _=>?_
  rw [DE _ _ _ h0 h1]
  show _=eU _ (0+(a:Int)) x
  rw [Int.zero_add]
theorem Fh {c:List Int} {os:List (List Int)} (ok:cM c os) {t:Int×Int×Int} (ht:t ∈ bK c.length os (mS c os) os.length):jL WM c os.length (mS c os) t=false/\(oY WM c os.length (mS c os)).contains t.2.1=true:=by
  obtain ⟨⟨x0,x1⟩,e,_⟩:=vQ ok ht
  have ec:gM os.length (mS c os) t.2.1=c.getD t.2.1.toNat 0*WM:=(UP ok x0 (by omega)).trans e
  constructor
  · unfold jL
    rw [ec,decide_eq_false (by omega),decide_eq_false (by omega)];rfl
  · refine List.contains_iff_mem.mpr (List.mem_map.mpr ⟨t.2.1.toNat,List.mem_filter.mpr ⟨List.mem_range.mpr (by omega),?_⟩,by omega⟩)
    rw [show ((t.2.1.toNat:Nat):Int)=t.2.1 by omega]
    exact decide_eq_true ec
theorem UQ {c:List Int} {os:List (List Int)} (ok:cM c os):oZ WM c os (mS c os)=[]:=by
  unfold oZ
  refine List.filter_eq_nil_iff.mpr fun t ht h=>?_
  rw [(Fh ok ((Ff _ _ _).mem_iff.mp ht)).2] at h
  cases h
theorem Td {c:List Int} {os:List (List Int)} (ok:cM c os):(bK c.length os (mS c os) os.length).filter (jL WM c os.length (mS c os))=[]:=by
  refine List.filter_eq_nil_iff.mpr fun t ht h=>?_
  rw [(Fh ok ht).1] at h
  cases h
theorem UR {c:List Int} {os:List (List Int)} (ok:cM c os):eM (cv c os (mS c os)) (c.length+1)=[]:=by
  have pre:∀ x ∈ eM (cv c os (mS c os)) (c.length+1),∃ y ∈ eM (cv c os (mS c os)) (c.length+1),∃ u,(endsF c os)[y.toNat]?=some (some u)/\(∀ v,(endsF c os)[x.toNat]?=some (some v)->u<v):=fun x hx=>by
    obtain ⟨p,h1,h2,rfl⟩:=RN hx
    obtain ⟨t,ht,rfl⟩:=Tc h1
    have hi:=qD ok ht
    obtain ⟨⟨x0,x1⟩,_,u,hu,hv⟩:=vQ ok ht
    refine ⟨_,h2,u,?_,fun v iW=>?_⟩
    · show (endsF c os)[(((t.2.1.toNat:Nat):Int)).toNat]?=_
      rw [Int.toNat_natCast];exact hu
    · have iW:(endsF c os)[(((t.2.2.toNat:Nat):Int)).toNat]?=some (some v):=iW
      rw [Int.toNat_natCast] at iW
      rcases hv with h | h | ⟨v',h,h'⟩
      · have hl:(endsF c os).length=c.length:=(pG _ _ _).trans (by show (c.map _).length=_;rw [List.length_map])
        have:=(List.getElem?_eq_some_iff.mp iW).1
        omega
      · rw [h] at iW;cases iW
      · rw [h] at iW;cases iW;exact h'
  generalize eM (cv c os (mS c os)) (c.length+1)=r at pre
  cases hr:r with
  | nil=>rfl
  | cons x0 r0 =>
    exfalso
    obtain ⟨y,hy,u,hu,_⟩:=pre x0 (by rw [hr];exact List.mem_cons_self ..)
    have mem:∀ {y u},y ∈ r->(endsF c os)[y.toNat]?=some (some u)->u ∈ r.filterMap fun y=>((endsF c os)[y.toNat]?).join:=fun hy hu=>List.mem_filterMap.mpr ⟨_,hy,by rw [hu];rfl⟩
    have m0:=mem hy hu
    have mm:oz (r.filterMap fun y=>((endsF c os)[y.toNat]?).join) ∈ r.filterMap fun y=>((endsF c os)[y.toNat]?).join:=D7 (fun z=>by rw [z] at m0;cases m0)
    obtain ⟨z,hz,ez⟩:=List.mem_filterMap.mp mm
    obtain ⟨y',cf,u',aQ,lt⟩:=pre z hz
    have ez':(endsF c os)[z.toNat]?=some (some (oz (r.filterMap fun y=>((endsF c os)[y.toNat]?).join))):=by
      cases q:(endsF c os)[z.toNat]? with
      | none=>rw [q] at ez;cases ez
      | some w =>
        rw [q] at ez
        cases w with
        | none=>cases ez
        | some w=>rw [show w=_ from Option.some.inj ez]
    have:=lt _ ez'
    have:=E7 (mem cf aQ)
    omega
end
end bT
namespace bT
open PySem L2 ft
section
variable {P:Program} {w:World} {K:PySem.W.Frag} {mg:Str->Option Value} {base:Heap}
theorem NP (m:Nat) (st:List bI) (n:Nat):nN m st n=.lst ((List.range n).map fun a=>ic WM (gZ m st ((a:Nat):Int))):=by
  unfold nN aq
  rw [List.map_map]
  congr 1
  refine List.map_congr_left fun a _=>?_
  show d9 WM (gZ m st (0+(a:Int)))=ic WM (gZ m st (a:Int))
  unfold ic
  rw [Int.zero_add,List.map_map];rfl
theorem Ef:∀ (st:List bI) (p:fj),(∀ s ∈ st,0<=s.len/\∀ x ∈ s.fin,0<=x)->0<=p.1->(∀ (j:Nat) (t:Int),p.2[j]?=some (some t)->0<=t/\t<=p.1)->∀ (j:Nat) (t:Int),(st.foldl fE p).2[j]?=some (some t)->0<=t/\t<=(st.foldl fE p).1
  | [],_,_,_,h=>h
  | s::st,p,hs,p0,h=>by
    rw [List.foldl_cons]
    have h1:=hs s (.head _)
    refine Ef st (fE p s) (fun t ht=>hs t (.tail _ ht)) (by show 0<=p.1+s.len;omega) fun j t hj=>?_
    have hj:(dG (p.1+s.len) p.2 s.fin)[j]?=some (some t):=hj
    have jl:j<p.2.length:=by
      have:=(List.getElem?_eq_some_iff.mp hj).1
      rw [nr] at this;exact this
    rw [sx _ _ _ _ h1.2 jl] at hj
    show 0<=t/\t<=p.1+s.len
    split at hj
    · cases hj;omega
    · have:=h j t hj;omega
theorem Qd {c:List Int} {os:List (List Int)} (ok:cM c os) {j:Nat} {t:Int} (h:(endsF c os)[j]?=some (some t)) : 0<=t/\t<=WM:=by
  have du:=nM ok
  have S:=kF ok.c6 ok.cnt
  have now:=Eb (bU c os) (eY c) (bU c os).length
  unfold endsF at h
  unfold fF at h now
  rw [List.take_length] at h now
  have:=Ef (bU c os) (eY c) (fun s hs=>⟨(sv ok du s hs).l0,fun x hx=>(pS 7 _ _ S.len s hs x hx).1⟩) (Int.le_refl _) (fun j t hj=>by
    have hj:(c.map fun x=>if x=0 then some (0:Int) else none)[j]?=some (some t):=hj
    rw [List.getElem?_map] at hj
    cases q:c[j]? with
    | none=>rw [q] at hj;cases hj
    | some v =>
      rw [q] at hj
      have hj:some (if v=0 then some (0:Int) else none)=some (some t):=hj
      split at hj
      · cases hj;exact ⟨Int.le_refl _,Int.le_refl _⟩
      · cases hj) j t h
  rw [now] at this
  have IE:((bU c os).map bI.len).sum=WM:=su du 7 _ _ S
  rw [IE] at this
  have z:(eY c).1=0:=rfl
  omega
abbrev mU:Stmt:=top 64
theorem MP:bf ["_law_counts_here", "_law_stops", "_law_better", "_law_one"] ["_law_counts_here", "_law_stops", "_law_better", "_law_one"] (aw mU):=⟨rfl,rfl,rfl,by decide +kernel,rfl,by decide +kernel,by decide +kernel⟩
def GP (dd:List Dv) (t:Tr):Prop:=∃ (c:List Int) (E:List (Option Int)) (x y u:Int),E.length=c.length/\(∀ (j:Nat) (t:Int),E[j]?=some (some t)->0<=t/\t<=WM)/\0<=x/\x<c.length/\E[x.toNat]?=some (some u)/\0<=y/\(y=c.length\/E[y.toNat]?=some none\/∃ v,E[y.toNat]?=some (some v)/\u<v)/\dd=[dis c,.lst (E.map dO),di x,di y]/\t=tb true
theorem MQ {f f1:Addr} {fd aH:FuncData} {k:Nat} (F:bh K "_law_ahead" "_law_ahead" mU f fd) (T:Txt mg) (vL:Kn P w K mg base aj (k+1) "_law_under" f1 aH ["_law_one", "_law_other"] (spT K qd)):aP P w K mg base aj (k+2) f fd ["_law_counts_here", "_law_stops", "_law_better", "_law_one"] (spT K GP):=by
  refine bq F.d MP (fun dd t h=>by obtain ⟨_,_,_,_,_,_,_,_,_,_,_,_,rfl,_⟩:=h;rfl) fun dd t h=>?_
  obtain ⟨c,E,x,y,u,el,eb,x0,x1,hu,y0,hy,rfl,rfl⟩:=h
  refine ⟨_,.inl rfl,?_⟩
  have at_:∀ {z:Int} {o:Option Int},0<=z->E[z.toNat]?=some o->aU (E.map dO) z=some (dO o):=fun {z o} z0 hz=>by
    rw [show z=((z.toNat:Nat):Int) by omega]
    exact e7 (by rw [List.getElem?_map,hz];rfl)
  have ax:aU (E.map dO) x=some (dF (fW WM u)):=at_ x0 hu
  have w0:=bX
  have ub:=eb _ _ hu
  refine az (dy (cX.to (q:=false) (Et.s (Ew.et (jj (gY (ae 2 rfl) (cL T.cG (ae 0 rfl) (.inl rfl))) fun _=>(kO (QL (cm (ae 1 rfl) (ae 2 rfl) rfl ax) (.inr rfl)))))) (by rw [List.length_map,decide_eq_false (by omega)];rfl)) rfl) ?_
  by_cases hn:y=(c.length:Int)
  · exact aE (bF (Ev.s (Ev.to (kU (p:=true) (q:=true) (Ev.to (x6 (ae 3 rfl) (cL T.cG (ae 0 rfl) (.inl rfl))) (by rw [List.length_map,decide_eq_true hn])) (fun h=>by cases h)) rfl)))
  · rcases hy with h | h | ⟨v,h,lt⟩
    · exact absurd h hn
    · have ay:aU (E.map dO) y=some dn:=at_ y0 h
      exact aE (bF (Ev.s (Ev.to (kU (p:=false) (q:=true) (Ev.to (x6 (ae 3 rfl) (cL T.cG (ae 0 rfl) (.inl rfl))) (by rw [List.length_map,decide_eq_false hn])) (fun _=>Ev.to (kU (p:=true) (q:=true) (Ev.to (FT (v:=.aN) (cm (ae 1 rfl) (ae 3 rfl) rfl ay)) (by rw [decide_eq_true rfl])) (fun h=>by cases h)) rfl)) rfl)))
    · have ay:aU (E.map dO) y=some (dF (fW WM v)):=at_ y0 h
      have vb:=eb _ _ h
      exact aE (bF (Ev.s (Ev.to (kU (p:=false) (q:=true) (Ev.to (x6 (ae 3 rfl) (cL T.cG (ae 0 rfl) (.inl rfl))) (by rw [List.length_map,decide_eq_false hn])) (fun _=>Ev.to (kU (p:=false) (q:=true) (QM (cm (ae 1 rfl) (ae 3 rfl) rfl ay) (.inr rfl)) (fun _=>pY (Ev.to (aM vL (Nat.le_refl _) (ah (cm (ae 1 rfl) (ae 2 rfl) rfl ax) (ah (cm (ae 1 rfl) (ae 3 rfl) rfl ay) ao)) ⟨fW WM u,fW WM v,dz bX gq ub.1 (by omega),dz bX gq vb.1 (by omega),rfl,rfl⟩) (by rw [si bX,decide_eq_true lt])))) rfl)) rfl)))
abbrev m9:Stmt:=top 38
theorem NQ:bf ["table", "shares", "bottom", "market"] ["table", "shares"] (aw m9):=⟨rfl,rfl,rfl,by decide +kernel,rfl,by decide +kernel,by decide +kernel⟩
def IH (dd:List Dv) (t:Tr):Prop:=∃ (c:List Int) (os:List (List Int)) (W:Int) (S:Nat->List Int),cM c os/\0<W/\W<2 ^ 70/\(∀ a,a<os.length->fQ W c.length (S a))/\oZ W c os S=[]/\eM (cv c os S) (c.length+1)=[]/\dd=[cq c os,dv W os.length S]/\t=tn
theorem NR {f f1:Addr} {fd aH:FuncData} {k:Nat} (F:bh K "bettered" "bettered" m9 f fd) (T:Txt mg) (wR:Kn P w K mg base aj (k+7) "judged" f1 aH ["table", "shares"] (spT K yX)):aP P w K mg base aj (k+8) f fd ["table", "shares"] (spT K IH):=by
  refine bq F.d NQ (fun dd t h=>by obtain ⟨_,_,_,_,_,_,_,_,_,_,rfl,_⟩:=h;rfl) fun dd t h=>?_
  obtain ⟨c,os,W,S,ok,w0,w1,bY,hl,hr,rfl,rfl⟩:=h
  refine ⟨_,.inl rfl,?_⟩
  have e2:er (.tp [tx "good",bu (cY (cv c os S) (c.length+1))])=.tup [ds "good",er (bu (cY (cv c os S) (c.length+1)))]:=rfl
  exact EE (nS (Et.s (SR (u:=.str "good") (v:=.str "good") (aW (aM wR (Nat.le_refl _) (ah (ae 0 rfl) (ah (ae 1 rfl) ao)) ⟨c,os,W,S,ok,w0,w1,bY,hl,hr,rfl,rfl⟩) ak e2 rfl) Fy rfl)) (decide_eq_true rfl) (aE (bF (Ev.s pW))))
theorem NS (n:Nat):(aq n).Pairwise (· <= ·):=by
  unfold aq
  rw [List.pairwise_map]
  exact (List.pairwise_lt_range (n:=n)).imp fun h=>by omega
abbrev KD:List Str:=["_law_script", "_law_many", "_law_counts_here", "_law_cells", "_law_orders_here", "_law_table", "_law_shares", "_law_stops", "_law_wishes_here", "_law_found", "_law_asker", "_law_better", "_law_one"]
abbrev g9:Stmt:=top 65
theorem gE:bf KD ["_law_script"] (aw g9):=⟨rfl,rfl,rfl,by decide +kernel,rfl,by decide +kernel,by decide +kernel⟩
theorem Te {f f1 f2 f3 f4 f5 f6 f7 f8 f9 rD rE:Addr} {fd aH fd2 iG rB z6 z7 z8 fd8 fd9 UT UU:FuncData} {k:Nat} (F:bh K "law" "law" g9 f fd) (T:Txt mg) (vA:Kn P w K mg base aj (k+1) "_law_cell_at" f1 aH ["_law_script", "_law_k"] (spT K HD)) (MR:Kn P w K mg base aj (k+2) "_law_counts" f2 fd2 ["_law_cell", "_law_many"] (spT K E6))
    (MS:Kn P w K mg base aj (k+3) "_law_orders" f3 iG ["_law_cells", "_law_many"] (spT K E5)) (Ol:Kn P w K mg base aj (k+2) "table_of" f4 rB ["counts", "orders"] (spT K Iz)) (Tf:Kn P w K mg base aj (k+6) "meal" f5 z6 ["table"] (spT K HH)) (Tg:Kn P w K mg base aj (k+6) "ends" f6 z7 ["table"] (spT K HI)) (MT:Kn P w K mg base aj (k+2) "_law_wishes" f7 z8 ["_law_counts_here", "_law_orders_here", "_law_shares"] (spT K GO))
    (wR:Kn P w K mg base aj (k+7) "judged" f8 fd8 ["table", "shares"] (spT K yX)) (NT:Kn P w K mg base aj (k+5) "_law_left" f9 fd9 ["_law_counts_here", "_law_shares", "_law_wishes_here"] (spT K HK)) (Nj:Kn P w K mg base aj (k+2) "_law_ahead" rD UT ["_law_counts_here", "_law_stops", "_law_better", "_law_one"] (spT K GP)) (Om:Kn P w K mg base aj (k+8) "bettered" rE UU ["table", "shares"] (spT K IH)):aP P w K mg base aj (k+9) f fd ["_law_script"] (spT K Im):=by
  refine bq F.d gE (fun dd t h=>by obtain ⟨_,_,rfl,_⟩:=h;rfl) fun dd t h=>?_
  obtain ⟨ns,iu,rfl,rfl⟩:=h
  refine ⟨_,.inl rfl,?_⟩
  have big : 1000<sizeLine:=by decide
  have n0:=Int.emod_nonneg (eV ns 0) (show (7:Int) ≠ 0 by decide)
  have n1:=Int.emod_lt_of_pos (eV ns 0) (show (0:Int)<7 by decide)
  obtain ⟨n,en⟩:∃ n:Nat,eV ns 0 % 7=(n:Int):=⟨(eV ns 0 % 7).toNat,by omega⟩
  have hn:n<=6:=by omega
  refine az (aO 1 (bH.to (t':=ti n) (Ev.s (fM (aM vA (by show k+1<=k+8;omega) (ah (ae 0 rfl) (ah ak ao)) ⟨ns,0,by decide,rfl,rfl⟩) ak (by decide))) (by rw [en])) (fun _=>gE.nd)) ?_
  show bb _ _ [some (.fz (dis ns)),some (ti n),none,none,none,none,none,none,none,none,none,none,none] _
  refine az (aO 2 (Ev.s (Ev.as (d:=dis (kJ (eV ns 1) n)) (aM MR (by show k+2<=k+8;omega) (ah (aM vA (by show k+1<=k+8;omega) (ah (ae 0 rfl) (ah ak ao)) ⟨ns,1,by decide,rfl,rfl⟩) (ah (ae 1 rfl) ao)) ⟨eV ns 1,n,by omega,rfl,rfl⟩) (dk _))) (fun _=>gE.nd)) ?_
  have cl:(kJ (eV ns 1) n).length=n:=by unfold kJ;rw [List.length_map];exact (pR _ _).2.2
  have KG:∀ x ∈ kJ (eV ns 1) n,0<=x/\x<=9:=fun x hx=>by
    obtain ⟨y,_,rfl⟩:=List.mem_map.mp hx
    exact RB y
  generalize kJ (eV ns 1) n=cs at cl KG
  show bb _ _ [some (.fz (dis ns)),some (ti n),some (.fz (dis cs)),none,none,none,none,none,none,none,none,none,none] _
  have e28:er (.ow ((cutD (ns.map di) (some 2) (some 8)).map .fz))=dis (cutD ns (some 2) (some 8)):=by rw [kQ,sd]
  have o4:(cutD ns (some 2) (some 8)).length<=6:=by
    have:=PK ns 2 8
    rw [show ((2:Nat):Int)=2 from rfl,show ((8:Nat):Int)=8 from rfl] at this
    rw [this,List.length_take,List.length_drop];omega
  refine az (aO 3 (Ev.s (Ev.as (d:=dis (cutD ns (some 2) (some 8))) (wy (ae 0 rfl) rfl (sE ak) (sE ak)) e28)) (fun _=>gE.nd)) ?_
  generalize cutD ns (some 2) (some 8)=gu at o4
  show bb _ _ [some (.fz (dis ns)),some (ti n),some (.fz (dis cs)),some (.fz (dis gu)),none,none,none,none,none,none,none,none,none] _
  have II:cW (er (.fz (dis gu)))<=50:=Nat.le_trans (kI gu) (by decide)
  obtain ⟨cells,c1,c6,Th⟩:∃ cells:List Int,1<=cells.length/\cells.length<=6/\Rn (Ih P w K mg base KD "law" (aw g9) f (k+8)) ((aT g9).getD 3 (.Pass ⟨0,0,0,0⟩)) [some (.fz (dis ns)),some (ti n),some (.fz (dis cs)),some (.fz (dis gu)),none,none,none,none,none,none,none,none,none] (.nx [some (.fz (dis ns)),some (ti n),some (.fz (dis cs)),some (.fz (dis cells)),none,none,none,none,none,none,none,none,none]):=by
    cases hq:gu.isEmpty with
    | true =>
      refine ⟨[eV ns 0 / 7],Nat.le_refl _,by show 1<=6;decide,nS (Et.s (sP (ae 3 rfl) (cT ao (Nat.zero_le _)) (.inl ⟨_,_,rfl,rfl⟩) II)) ?_ (aE (aO 3 (Ev.s (Ev.as (d:=dis [eV ns 0 / 7]) (cT (ah (jS (aM vA (by show k+1<=k+8;omega) (ah (ae 0 rfl) (ah ak ao)) ⟨ns,0,by decide,rfl,rfl⟩) ak ⟨by decide,rY (by decide) (by decide)⟩) ao) (by show 1<=sizeLine;decide)) rfl)) (fun _=>gE.nd)))⟩
      show bV (.lst (gu.map di)) (.lst [])=true
      rw [eq_nil,hq]
    | false =>
      refine ⟨gu,?_,o4,dy (Et.s (sP (ae 3 rfl) (cT ao (Nat.zero_le _)) (.inl ⟨_,_,rfl,rfl⟩) II)) ?_⟩
      · cases gu with
        | nil=>cases hq
        | cons _ _=>rw [List.length_cons];omega
      · show bV (.lst (gu.map di)) (.lst [])=false
        rw [eq_nil,hq]
  refine az Th ?_
  obtain ⟨ol,oo⟩:=xr cells n cells.length
  refine az (aO 4 (Ev.s (Ev.as (d:=.lst ((dD cells n cells.length).map dis)) (aM MS (by show k+3<=k+8;omega) (ah (ae 3 rfl) (ah (ae 1 rfl) ao)) ⟨cells,n,hn,by omega,rfl,rfl⟩) (kC _))) (fun _=>gE.nd)) ?_
  generalize dD cells n cells.length=os at ol oo
  have ok:cM cs os:=⟨by omega,KG,by omega,by omega,fun o ho=>(oo o ho).1,fun o ho=>by rw [cl];exact (oo o ho).2⟩
  have o6:=ok.o6
  have o1:=ok.o1
  show bb _ _ [some (.fz (dis ns)),some (ti n),some (.fz (dis cs)),some (.fz (dis cells)),some (.fz (.lst (os.map dis))),none,none,none,none,none,none,none,none] _
  have UW:er (.tp [bu cs,jk os])=cq cs os:=by
    show Dv.tup [er _,er _]=_
    rw [dk,kC];rfl
  refine az (aO 5 (Ev.s (Ev.as (d:=cq cs os) (aM Ol (by show k+2<=k+8;omega) (ah (pM T.ji (ae 2 rfl) (.inl rfl)) (ah (gC (own:=["_law_order_here"]) (fr:=[]) os dis bu (fun i=>lcs ⟨rfl,rfl,by decide +kernel,by decide +kernel,by decide +kernel,by decide +kernel⟩) (ck (ae 4 rfl) rfl) (bM 0 (fun _=>by show List.Nodup (["_law_order_here"]:List Str);decide)) (by decide) (by omega) (fun o ho=>⟨_,rfl,by exact Ev.to (pM T.ji (ae 0 rfl) (.inl rfl)) (by rw [iI])⟩) (fun dd=>by cases dd<;>rfl)) ao)) ⟨cs,os,ok,?_,rfl⟩) UW)) (fun _=>gE.nd)) ?_
  rotate_left
  · show [er (.ow _),er (.ow _)]=_
    rw [kQ,show er (Tr.ow (os.map bu))=.lst (os.map dis) from kC os]
  show bb _ _ [some (.fz (dis ns)),some (ti n),some (.fz (dis cs)),some (.fz (dis cells)),some (.fz (.lst (os.map dis))),some (.fz (cq cs os)),none,none,none,none,none,none,none] _
  have du:=nM ok
  have KH:cs.length<=6:=ok.c6
  refine az (aO 6 (bH.to (t':=.fz (.lst ((List.range os.length).map fun a=>ic WM (gZ cs.length (bU cs os) ((a:Nat):Int))))) (Ev.s (aW (d:=nN cs.length (bU cs os) os.length) (aM Tf (by show k+6<=k+8;omega) (ah (ae 5 rfl) ao) ⟨cs,os,ok,du,rfl,rfl⟩) ak rfl rfl)) (by rw [NP])) (fun _=>gE.nd)) ?_
  refine az (aO 7 (Ev.s (Ev.as (d:=.lst ((endsF cs os).map dO)) (aM Tg (by show k+6<=k+8;omega) (ah (ae 5 rfl) ao) ⟨cs,os,ok,du,rfl,rfl⟩) (cZ _ _))) (fun _=>gE.nd)) ?_
  have w0:=bX
  have w1:=gq
  have bY:=UO ok
  have hl:=UQ ok
  have hr:=UR ok
  have KI:=Td ok
  obtain ⟨gp,gb⟩:=RR ok hr
  have we:=fun t ht=>vQ (t:=t) ok ht
  have KJ:=fun j t h=>Qd (j:=j) (t:=t) ok h
  have fV:(endsF cs os).length=cs.length:=(pG _ _ _).trans (by show (cs.map _).length=_;rw [List.length_map])
  have fl:∀ o ∈ os,(aB cs.length o).length<=7:=fun o ho=>(oq KH (ok.nd o ho) (ok.bR o ho)).1
  have wl:=kG (mS cs os) fl os.length (Nat.le_refl _)
  generalize endsF cs os=E at we KJ fV
  show bb _ _ [some (.fz (dis ns)),some (ti n),some (.fz (dis cs)),some (.fz (dis cells)),some (.fz (.lst (os.map dis))),some (.fz (cq cs os)),some (.fz (dv WM os.length (mS cs os))),some (.fz (.lst (E.map dO))),none,none,none,none,none] _
  generalize mS cs os=S at bY hl hr KI gp gb we wl
  refine az (aO 8 (Ev.s (aM MT (by show k+2<=k+8;omega) (ah (ae 2 rfl) (ah (ae 4 rfl) (ah (ae 6 rfl) ao))) ⟨cs,os,WM,S,ok,w0,bY,rfl,rfl⟩)) (fun _=>gE.nd)) ?_
  have ej:er (.tp [tx "good",bu (cY (cv cs os S) (cs.length+1))])=.tup [ds "good",dis (cY (cv cs os S) (cs.length+1))]:=by rw [<- dk];rfl
  refine az (aO 9 (Ev.s (Ev.as (d:=.tup [ds "good",dis (cY (cv cs os S) (cs.length+1))]) (aM wR (by show k+7<=k+8;omega) (ah (ae 5 rfl) (ah (ae 6 rfl) ao)) ⟨cs,os,WM,S,ok,w0,w1,bY,hl,hr,rfl,rfl⟩) ej)) (fun _=>gE.nd)) ?_
  generalize cY (cv cs os S) (cs.length+1)=L at gp gb
  have a0:aU [ds "good",dis L] 0=some (ds "good"):=rfl
  have a1:aU [ds "good",dis L] 1=some (dis L):=rfl
  have ll:L.length=cs.length+1:=by rw [gp.length_eq];unfold aq;rw [List.length_map,List.length_range]
  have nd:L.Nodup:=gp.nodup_iff.mpr (rO _)
  have Ua:sortI L=aq (cs.length+1):=C3 ((sortI_perm L).trans gp) (DV L) (NS _)
  refine az (dy (cX.to (q:=false) (Et.s (Ew.et (jj (pX (iJ (sR T.rL T.Rv Pm (ae 9 rfl) (by with_unfolding_all rfl)))) fun _=>(jj (x5 (cL T.cG (ae 9 rfl) (.inr rfl)) ak) fun _=>(jj (S0 (u:=.str "good") (v:=.str "good") (aW (ae 9 rfl) ak rfl a0) Fy rfl) fun _=>(kO (pX (iJ (sR T.rL T.ji w4 (aW (ae 9 rfl) ak rfl a1) (by with_unfolding_all rfl)))))))))) (by rw [decide_eq_true (rfl:V.str "good" = V.str "good")];rfl)) rfl) ?_
  have e1:er (bu (sortI L))=dis (sortI L):=dk _
  have e2:er (Tr.ow (((List.range ((n:Int)+1).toNat).map fun i=>(0+((i:Nat):Int))).map fun n=>Tr.fz (di n)))=dis (aq (cs.length+1)):=by rw [p7,List.map_id',cl,show ((n:Int)+1).toNat=n+1 by omega];rfl
  refine az (dy (cX.to (q:=false) (Et.s (Ew.et (jj (jh (OQ T.wH (aW (ae 9 rfl) ak rfl a1) rfl (by omega)) (vF T.ji T.e8 (gV (ae 1 rfl) ak) (by omega) (by omega)) (.inl ⟨_,_,rfl,rfl⟩) (by rw [e1];exact Nat.le_trans (kI _) (by decide))) fun _=>(kO (jh (Ev.as (d:=eQ []) (aM NT (by show k+5<=k+8;omega) (ah (ae 2 rfl) (ah (ae 6 rfl) (ah (ae 8 rfl) ao))) ⟨cs,WM,os.length,S,bK cs.length os S os.length,KH,ok.cnt,w0,w1,bY,o6,by omega,fun t ht=>⟨(qD ok ht).1,(qD ok ht).2.1⟩,rfl,rfl⟩) (by rw [KI];rfl)) (cT ao (Nat.zero_le _)) (.inl ⟨_,_,rfl,rfl⟩) (by decide)))))) (by
    rw [e1,e2,Ua,wA (xg _)];rfl)) rfl) ?_
  refine az (eA (bA.s (ck (ae 8 rfl) rfl)) (pZ 10 11 12 (fun _=>gE.nd)) (fun _=>[some (.fz (dis ns)),some (ti n),some (.fz (dis cs)),some (.fz (dis cells)),some (.fz (.lst (os.map dis))),some (.fz (cq cs os)),some (.fz (dv WM os.length S)),some (.fz (.lst (E.map dO))),some (.fz (eQ (bK cs.length os S os.length))),some (.fz (.tup [ds "good",dis L])),none,none,none]) rfl (fun _=>rfl) (fun j d hd=>?_)) ?_
  · obtain ⟨t,ht,rfl⟩:=ef hd
    have tm:=List.mem_of_getElem? ht
    obtain ⟨⟨x0,x1⟩,_,u,hu,hv⟩:=we t tm
    have hi:=qD ok tm
    obtain ⟨m1,m2,lt⟩:=(RL nd).mp (gb t tm)
    refine ⟨_,_,rfl,aE (dy (cX.to (q:=false) (Et.s (Ew.et (jj (pX (iJ (aM Nj (by show k+2<=k+8;omega) (ah (ae 2 rfl) (ah (ae 7 rfl) (ah (ae 11 rfl) (ah (ae 12 rfl) ao)))) ⟨cs,E,t.2.1,t.2.2,u,fV,KJ,x0,x1,hu,hi.2.2.1,hv,rfl,rfl⟩))) fun _=>(kO (qf (DW (aW (ae 9 rfl) ak rfl a1) rfl (ae 11 rfl) m1) (DW (aW (ae 9 rfl) ak rfl a1) rfl (ae 12 rfl) m2)))))) ?_) rfl),[10,11,12],rfl⟩
    rw [decide_eq_false (by omega)];rfl
  exact aE (bF (Ev.s (Ev.to (FC (p:=true) (q:=true) (Ev.to (FT (v:=.aN) (aM Om (Nat.le_refl _) (ah (ae 5 rfl) (ah (ae 6 rfl) ao)) ⟨cs,os,WM,S,ok,w0,w1,bY,hl,hr,rfl,rfl⟩)) (by rw [decide_eq_true rfl])) fun _=>(pY (Ev.to (SA (ae 5 rfl) (sQ (ah (ae 2 rfl) (ah (ae 4 rfl) ao)) (by show 2<=sizeLine;decide)) (.inr ⟨_,_,rfl,rfl⟩) (Nat.le_trans (QJ _ _) (by decide))) (show tb (bV (cq cs os) (cq cs os))=tb true by rw [wA (QI _ _)])))) rfl)))
end
end bT
namespace bT
open PySem L2
theorem md {α:Type} {us:List α} (h:us.length=1):∃ a0,us=[a0]:=by
  rcases us with _ | ⟨a0,us⟩;· cases h
  rcases us with _ | ⟨b,us⟩
  · exact ⟨a0,rfl⟩
  · simp at h
theorem cj {α:Type} {us:List α} (h:us.length=2):∃ a0 a1,us=[a0,a1]:=by
  rcases us with _ | ⟨a0,us⟩;· cases h
  rcases us with _ | ⟨a1,us⟩;· cases h
  rcases us with _ | ⟨b,us⟩
  · exact ⟨a0,a1,rfl⟩
  · simp at h
theorem rF {α:Type} {us:List α} (h:us.length=3):∃ a0 a1 a2,us=[a0,a1,a2]:=by
  rcases us with _ | ⟨a0,us⟩;· cases h
  rcases us with _ | ⟨a1,us⟩;· cases h
  rcases us with _ | ⟨a2,us⟩;· cases h
  rcases us with _ | ⟨b,us⟩
  · exact ⟨a0,a1,a2,rfl⟩
  · simp at h
theorem us4 {α:Type} {us:List α} (h:us.length=4):∃ a0 a1 a2 a3,us=[a0,a1,a2,a3]:=by
  rcases us with _ | ⟨a0,us⟩;· cases h
  rcases us with _ | ⟨a1,us⟩;· cases h
  rcases us with _ | ⟨a2,us⟩;· cases h
  rcases us with _ | ⟨a3,us⟩;· cases h
  rcases us with _ | ⟨b,us⟩
  · exact ⟨a0,a1,a2,a3,rfl⟩
  · simp at h
theorem all_mk {l:PySem.W.OpenLaw} {w:World} {K:PySem.W.Frag} {h:Heap} {mg:Str->Option Value} {fa:Addr} (X:K.In h) (G:h.Ns mainGlobals mg) (hfa:mg "law" = some (.ref fa))
    {f1:Addr} {od1 an1:Option Addr} {sl1:Array (Option Value)} {oc1 kV1 dc1 pm1 KL ct1:Value}
    {f2:Addr} {od2 an2:Option Addr} {zD:Array (Option Value)} {oc2 kV2 dc2 pm2 KN ct2:Value}
    {f3:Addr} {od3 Ac:Option Addr} {sl3:Array (Option Value)} {oc3 Ad Ae Af uG Ag:Value}
    {uH:Addr} {do3:Value} {dd3:Option Addr} {dn3:Nat} {ds3:Array (Option Value)} {oQ:Tok}
    {f4:Addr} {od4 an4:Option Addr} {sl4:Array (Option Value)} {oc4 kV4 dc4 pm4 KO ct4:Value}
    {f5:Addr} {od5 an5:Option Addr} {sl5:Array (Option Value)} {oc5 kV5 dc5 pm5 KP ct5:Value}
    {f6:Addr} {od6 an6:Option Addr} {sl6:Array (Option Value)} {oc6 kV6 dc6 pm6 KQ ct6:Value}
    {f7:Addr} {od7 an7:Option Addr} {sl7:Array (Option Value)} {oc7 kV7 dc7 pm7 KR ct7:Value}
    {f8:Addr} {od8 an8:Option Addr} {sl8:Array (Option Value)} {oc8 kV8 dc8 pm8 KS ct8:Value}
    {f9:Addr} {od9 an9:Option Addr} {sl9:Array (Option Value)} {oc9 kV9 dc9 pm9 KU ct9:Value}
    {rD:Addr} {UX UY:Option Addr} {UZ:Array (Option Value)} {U0 U1 U2 U3 IJ U4:Value}
    {rE:Addr} {U5 U6:Option Addr} {U7:Array (Option Value)} {U8 U9 Va Vb IK Vc:Value}
    {Ah:Addr} {Vd Ve:Option Addr} {Vf:Array (Option Value)} {Vg Vh Vi Vj IL Vk:Value}
    {Ai:Addr} {Vl Vm:Option Addr} {Vn:Array (Option Value)} {Vo Vp Vq Vr IM Vs:Value}
    {Aj:Addr} {Vt Vu:Option Addr} {Vv:Array (Option Value)} {Vw Vx Vy Vz IP VA:Value}
    {Ak:Addr} {VB VC:Option Addr} {VD:Array (Option Value)} {VE VF VG VH IQ VI:Value}
    {Al:Addr} {VJ VL:Option Addr} {VM:Array (Option Value)} {VN VO VP VQ IT VR:Value}
    {Am:Addr} {VS VU:Option Addr} {VV:Array (Option Value)} {VW VX VY VZ IU V0:Value}
    {An:Addr} {V1 V2:Option Addr} {V3:Array (Option Value)} {V4 V5 V6 V7 IV V8:Value}
    {Ao:Addr} {V9 Wa:Option Addr} {Wb:Array (Option Value)} {Wc Wd We Wf IW Wg:Value}
    {Ap:Addr} {Wh Wi:Option Addr} {Wj:Array (Option Value)} {Wk Wl Wm Wn IX Wo:Value}
    {Aq:Addr} {Wq Wr:Option Addr} {Ws:Array (Option Value)} {Wt Wu Wv Ww IY Wx:Value}
    {Ar:Addr} {Wy Wz:Option Addr} {WB:Array (Option Value)} {WC WD WG WH IZ WK:Value}
    {As:Addr} {WL WN:Option Addr} {WO:Array (Option Value)} {WQ WR WT WU I0 WV:Value}
    {Au:Addr} {WW WX:Option Addr} {WY:Array (Option Value)} {WZ W0 W2 W3 Ja W4:Value}
    {Av:Addr} {W5 W6:Option Addr} {W7:Array (Option Value)} {W8 W9 Xa Xb Jb Xc:Value}
    {Aw:Addr} {Xd Xe:Option Addr} {Xf:Array (Option Value)} {Xg Xh Xi Xj Jc Xk:Value}
    {Ax:Addr} {Xl Xm:Option Addr} {Xn:Array (Option Value)} {Xo Xp Xq Xr Jd Xs:Value}
    {Ay:Addr} {Xu Xv:Option Addr} {Xw:Array (Option Value)} {Xx Xy Xz XA Je XB:Value}
    {Az:Addr} {XC XD:Option Addr} {XF:Array (Option Value)} {XG XH XI XJ Jf XM:Value}
    {AA:Addr} {XN XO:Option Addr} {XQ:Array (Option Value)} {XR XS XT XU Jg XW:Value}
    {AB:Addr} {XX XY:Option Addr} {XZ:Array (Option Value)} {X0 X1 X2 X3 Jh X4:Value}
    {AD:Addr} {X5 X6:Option Addr} {X7:Array (Option Value)} {X8 X9 Yb Yc Ji Yd:Value}
    {AF:Addr} {Ye Yg:Option Addr} {Yh:Array (Option Value)} {Yi Yj Yk Yl Jj Ym:Value}
    {AG:Addr} {Yn Yo:Option Addr} {Yp:Array (Option Value)} {Yq Yr Ys Yt Jk Yu:Value}
    {AH:Addr} {Yv Yw:Option Addr} {Yx:Array (Option Value)} {Yy Yz YB YC Jl YD:Value}
    {AI:Addr} {YF YG:Option Addr} {YH:Array (Option Value)} {YJ YK YL YM Jm YN:Value}
    {AJ:Addr} {YQ YR:Option Addr} {YS:Array (Option Value)} {YT YV YW YX Jn YY:Value}
    {AK:Addr} {YZ Y0:Option Addr} {Y1:Array (Option Value)} {Y2 Y3 Y4 Y5 Jo Y6:Value}
    {AO:Addr} {Y7 Y8:Option Addr} {Y9:Array (Option Value)} {Za Zb Zc Zd Jp Ze:Value}
    {AQ:Addr} {Zf Zg:Option Addr} {Zh:Array (Option Value)} {Zi Zj Zk Zm Jq Zn:Value}
    {AR:Addr} {Zo Zq:Option Addr} {Zr:Array (Option Value)} {Zt Zu Zv Zw Jr Zx:Value}
    {AU:Addr} {Zy Zz:Option Addr} {ZA:Array (Option Value)} {ZC ZD ZE ZF Js ZG:Value}
    {AV:Addr} {ZH Jt:Option Addr} {ZI:Array (Option Value)} {ZJ Ju Jv Jw yY Jx:Value}
    {gt1:Tok} {gt2:Tok}
    (a1:PySem.W.nsIn K mainGlobals "is_whole" = some (some (.ref f1)))
    (l1:K.lookup f1=some ⟨oc1,od1,.func (PySem.W.fnOf "is_whole" "is_whole" (aV mZ) (aT mZ) (aw mZ) .none kV1 dc1 pm1 an1 KL ct1),sl1⟩)
    (c1:PySem.W.codeIn K KL "is_whole" = true)
    (k1:PySem.W.keepIn K (.ref f1)=true)
    (a2:PySem.W.nsIn K mainGlobals "common_part" = some (some (.ref f2)))
    (l2:K.lookup f2=some ⟨oc2,od2,.func (PySem.W.fnOf "common_part" "common_part" (aV mz) (aT mz) (aw mz) .none kV2 dc2 pm2 an2 KN ct2),zD⟩)
    (c2:PySem.W.codeIn K KN "common_part" = true)
    (k2:PySem.W.keepIn K (.ref f2)=true)
    (a3:PySem.W.nsIn K mainGlobals "fraction" = some (some (.ref f3)))
    (l3:K.lookup f3=some ⟨oc3,od3,.func (PySem.W.fnOf "fraction" "fraction" (aV gw) (aT gw) (aw gw) (.ref uH) Ad Ae Af Ac uG Ag),sl3⟩)
    (d3:K.lookup uH=some ⟨do3,dd3,.seq #[.int 1 oQ] dn3,ds3⟩)
    (c3:PySem.W.codeIn K uG "fraction" = true)
    (k3:PySem.W.keepIn K (.ref f3)=true)
    (a4:PySem.W.nsIn K mainGlobals "plus" = some (some (.ref f4)))
    (l4:K.lookup f4=some ⟨oc4,od4,.func (PySem.W.fnOf "plus" "plus" (aV nW) (aT nW) (aw nW) .none kV4 dc4 pm4 an4 KO ct4),sl4⟩)
    (c4:PySem.W.codeIn K KO "plus" = true)
    (k4:PySem.W.keepIn K (.ref f4)=true)
    (a5:PySem.W.nsIn K mainGlobals "minus" = some (some (.ref f5)))
    (l5:K.lookup f5=some ⟨oc5,od5,.func (PySem.W.fnOf "minus" "minus" (aV nJ) (aT nJ) (aw nJ) .none kV5 dc5 pm5 an5 KP ct5),sl5⟩)
    (c5:PySem.W.codeIn K KP "minus" = true)
    (k5:PySem.W.keepIn K (.ref f5)=true)
    (a6:PySem.W.nsIn K mainGlobals "times" = some (some (.ref f6)))
    (l6:K.lookup f6=some ⟨oc6,od6,.func (PySem.W.fnOf "times" "times" (aV nK) (aT nK) (aw nK) .none kV6 dc6 pm6 an6 KQ ct6),sl6⟩)
    (c6:PySem.W.codeIn K KQ "times" = true)
    (k6:PySem.W.keepIn K (.ref f6)=true)
    (a7:PySem.W.nsIn K mainGlobals "over" = some (some (.ref f7)))
    (l7:K.lookup f7=some ⟨oc7,od7,.func (PySem.W.fnOf "over" "over" (aV nX) (aT nX) (aw nX) .none kV7 dc7 pm7 an7 KR ct7),sl7⟩)
    (c7:PySem.W.codeIn K KR "over" = true)
    (k7:PySem.W.keepIn K (.ref f7)=true)
    (a8:PySem.W.nsIn K mainGlobals "under" = some (some (.ref f8)))
    (l8:K.lookup f8=some ⟨oc8,od8,.func (PySem.W.fnOf "under" "under" (aV nL) (aT nL) (aw nL) .none kV8 dc8 pm8 an8 KS ct8),sl8⟩)
    (c8:PySem.W.codeIn K KS "under" = true)
    (k8:PySem.W.keepIn K (.ref f8)=true)
    (a9:PySem.W.nsIn K mainGlobals "sum_of" = some (some (.ref f9)))
    (l9:K.lookup f9=some ⟨oc9,od9,.func (PySem.W.fnOf "sum_of" "sum_of" (aV nq) (aT nq) (aw nq) .none kV9 dc9 pm9 an9 KU ct9),sl9⟩)
    (c9:PySem.W.codeIn K KU "sum_of" = true)
    (k9:PySem.W.keepIn K (.ref f9)=true)
    (lN:PySem.W.nsIn K mainGlobals "least_of" = some (some (.ref rD)))
    (l10:K.lookup rD=some ⟨U0,UX,.func (PySem.W.fnOf "least_of" "least_of" (aV m4) (aT m4) (aw m4) .none U1 U2 U3 UY IJ U4),UZ⟩)
    (AW:PySem.W.codeIn K IJ "least_of" = true)
    (uI:PySem.W.keepIn K (.ref rD)=true)
    (AX:PySem.W.nsIn K mainGlobals "check_orders" = some (some (.ref rE)))
    (AY:K.lookup rE=some ⟨U8,U5,.func (PySem.W.fnOf "check_orders" "check_orders" (aV mh) (aT mh) (aw mh) .none U9 Va Vb U6 IK Vc),U7⟩)
    (AZ:PySem.W.codeIn K IK "check_orders" = true)
    (uJ:PySem.W.keepIn K (.ref rE)=true)
    (A0:PySem.W.nsIn K mainGlobals "table_of" = some (some (.ref Ah)))
    (A3:K.lookup Ah=some ⟨Vg,Vd,.func (PySem.W.fnOf "table_of" "table_of" (aV m3) (aT m3) (aw m3) .none Vh Vi Vj Ve IL Vk),Vf⟩)
    (A4:PySem.W.codeIn K IL "table_of" = true)
    (uK:PySem.W.keepIn K (.ref Ah)=true)
    (A5:PySem.W.nsIn K mainGlobals "full_order" = some (some (.ref Ai)))
    (A6:K.lookup Ai=some ⟨Vo,Vl,.func (PySem.W.fnOf "full_order" "full_order" (aV mM) (aT mM) (aw mM) .none Vp Vq Vr Vm IM Vs),Vn⟩)
    (A7:PySem.W.codeIn K IM "full_order" = true)
    (uM:PySem.W.keepIn K (.ref Ai)=true)
    (A8:PySem.W.nsIn K mainGlobals "first_left" = some (some (.ref Aj)))
    (A9:K.lookup Aj=some ⟨Vw,Vt,.func (PySem.W.fnOf "first_left" "first_left" (aV mN) (aT mN) (aw mN) .none Vx Vy Vz Vu IP VA),Vv⟩)
    (Ba:PySem.W.codeIn K IP "first_left" = true)
    (uN:PySem.W.keepIn K (.ref Aj)=true)
    (Bb:PySem.W.nsIn K mainGlobals "dealt_of" = some (some (.ref Ak)))
    (Bc:K.lookup Ak=some ⟨VE,VB,.func (PySem.W.fnOf "dealt_of" "dealt_of" (aV m7) (aT m7) (aw m7) .none VF VG VH VC IQ VI),VD⟩)
    (Bd:PySem.W.codeIn K IQ "dealt_of" = true)
    (uO:PySem.W.keepIn K (.ref Ak)=true)
    (Be:PySem.W.nsIn K mainGlobals "wishes" = some (some (.ref Al)))
    (Bf:K.lookup Al=some ⟨VN,VJ,.func (PySem.W.fnOf "wishes" "wishes" (aV nu) (aT nu) (aw nu) .none VO VP VQ VL IT VR),VM⟩)
    (c16:PySem.W.codeIn K IT "wishes" = true)
    (uP:PySem.W.keepIn K (.ref Al)=true)
    (Bg:PySem.W.nsIn K mainGlobals "over_pairs" = some (some (.ref Am)))
    (Bh:K.lookup Am=some ⟨VW,VS,.func (PySem.W.fnOf "over_pairs" "over_pairs" (aV mQ) (aT mQ) (aw mQ) .none VX VY VZ VU IU V0),VV⟩)
    (Bi:PySem.W.codeIn K IU "over_pairs" = true)
    (uQ:PySem.W.keepIn K (.ref Am)=true)
    (Bj:PySem.W.nsIn K mainGlobals "full_things" = some (some (.ref An)))
    (Bk:K.lookup An=some ⟨V4,V1,.func (PySem.W.fnOf "full_things" "full_things" (aV mJ) (aT mJ) (aw mJ) .none V5 V6 V7 V2 IV V8),V3⟩)
    (Bl:PySem.W.codeIn K IV "full_things" = true)
    (uR:PySem.W.keepIn K (.ref An)=true)
    (Bm:PySem.W.nsIn K mainGlobals "lined_up" = some (some (.ref Ao)))
    (Bn:K.lookup Ao=some ⟨Wc,V9,.func (PySem.W.fnOf "lined_up" "lined_up" (aV m8) (aT m8) (aw m8) .none Wd We Wf Wa IW Wg),Wb⟩)
    (Bo:PySem.W.codeIn K IW "lined_up" = true)
    (uU:PySem.W.keepIn K (.ref Ao)=true)
    (Bp:PySem.W.nsIn K mainGlobals "judged" = some (some (.ref Ap)))
    (Bq:K.lookup Ap=some ⟨Wk,Wh,.func (PySem.W.fnOf "judged" "judged" (aV ny) (aT ny) (aw ny) .none Wl Wm Wn Wi IX Wo),Wj⟩)
    (Br:PySem.W.codeIn K IX "judged" = true)
    (uV:PySem.W.keepIn K (.ref Ap)=true)
    (Bs:PySem.W.nsIn K mainGlobals "bettered" = some (some (.ref Aq)))
    (Bt:K.lookup Aq=some ⟨Wt,Wq,.func (PySem.W.fnOf "bettered" "bettered" (aV m9) (aT m9) (aw m9) .none Wu Wv Ww Wr IY Wx),Ws⟩)
    (Bu:PySem.W.codeIn K IY "bettered" = true)
    (uW:PySem.W.keepIn K (.ref Aq)=true)
    (Bv:PySem.W.nsIn K mainGlobals "next_length" = some (some (.ref Ar)))
    (Bw:K.lookup Ar=some ⟨WC,Wy,.func (PySem.W.fnOf "next_length" "next_length" (aV mH) (aT mH) (aw mH) .none WD WG WH Wz IZ WK),WB⟩)
    (Bx:PySem.W.codeIn K IZ "next_length" = true)
    (uX:PySem.W.keepIn K (.ref Ar)=true)
    (By:PySem.W.nsIn K mainGlobals "left_behind" = some (some (.ref As)))
    (Bz:K.lookup As=some ⟨WQ,WL,.func (PySem.W.fnOf "left_behind" "left_behind" (aV mI) (aT mI) (aw mI) .none WR WT WU WN I0 WV),WO⟩)
    (BA:PySem.W.codeIn K I0 "left_behind" = true)
    (uY:PySem.W.keepIn K (.ref As)=true)
    (BC:PySem.W.nsIn K mainGlobals "ended_things" = some (some (.ref Au)))
    (BD:K.lookup Au=some ⟨WZ,WW,.func (PySem.W.fnOf "ended_things" "ended_things" (aV mn) (aT mn) (aw mn) .none W0 W2 W3 WX Ja W4),WY⟩)
    (BE:PySem.W.codeIn K Ja "ended_things" = true)
    (uZ:PySem.W.keepIn K (.ref Au)=true)
    (BF:PySem.W.nsIn K mainGlobals "meal_steps" = some (some (.ref Av)))
    (BG:K.lookup Av=some ⟨W8,W5,.func (PySem.W.fnOf "meal_steps" "meal_steps" (aV mP) (aT mP) (aw mP) .none W9 Xa Xb W6 Jb Xc),W7⟩)
    (BH:PySem.W.codeIn K Jb "meal_steps" = true)
    (u0:PySem.W.keepIn K (.ref Av)=true)
    (BI:PySem.W.nsIn K mainGlobals "eaten_by" = some (some (.ref Aw)))
    (BJ:K.lookup Aw=some ⟨Xg,Xd,.func (PySem.W.fnOf "eaten_by" "eaten_by" (aV m5) (aT m5) (aw m5) .none Xh Xi Xj Xe Jc Xk),Xf⟩)
    (BK:PySem.W.codeIn K Jc "eaten_by" = true)
    (u3:PySem.W.keepIn K (.ref Aw)=true)
    (BL:PySem.W.nsIn K mainGlobals "meal" = some (some (.ref Ax)))
    (BM:K.lookup Ax=some ⟨Xo,Xl,.func (PySem.W.fnOf "meal" "meal" (aV nY) (aT nY) (aw nY) .none Xp Xq Xr Xm Jd Xs),Xn⟩)
    (BO:PySem.W.codeIn K Jd "meal" = true)
    (u5:PySem.W.keepIn K (.ref Ax)=true)
    (BP:PySem.W.nsIn K mainGlobals "ends" = some (some (.ref Ay)))
    (gu:K.lookup Ay=some ⟨Xx,Xu,.func (PySem.W.fnOf "ends" "ends" (aV nZ) (aT nZ) (aw nZ) .none Xy Xz XA Xv Je XB),Xw⟩)
    (o4:PySem.W.codeIn K Je "ends" = true)
    (u9:PySem.W.keepIn K (.ref Ay)=true)
    (BQ:PySem.W.nsIn K mainGlobals "_law_cell_at" = some (some (.ref Az)))
    (BR:K.lookup Az=some ⟨XG,XC,.func (PySem.W.fnOf "_law_cell_at" "_law_cell_at" (aV mj) (aT mj) (aw mj) .none XH XI XJ XD Jf XM),XF⟩)
    (BU:PySem.W.codeIn K Jf "_law_cell_at" = true)
    (va:PySem.W.keepIn K (.ref Az)=true)
    (BV:PySem.W.nsIn K mainGlobals "_law_stream" = some (some (.ref AA)))
    (BW:K.lookup AA=some ⟨XR,XN,.func (PySem.W.fnOf "_law_stream" "_law_stream" (aV mB) (aT mB) (aw mB) .none XS XT XU XO Jg XW),XQ⟩)
    (BX:PySem.W.codeIn K Jg "_law_stream" = true)
    (vd:PySem.W.keepIn K (.ref AA)=true)
    (BZ:PySem.W.nsIn K mainGlobals "_law_order" = some (some (.ref AB)))
    (B3:K.lookup AB=some ⟨X0,XX,.func (PySem.W.fnOf "_law_order" "_law_order" (aV mO) (aT mO) (aw mO) .none X1 X2 X3 XY Jh X4),XZ⟩)
    (B4:PySem.W.codeIn K Jh "_law_order" = true)
    (ve:PySem.W.keepIn K (.ref AB)=true)
    (B5:PySem.W.nsIn K mainGlobals "_law_orders" = some (some (.ref AD)))
    (B6:K.lookup AD=some ⟨X8,X5,.func (PySem.W.fnOf "_law_orders" "_law_orders" (aV mE) (aT mE) (aw mE) .none X9 Yb Yc X6 Ji Yd),X7⟩)
    (B7:PySem.W.codeIn K Ji "_law_orders" = true)
    (vf:PySem.W.keepIn K (.ref AD)=true)
    (B8:PySem.W.nsIn K mainGlobals "_law_counts" = some (some (.ref AF)))
    (B9:K.lookup AF=some ⟨Yi,Ye,.func (PySem.W.fnOf "_law_counts" "_law_counts" (aV mF) (aT mF) (aw mF) .none Yj Yk Yl Yg Jj Ym),Yh⟩)
    (Ca:PySem.W.codeIn K Jj "_law_counts" = true)
    (vg:PySem.W.keepIn K (.ref AF)=true)
    (Cb:PySem.W.nsIn K mainGlobals "_law_divisor" = some (some (.ref AG)))
    (Cd:K.lookup AG=some ⟨Yq,Yn,.func (PySem.W.fnOf "_law_divisor" "_law_divisor" (aV ml) (aT ml) (aw ml) .none Yr Ys Yt Yo Jk Yu),Yp⟩)
    (Ce:PySem.W.codeIn K Jk "_law_divisor" = true)
    (vh:PySem.W.keepIn K (.ref AG)=true)
    (Cg:PySem.W.nsIn K mainGlobals "_law_lowest" = some (some (.ref AH)))
    (Ci:K.lookup AH=some ⟨Yy,Yv,.func (PySem.W.fnOf "_law_lowest" "_law_lowest" (aV mG) (aT mG) (aw mG) .none Yz YB YC Yw Jl YD),Yx⟩)
    (Cj:PySem.W.codeIn K Jl "_law_lowest" = true)
    (vi:PySem.W.keepIn K (.ref AH)=true)
    (Ck:PySem.W.nsIn K mainGlobals "_law_full" = some (some (.ref AI)))
    (Cm:K.lookup AI=some ⟨YJ,YF,.func (PySem.W.fnOf "_law_full" "_law_full" (aV mV) (aT mV) (aw mV) .none YK YL YM YG Jm YN),YH⟩)
    (Cp:PySem.W.codeIn K Jm "_law_full" = true)
    (vj:PySem.W.keepIn K (.ref AI)=true)
    (Cq:PySem.W.nsIn K mainGlobals "_law_plus" = some (some (.ref AJ)))
    (Cr:K.lookup AJ=some ⟨YT,YQ,.func (PySem.W.fnOf "_law_plus" "_law_plus" (aV mW) (aT mW) (aw mW) .none YV YW YX YR Jn YY),YS⟩)
    (Ct:PySem.W.codeIn K Jn "_law_plus" = true)
    (vk:PySem.W.keepIn K (.ref AJ)=true)
    (Cu:PySem.W.nsIn K mainGlobals "_law_under" = some (some (.ref AK)))
    (Cv:K.lookup AK=some ⟨Y2,YZ,.func (PySem.W.fnOf "_law_under" "_law_under" (aV mR) (aT mR) (aw mR) .none Y3 Y4 Y5 Y0 Jo Y6),Y1⟩)
    (Cw:PySem.W.codeIn K Jo "_law_under" = true)
    (vm:PySem.W.keepIn K (.ref AK)=true)
    (Cy:PySem.W.nsIn K mainGlobals "_law_column" = some (some (.ref AO)))
    (Cz:K.lookup AO=some ⟨Za,Y7,.func (PySem.W.fnOf "_law_column" "_law_column" (aV mK) (aT mK) (aw mK) .none Zb Zc Zd Y8 Jp Ze),Y9⟩)
    (CA:PySem.W.codeIn K Jp "_law_column" = true)
    (vo:PySem.W.keepIn K (.ref AO)=true)
    (CB:PySem.W.nsIn K mainGlobals "_law_wishes" = some (some (.ref AQ)))
    (CC:K.lookup AQ=some ⟨Zi,Zf,.func (PySem.W.fnOf "_law_wishes" "_law_wishes" (aV mL) (aT mL) (aw mL) .none Zj Zk Zm Zg Jq Zn),Zh⟩)
    (CD:PySem.W.codeIn K Jq "_law_wishes" = true)
    (vp:PySem.W.keepIn K (.ref AQ)=true)
    (CF:PySem.W.nsIn K mainGlobals "_law_left" = some (some (.ref AR)))
    (CG:K.lookup AR=some ⟨Zt,Zo,.func (PySem.W.fnOf "_law_left" "_law_left" (aV mX) (aT mX) (aw mX) .none Zu Zv Zw Zq Jr Zx),Zr⟩)
    (CH:PySem.W.codeIn K Jr "_law_left" = true)
    (vq:PySem.W.keepIn K (.ref AR)=true)
    (CI:PySem.W.nsIn K mainGlobals "_law_ahead" = some (some (.ref AU)))
    (CJ:K.lookup AU=some ⟨ZC,Zy,.func (PySem.W.fnOf "_law_ahead" "_law_ahead" (aV mU) (aT mU) (aw mU) .none ZD ZE ZF Zz Js ZG),ZA⟩)
    (CK:PySem.W.codeIn K Js "_law_ahead" = true)
    (vt:PySem.W.keepIn K (.ref AU)=true)
    (CL:PySem.W.nsIn K mainGlobals "law" = some (some (.ref AV)))
    (CM:K.lookup AV=some ⟨ZJ,ZH,.func (PySem.W.fnOf "law" "law" (aV g9) (aT g9) (aw g9) .none Ju Jv Jw Jt yY Jx),ZI⟩)
    (CN:PySem.W.codeIn K yY "law" = true)
    (CO:PySem.W.keepIn K (.ref AV)=true)
    (vM:PySem.W.nsIn K mainGlobals "isinstance" = some none)
    (yh:PySem.W.nsIn K mainGlobals "int" = some none)
    (xV:PySem.W.nsIn K mainGlobals "bool" = some none)
    (xW:PySem.W.nsIn K mainGlobals "list" = some none)
    (xx:PySem.W.nsIn K mainGlobals "tuple" = some none)
    (yi:PySem.W.nsIn K mainGlobals "len" = some none)
    (xA:PySem.W.nsIn K mainGlobals "range" = some none)
    (yj:PySem.W.nsIn K mainGlobals "zip" = some none)
    (yk:PySem.W.nsIn K mainGlobals "any" = some none)
    (vN:PySem.W.nsIn K mainGlobals "enumerate" = some none)
    (yl:PySem.W.nsIn K mainGlobals "set" = some none)
    (ym:PySem.W.nsIn K mainGlobals "abs" = some none)
    (yo:PySem.W.nsIn K mainGlobals "sum" = some none)
    (wU:PySem.W.nsIn K mainGlobals "sorted" = some none)
    (vR:PySem.W.nsIn K mainGlobals "reversed" = some none)
    (yp:PySem.W.nsIn K mainGlobals "str" = some none)
    (yq:PySem.W.nsIn K mainGlobals "min" = some none)
    (qa:PySem.W.nsIn K mainGlobals "MOST" = some (some (.int 6 gt1)))
    (o8:PySem.W.nsIn K mainGlobals "MOST_COUNT" = some (some (.int 9 gt2)))
    : ∃ fd:FuncData,(∀ (s:Shared) (v:Value),BindsTo s fd ⟨[v],[]⟩ [("_law_script",v)])/\∀ base:Heap,K.In base->base.Ns mainGlobals mg->aP l.prog w K mg base aj 9 fa fd ["_law_script"] (tH K):=by
  have e:=hfa.symm.trans (PySem.W.mg_of X G CL)
  cases e
  have T:Txt mg:=⟨PySem.W.mg_none_of X G vM,PySem.W.mg_none_of X G yh,PySem.W.mg_none_of X G xV,PySem.W.mg_none_of X G xW,PySem.W.mg_none_of X G xx,PySem.W.mg_none_of X G yi,PySem.W.mg_none_of X G xA,PySem.W.mg_none_of X G yj,PySem.W.mg_none_of X G yk,PySem.W.mg_none_of X G vN,PySem.W.mg_none_of X G yl,PySem.W.mg_none_of X G ym,PySem.W.mg_none_of X G yo,PySem.W.mg_none_of X G wU,PySem.W.mg_none_of X G vR,PySem.W.mg_none_of X G yp,PySem.W.mg_none_of X G yq,⟨_,PySem.W.mg_of X G qa⟩,⟨_,PySem.W.mg_of X G o8⟩⟩
  have F1:=bt (st:=mZ) l1 c1 k1
  have b1:=F1.binds (ps:=["number"]) fun _ _ _ _ _ _ us hl=>by
    obtain ⟨_,rfl⟩:=md hl
    rfl
  have F2:=bt (st:=mz) l2 c2 k2
  have b2:=F2.binds (ps:=["one", "other"]) fun _ _ _ _ _ _ us hl=>by
    obtain ⟨_,_,rfl⟩:=cj hl
    rfl
  have F3:=Qw (st:=gw) l3 c3 k3
  have b3:Binds K _ ["top", "bottom"] []:=fun s us hK hl=>match us,hl with | [u,v],_=>PySem.W.binds_K (fd:=PySem.W.fnOf "fraction" "fraction" (aV gw) (aT gw) (aw gw) (.ref uH) Ad Ae Af Ac uG Ag) hK rfl d3 rfl rfl rfl
  have ko:Binds K _ ["top", "bottom"] [.int 1 oQ]:=fun s us hK hl=>by
    cases us with
    | nil=>exact absurd hl (by simp)
    | cons u r=>cases r with
      | nil=>exact PySem.W.binds_K (fd:=PySem.W.fnOf "fraction" "fraction" (aV gw) (aT gw) (aw gw) (.ref uH) Ad Ae Af Ac uG Ag) hK rfl d3 rfl rfl rfl
      | cons v r=>exact absurd hl (by simp only [List.length_append,List.length_cons,List.length_nil];omega)
  have F4:=bt (st:=nW) l4 c4 k4
  have b4:=F4.binds (ps:=["one", "other"]) fun _ _ _ _ _ _ us hl=>by
    obtain ⟨_,_,rfl⟩:=cj hl
    rfl
  have F5:=bt (st:=nJ) l5 c5 k5
  have b5:=F5.binds (ps:=["one", "other"]) fun _ _ _ _ _ _ us hl=>by
    obtain ⟨_,_,rfl⟩:=cj hl
    rfl
  have F6:=bt (st:=nK) l6 c6 k6
  have b6:=F6.binds (ps:=["one", "other"]) fun _ _ _ _ _ _ us hl=>by
    obtain ⟨_,_,rfl⟩:=cj hl
    rfl
  have F7:=bt (st:=nX) l7 c7 k7
  have b7:=F7.binds (ps:=["one", "other"]) fun _ _ _ _ _ _ us hl=>by
    obtain ⟨_,_,rfl⟩:=cj hl
    rfl
  have F8:=bt (st:=nL) l8 c8 k8
  have b8:=F8.binds (ps:=["one", "other"]) fun _ _ _ _ _ _ us hl=>by
    obtain ⟨_,_,rfl⟩:=cj hl
    rfl
  have F9:=bt (st:=nq) l9 c9 k9
  have b9:=F9.binds (ps:=["some"]) fun _ _ _ _ _ _ us hl=>by
    obtain ⟨_,rfl⟩:=md hl
    rfl
  have KW:=bt (st:=m4) l10 AW uI
  have b10:=KW.binds (ps:=["some"]) fun _ _ _ _ _ _ us hl=>by
    obtain ⟨_,rfl⟩:=md hl
    rfl
  have KY:=bt (st:=mh) AY AZ uJ
  have b11:=KY.binds (ps:=["orders", "many"]) fun _ _ _ _ _ _ us hl=>by
    obtain ⟨_,_,rfl⟩:=cj hl
    rfl
  have KZ:=bt (st:=m3) A3 A4 uK
  have b12:=KZ.binds (ps:=["counts", "orders"]) fun _ _ _ _ _ _ us hl=>by
    obtain ⟨_,_,rfl⟩:=cj hl
    rfl
  have K0:=bt (st:=mM) A6 A7 uM
  have b13:=K0.binds (ps:=["table", "asker"]) fun _ _ _ _ _ _ us hl=>by
    obtain ⟨_,_,rfl⟩:=cj hl
    rfl
  have La:=bt (st:=mN) A9 Ba uN
  have b14:=La.binds (ps:=["order", "gone"]) fun _ _ _ _ _ _ us hl=>by
    obtain ⟨_,_,rfl⟩:=cj hl
    rfl
  have Lb:=bt (st:=m7) Bc Bd uO
  have b15:=Lb.binds (ps:=["shares", "one"]) fun _ _ _ _ _ _ us hl=>by
    obtain ⟨_,_,rfl⟩:=cj hl
    rfl
  have Lc:=bt (st:=nu) Bf c16 uP
  have b16:=Lc.binds (ps:=["table", "shares"]) fun _ _ _ _ _ _ us hl=>by
    obtain ⟨_,_,rfl⟩:=cj hl
    rfl
  have Ld:=bt (st:=mQ) Bh Bi uQ
  have b17:=Ld.binds (ps:=["table", "shares"]) fun _ _ _ _ _ _ us hl=>by
    obtain ⟨_,_,rfl⟩:=cj hl
    rfl
  have Le:=bt (st:=mJ) Bk Bl uR
  have b18:=Le.binds (ps:=["counts", "shares"]) fun _ _ _ _ _ _ us hl=>by
    obtain ⟨_,_,rfl⟩:=cj hl
    rfl
  have Lf:=bt (st:=m8) Bn Bo uU
  have b19:=Lf.binds (ps:=["many", "pairs"]) fun _ _ _ _ _ _ us hl=>by
    obtain ⟨_,_,rfl⟩:=cj hl
    rfl
  have Lg:=bt (st:=ny) Bq Br uV
  have b20:=Lg.binds (ps:=["table", "shares"]) fun _ _ _ _ _ _ us hl=>by
    obtain ⟨_,_,rfl⟩:=cj hl
    rfl
  have Lh:=bt (st:=m9) Bt Bu uW
  have b21:=Lh.binds (ps:=["table", "shares"]) fun _ _ _ _ _ _ us hl=>by
    obtain ⟨_,_,rfl⟩:=cj hl
    rfl
  have Li:=bt (st:=mH) Bw Bx uX
  have b22:=Li.binds (ps:=["left", "eaten", "time_left"]) fun _ _ _ _ _ _ us hl=>by
    obtain ⟨_,_,_,rfl⟩:=rF hl
    rfl
  have Lj:=bt (st:=mI) Bz BA uY
  have b23:=Lj.binds (ps:=["left", "eaten", "length"]) fun _ _ _ _ _ _ us hl=>by
    obtain ⟨_,_,_,rfl⟩:=rF hl
    rfl
  have Lk:=bt (st:=mn) BD BE uZ
  have b24:=Lk.binds (ps:=["left"]) fun _ _ _ _ _ _ us hl=>by
    obtain ⟨_,rfl⟩:=md hl
    rfl
  have Ln:=bt (st:=mP) BG BH u0
  have b25:=Ln.binds (ps:=["table"]) fun _ _ _ _ _ _ us hl=>by
    obtain ⟨_,rfl⟩:=md hl
    rfl
  have Lp:=bt (st:=m5) BJ BK u3
  have b26:=Lp.binds (ps:=["steps", "asker", "one"]) fun _ _ _ _ _ _ us hl=>by
    obtain ⟨_,_,_,rfl⟩:=rF hl
    rfl
  have Lq:=bt (st:=nY) BM BO u5
  have b27:=Lq.binds (ps:=["table"]) fun _ _ _ _ _ _ us hl=>by
    obtain ⟨_,rfl⟩:=md hl
    rfl
  have Lr:=bt (st:=nZ) gu o4 u9
  have b28:=Lr.binds (ps:=["table"]) fun _ _ _ _ _ _ us hl=>by
    obtain ⟨_,rfl⟩:=md hl
    rfl
  have Ls:=bt (st:=mj) BR BU va
  have b29:=Ls.binds (ps:=["_law_script", "_law_k"]) fun _ _ _ _ _ _ us hl=>by
    obtain ⟨_,_,rfl⟩:=cj hl
    rfl
  have Lv:=bt (st:=mB) BW BX vd
  have b30:=Lv.binds (ps:=["_law_cell", "_law_many"]) fun _ _ _ _ _ _ us hl=>by
    obtain ⟨_,_,rfl⟩:=cj hl
    rfl
  have Lw:=bt (st:=mO) B3 B4 ve
  have b31:=Lw.binds (ps:=["_law_cell", "_law_many"]) fun _ _ _ _ _ _ us hl=>by
    obtain ⟨_,_,rfl⟩:=cj hl
    rfl
  have Lx:=bt (st:=mE) B6 B7 vf
  have b32:=Lx.binds (ps:=["_law_cells", "_law_many"]) fun _ _ _ _ _ _ us hl=>by
    obtain ⟨_,_,rfl⟩:=cj hl
    rfl
  have Ly:=bt (st:=mF) B9 Ca vg
  have b33:=Ly.binds (ps:=["_law_cell", "_law_many"]) fun _ _ _ _ _ _ us hl=>by
    obtain ⟨_,_,rfl⟩:=cj hl
    rfl
  have Lz:=bt (st:=ml) Cd Ce vh
  have b34:=Lz.binds (ps:=["_law_one", "_law_other"]) fun _ _ _ _ _ _ us hl=>by
    obtain ⟨_,_,rfl⟩:=cj hl
    rfl
  have LA:=bt (st:=mG) Ci Cj vi
  have b35:=LA.binds (ps:=["_law_top", "_law_bottom"]) fun _ _ _ _ _ _ us hl=>by
    obtain ⟨_,_,rfl⟩:=cj hl
    rfl
  have LC:=bt (st:=mV) Cm Cp vj
  have b36:=LC.binds (ps:=["_law_counts_here", "_law_order_here"]) fun _ _ _ _ _ _ us hl=>by
    obtain ⟨_,_,rfl⟩:=cj hl
    rfl
  have LD:=bt (st:=mW) Cr Ct vk
  have b37:=LD.binds (ps:=["_law_one", "_law_other"]) fun _ _ _ _ _ _ us hl=>by
    obtain ⟨_,_,rfl⟩:=cj hl
    rfl
  have LI:=bt (st:=mR) Cv Cw vm
  have b38:=LI.binds (ps:=["_law_one", "_law_other"]) fun _ _ _ _ _ _ us hl=>by
    obtain ⟨_,_,rfl⟩:=cj hl
    rfl
  have LJ:=bt (st:=mK) Cz CA vo
  have b39:=LJ.binds (ps:=["_law_shares", "_law_one"]) fun _ _ _ _ _ _ us hl=>by
    obtain ⟨_,_,rfl⟩:=cj hl
    rfl
  have LK:=bt (st:=mL) CC CD vp
  have b40:=LK.binds (ps:=["_law_counts_here", "_law_orders_here", "_law_shares"]) fun _ _ _ _ _ _ us hl=>by
    obtain ⟨_,_,_,rfl⟩:=rF hl
    rfl
  have LL:=bt (st:=mX) CG CH vq
  have b41:=LL.binds (ps:=["_law_counts_here", "_law_shares", "_law_wishes_here"]) fun _ _ _ _ _ _ us hl=>by
    obtain ⟨_,_,_,rfl⟩:=rF hl
    rfl
  have LN:=bt (st:=mU) CJ CK vt
  have b42:=LN.binds (ps:=["_law_counts_here", "_law_stops", "_law_better", "_law_one"]) fun _ _ _ _ _ _ us hl=>by
    obtain ⟨_,_,_,_,rfl⟩:=us4 hl
    rfl
  have F43:=bt (st:=g9) CM CN CO
  refine ⟨PySem.W.fnOf "law" "law" (aV g9) (aT g9) (aw g9) .none Ju Jv Jw Jt yY Jx,fun s v=>.of_eq rfl,fun base _ _=>?_⟩
  have K1:=Kn.mk (base:=base) (P:=l.prog) (w:=w) (Nx (k:=0) F1 T ) (PySem.W.mg_of X G a1) k1 b1
  have K2:=Kn.mk (base:=base) (P:=l.prog) (w:=w) (Ma (k:=0) F2 T ) (PySem.W.mg_of X G a2) k2 b2
  have K3:=Kn.mk (base:=base) (P:=l.prog) (w:=w) (Ny (k:=0) F3 T K1 K2) (PySem.W.mg_of X G a3) k3 b3
  have K4:=Kn.mk (base:=base) (P:=l.prog) (w:=w) (Rx (k:=0) F4 T K3) (PySem.W.mg_of X G a4) k4 b4
  have K5:=Kn.mk (base:=base) (P:=l.prog) (w:=w) (P4 (k:=0) F5 T K3) (PySem.W.mg_of X G a5) k5 b5
  have K6:=Kn.mk (base:=base) (P:=l.prog) (w:=w) (P6 (k:=0) F6 T K3) (PySem.W.mg_of X G a6) k6 b6
  have K7:=Kn.mk (base:=base) (P:=l.prog) (w:=w) (RE (k:=0) F7 T K3) (PySem.W.mg_of X G a7) k7 b7
  have K8:=Kn.mk (base:=base) (P:=l.prog) (w:=w) (P8 (k:=0) F8 T ) (PySem.W.mg_of X G a8) k8 b8
  have K9:=Kn.mk (base:=base) (P:=l.prog) (w:=w) (O5 (k:=0) F9 T K3 ko K4) (PySem.W.mg_of X G a9) k9 b9
  have K10:=Kn.mk (base:=base) (P:=l.prog) (w:=w) (NB (k:=0) KW T K8) (PySem.W.mg_of X G lN) uI b10
  have K11:=Kn.mk (base:=base) (P:=l.prog) (w:=w) (LZ (k:=0) KY T ) (PySem.W.mg_of X G AX) uJ b11
  have K12:=Kn.mk (base:=base) (P:=l.prog) (w:=w) (NA (k:=0) KZ T K11) (PySem.W.mg_of X G A0) uK b12
  have LO:=Kn.mk (base:=base) (P:=l.prog) (w:=w) (Mz (k:=0) K0 T ) (PySem.W.mg_of X G A5) uM b13
  have K14:=Kn.mk (base:=base) (P:=l.prog) (w:=w) (MB (k:=0) La T ) (PySem.W.mg_of X G A8) uN b14
  have K15:=Kn.mk (base:=base) (P:=l.prog) (w:=w) (NI (k:=0) Lb T K9) (PySem.W.mg_of X G Bb) uO b15
  have LQ:=Kn.mk (base:=base) (P:=l.prog) (w:=w) (O6 (k:=0) Lc T LO K3 ko) (PySem.W.mg_of X G Be) uP b16
  have K17:=Kn.mk (base:=base) (P:=l.prog) (w:=w) (MJ (k:=0) Ld T LQ) (PySem.W.mg_of X G Bg) uQ b17
  have K18:=Kn.mk (base:=base) (P:=l.prog) (w:=w) (Mo (k:=0) Le T K15 K3 ko) (PySem.W.mg_of X G Bj) uR b18
  have K19:=Kn.mk (base:=base) (P:=l.prog) (w:=w) (NK (k:=0) Lf T ) (PySem.W.mg_of X G Bm) uU b19
  have LR:=Kn.mk (base:=base) (P:=l.prog) (w:=w) (O7 (k:=0) Lg T LQ K18 K19 K17) (PySem.W.mg_of X G Bp) uV b20
  have K21:=Kn.mk (base:=base) (P:=l.prog) (w:=w) (NR (k:=0) Lh T LR) (PySem.W.mg_of X G Bs) uW b21
  have K22:=Kn.mk (base:=base) (P:=l.prog) (w:=w) (Mj (k:=0) Li T K3 ko K7 K10) (PySem.W.mg_of X G Bv) uX b22
  have K23:=Kn.mk (base:=base) (P:=l.prog) (w:=w) (Ml (k:=0) Lj T K3 ko K5 K6) (PySem.W.mg_of X G By) uY b23
  have bT:=Kn.mk (base:=base) (P:=l.prog) (w:=w) (L6 (k:=0) Lk T K3 ko) (PySem.W.mg_of X G BC) uZ b24
  have LU:=Kn.mk (base:=base) (P:=l.prog) (w:=w) (MD (k:=0) Ln T K3 ko K5 LO K14 K22 K23 bT) (PySem.W.mg_of X G BF) u0 b25
  have K26:=Kn.mk (base:=base) (P:=l.prog) (w:=w) (ND (k:=0) Lp T K9) (PySem.W.mg_of X G BI) u3 b26
  have K27:=Kn.mk (base:=base) (P:=l.prog) (w:=w) (RH (k:=0) Lq T LU K26) (PySem.W.mg_of X G BL) u5 b27
  have K28:=Kn.mk (base:=base) (P:=l.prog) (w:=w) (RJ (k:=0) Lr T K3 ko K4 LU) (PySem.W.mg_of X G BP) u9 b28
  have K29:=Kn.mk (base:=base) (P:=l.prog) (w:=w) (L1 (k:=0) Ls T ) (PySem.W.mg_of X G BQ) va b29
  have LV:=Kn.mk (base:=base) (P:=l.prog) (w:=w) (Md (k:=0) Lv T ) (PySem.W.mg_of X G BV) vd b30
  have K31:=Kn.mk (base:=base) (P:=l.prog) (w:=w) (MC (k:=0) Lw T LV) (PySem.W.mg_of X G BZ) ve b31
  have K32:=Kn.mk (base:=base) (P:=l.prog) (w:=w) (Mf (k:=0) Lx T K31) (PySem.W.mg_of X G B5) vf b32
  have K33:=Kn.mk (base:=base) (P:=l.prog) (w:=w) (Mg (k:=0) Ly T LV) (PySem.W.mg_of X G B8) vg b33
  have K34:=Kn.mk (base:=base) (P:=l.prog) (w:=w) (L4 (k:=0) Lz T ) (PySem.W.mg_of X G Cb) vh b34
  have K35:=Kn.mk (base:=base) (P:=l.prog) (w:=w) (Mh (k:=0) LA T K34) (PySem.W.mg_of X G Cg) vi b35
  have K36:=Kn.mk (base:=base) (P:=l.prog) (w:=w) (Nf (k:=0) LC T ) (PySem.W.mg_of X G Ck) vj b36
  have K37:=Kn.mk (base:=base) (P:=l.prog) (w:=w) (Nh (k:=0) LD T K35) (PySem.W.mg_of X G Cq) vk b37
  have LW:=Kn.mk (base:=base) (P:=l.prog) (w:=w) (MN (k:=0) LI T ) (PySem.W.mg_of X G Cu) vm b38
  have K39:=Kn.mk (base:=base) (P:=l.prog) (w:=w) (Mp (k:=0) LJ T K37) (PySem.W.mg_of X G Cy) vo b39
  have K40:=Kn.mk (base:=base) (P:=l.prog) (w:=w) (Mq (k:=0) LK T K36) (PySem.W.mg_of X G CB) vp b40
  have K41:=Kn.mk (base:=base) (P:=l.prog) (w:=w) (Ni (k:=0) LL T K39 LW) (PySem.W.mg_of X G CF) vq b41
  have K42:=Kn.mk (base:=base) (P:=l.prog) (w:=w) (MQ (k:=0) LN T LW) (PySem.W.mg_of X G CI) vt b42
  exact SG (Te (k:=0) F43 T K29 K33 K32 K12 K27 K28 K40 LR K41 K42 K21)
theorem walk {l:PySem.W.OpenLaw} {q:Program} {loose:List Str} {XP:(Str->Option Value)->Heap->Prop} {YP:World->Heap->Prop} {d:DefRec} {K:Params->PySem.W.Frag} (hn:l.most=some 63) (qN:d.params.defaults=[])
    (hY:∀ (w:World) (h:Heap),YP w h->(K w.params).In h)
    (F:∀ (w:World) (mg:Str->Option Value) (fa:Addr) (h:Heap),(K w.params).In h->h.Ns mainGlobals mg->mg d.name=some (.ref fa) ->
      ∃ fd:FuncData,(∀ (s:Shared) (u:Value),BindsTo s fd ⟨[u],[]⟩ [("_law_script",u)])/\∀ base:Heap,(K w.params).In base->base.Ns mainGlobals mg->aP l.prog w (K w.params) mg base aj 9 fa fd ["_law_script"] (tH (K w.params))) :
    PySem.W.WalkO q loose XP YP l.row.toRowW d [] (fun f vs=>PySem.call f vs) :=
  L2.Qs (n:=63) (k:=9) (x := "_law_script") (CX:=fun _=>aj) (sp:=fun w=>tH (K w.params)) hn (by decide) qN ⟨rfl,by decide,by decide⟩ hY F (fun _ _ a ns hl _ hS=>⟨a,ns,rfl,hS,hl,fun _=>rfl⟩) fun _ _ _ _ _ z=>z
end bT
open PySem PySem.W PyProof.Rows
set_option maxRecDepth 100000 in
set_option maxHeartbeats 0 in
theorem PySem.Challenge.cw_lotmeal_k24_meals_are_good_holds : PySem.Challenge.rw_lotmeal_k24_meals_are_good.Holds := by
  w_on;o_law
  refine holds_open (q:=fG.hV) (loose:=["fraction"]) (Xt:=fG.hX) (XP:=XL fG.hV []) (Yf:=(kHook fG.hK fG.hA fG.tj).obs) (Ya:=(kHook fG.hK fG.hA fG.tj).val) (YP:=(kHook fG.hK fG.hA fG.tj).says) fG.hL (Hook.of _) (Hook.keeps _) (fun s e=>xl_of s (Bool.and_eq_true_iff.mp e).1) XL.keeps (by rfl) (by rfl) (by rfl) (fun s e=>recFacts_of (Bool.and_eq_true_iff.mp e).2) (by rfl) (by first | assumption | decide +kernel) (by decide +kernel) ⟨rfl,rfl,rfl,rfl,rfl,by decide +kernel⟩ ?hw ?hc
  case hw=>w_witness2
  k_fill
  refine bT.walk (l:=PySem.Challenge.rw_lotmeal_k24_meals_are_good) rfl rfl (fun w h Y=>PySem.W.kIn_of Y) ?F
  case F =>
    intro w mg fa h KX G qO
    refine' bT.all_mk KX G qO ?a1 ?l1 ?c1 ?k1 ?a2 ?l2 ?c2 ?k2 ?a3 ?l3 ?d3 ?c3 ?k3 ?a4 ?l4 ?c4 ?k4 ?a5 ?l5 ?c5 ?k5 ?a6 ?l6 ?c6 ?k6 ?a7 ?l7 ?c7 ?k7 ?a8 ?l8 ?c8 ?k8 ?a9 ?l9 ?c9 ?k9 ?lN ?l10 ?AW ?uI ?AX ?AY ?AZ ?uJ ?A0 ?A3 ?A4 ?uK ?A5 ?A6 ?A7 ?uM ?A8 ?A9 ?Ba ?uN ?Bb ?Bc ?Bd ?uO ?Be ?Bf ?c16 ?uP ?Bg ?Bh ?Bi ?uQ ?Bj ?Bk ?Bl ?uR ?Bm ?Bn ?Bo ?uU ?Bp ?Bq ?Br ?uV ?Bs ?Bt ?Bu ?uW ?Bv ?Bw ?Bx ?uX ?By ?Bz ?BA ?uY ?BC ?BD ?BE ?uZ ?BF ?BG ?BH ?u0 ?BI ?BJ ?BK ?u3 ?BL ?BM ?BO ?u5 ?BP ?gu ?o4 ?u9 ?BQ ?BR ?BU ?va ?BV ?BW ?BX ?vd ?BZ ?B3 ?B4 ?ve ?B5 ?B6 ?B7 ?vf ?B8 ?B9 ?Ca ?vg ?Cb ?Cd ?Ce ?vh ?Cg ?Ci ?Cj ?vi ?Ck ?Cm ?Cp ?vj ?Cq ?Cr ?Ct ?vk ?Cu ?Cv ?Cw ?vm ?Cy ?Cz ?CA ?vo ?CB ?CC ?CD ?vp ?CF ?CG ?CH ?vq ?CI ?CJ ?CK ?vt ?CL ?CM ?CN ?CO ?vM ?yh ?xV ?xW ?xx ?yi ?xA ?yj ?yk ?vN ?yl ?ym ?yo ?wU ?vR ?yp ?yq ?qa ?o8
    (case a1=>k_is)
    (case l1=>k_is)
    (case c1=>k_is)
    (case k1=>k_is)
    (case a2=>k_is)
    (case l2=>k_is)
    (case c2=>k_is)
    (case k2=>k_is)
    (case a3=>k_is)
    (case l3=>k_is)
    (case d3=>k_is)
    (case c3=>k_is)
    (case k3=>k_is)
    (case a4=>k_is)
    (case l4=>k_is)
    (case c4=>k_is)
    (case k4=>k_is)
    (case a5=>k_is)
    (case l5=>k_is)
    (case c5=>k_is)
    (case k5=>k_is)
    (case a6=>k_is)
    (case l6=>k_is)
    (case c6=>k_is)
    (case k6=>k_is)
    (case a7=>k_is)
    (case l7=>k_is)
    (case c7=>k_is)
    (case k7=>k_is)
    (case a8=>k_is)
    (case l8=>k_is)
    (case c8=>k_is)
    (case k8=>k_is)
    (case a9=>k_is)
    (case l9=>k_is)
    (case c9=>k_is)
    (case k9=>k_is)
    (case lN=>k_is)
    (case l10=>k_is)
    (case AW=>k_is)
    (case uI=>k_is)
    (case AX=>k_is)
    (case AY=>k_is)
    (case AZ=>k_is)
    (case uJ=>k_is)
    (case A0=>k_is)
    (case A3=>k_is)
    (case A4=>k_is)
    (case uK=>k_is)
    (case A5=>k_is)
    (case A6=>k_is)
    (case A7=>k_is)
    (case uM=>k_is)
    (case A8=>k_is)
    (case A9=>k_is)
    (case Ba=>k_is)
    (case uN=>k_is)
    (case Bb=>k_is)
    (case Bc=>k_is)
    (case Bd=>k_is)
    (case uO=>k_is)
    (case Be=>k_is)
    (case Bf=>k_is)
    (case c16=>k_is)
    (case uP=>k_is)
    (case Bg=>k_is)
    (case Bh=>k_is)
    (case Bi=>k_is)
    (case uQ=>k_is)
    (case Bj=>k_is)
    (case Bk=>k_is)
    (case Bl=>k_is)
    (case uR=>k_is)
    (case Bm=>k_is)
    (case Bn=>k_is)
    (case Bo=>k_is)
    (case uU=>k_is)
    (case Bp=>k_is)
    (case Bq=>k_is)
    (case Br=>k_is)
    (case uV=>k_is)
    (case Bs=>k_is)
    (case Bt=>k_is)
    (case Bu=>k_is)
    (case uW=>k_is)
    (case Bv=>k_is)
    (case Bw=>k_is)
    (case Bx=>k_is)
    (case uX=>k_is)
    (case By=>k_is)
    (case Bz=>k_is)
    (case BA=>k_is)
    (case uY=>k_is)
    (case BC=>k_is)
    (case BD=>k_is)
    (case BE=>k_is)
    (case uZ=>k_is)
    (case BF=>k_is)
    (case BG=>k_is)
    (case BH=>k_is)
    (case u0=>k_is)
    (case BI=>k_is)
    (case BJ=>k_is)
    (case BK=>k_is)
    (case u3=>k_is)
    (case BL=>k_is)
    (case BM=>k_is)
    (case BO=>k_is)
    (case u5=>k_is)
    (case BP=>k_is)
    (case gu=>k_is)
    (case o4=>k_is)
    (case u9=>k_is)
    (case BQ=>k_is)
    (case BR=>k_is)
    (case BU=>k_is)
    (case va=>k_is)
    (case BV=>k_is)
    (case BW=>k_is)
    (case BX=>k_is)
    (case vd=>k_is)
    (case BZ=>k_is)
    (case B3=>k_is)
    (case B4=>k_is)
    (case ve=>k_is)
    (case B5=>k_is)
    (case B6=>k_is)
    (case B7=>k_is)
    (case vf=>k_is)
    (case B8=>k_is)
    (case B9=>k_is)
    (case Ca=>k_is)
    (case vg=>k_is)
    (case Cb=>k_is)
    (case Cd=>k_is)
    (case Ce=>k_is)
    (case vh=>k_is)
    (case Cg=>k_is)
    (case Ci=>k_is)
    (case Cj=>k_is)
    (case vi=>k_is)
    (case Ck=>k_is)
    (case Cm=>k_is)
    (case Cp=>k_is)
    (case vj=>k_is)
    (case Cq=>k_is)
    (case Cr=>k_is)
    (case Ct=>k_is)
    (case vk=>k_is)
    (case Cu=>k_is)
    (case Cv=>k_is)
    (case Cw=>k_is)
    (case vm=>k_is)
    (case Cy=>k_is)
    (case Cz=>k_is)
    (case CA=>k_is)
    (case vo=>k_is)
    (case CB=>k_is)
    (case CC=>k_is)
    (case CD=>k_is)
    (case vp=>k_is)
    (case CF=>k_is)
    (case CG=>k_is)
    (case CH=>k_is)
    (case vq=>k_is)
    (case CI=>k_is)
    (case CJ=>k_is)
    (case CK=>k_is)
    (case vt=>k_is)
    (case CL=>k_is)
    (case CM=>k_is)
    (case CN=>k_is)
    (case CO=>k_is)
    (case vM=>k_is)
    (case yh=>k_is)
    (case xV=>k_is)
    (case xW=>k_is)
    (case xx=>k_is)
    (case yi=>k_is)
    (case xA=>k_is)
    (case yj=>k_is)
    (case yk=>k_is)
    (case vN=>k_is)
    (case yl=>k_is)
    (case ym=>k_is)
    (case yo=>k_is)
    (case wU=>k_is)
    (case vR=>k_is)
    (case yp=>k_is)
    (case yq=>k_is)
    (case qa=>k_is)
    (case o8=>k_is)
#print axioms PySem.Challenge.cw_lotmeal_k24_meals_are_good_holds
