import PyProof.Rows.All
import Wide.All
import OpenK.AllK
import Wide.FinOn
import Lean
import PyProof.EqAt
import PyProof.EqKinds
import PyProof.TupleCall
import PyProof.NeKinds
import PyProof.ZipIter
import PyProof.WalksEnum
import PyProof.CompUse
import PyProof.ListRange
import PyProof.Rows.SetFrom
import PyProof.Rows.SortWalk
import PyProof.Rows.SeqMore2
import PyProof.SetRoads
import KE.KRevIter
import PyProof.WalksMore
import PyProof.AutoRange
import PyProof.ListNew
import PyProof.Wp
import PyProof.Logic
import PyProof.StationsW
import PyProof.ExcClass2
import OpenK.KGet
import PyProof.Rows.SortRunsK
import PyProof.Rows.SortShellK
import KE.KDictSum
import PyProof.DictTruth
import PyProof.RangeIter
import PyProof.RaisesMany
import PyProof.AutoListH
import PySem.Challenge.RW_lotmeal_k23_judged_with_a_paper
set_option Elab.async false
set_option linter.all false
set_option maxRecDepth 100000
set_option maxHeartbeats 4000000
namespace L2
open PySem PySem.W
section
variable {tb:String->Option Builtin}{p:Program}{w:World}{n₀:Nat}{ann:Option Value}
def qH (tb:String->Option Builtin)(p:Program)(w:World)(n₀:Nat)(ann:Option Value):Nat->SharedT->Thread->Option SharedT
 |0,_,_=>none
 |n+1,s,t=>match through t with
  |true=>some s
  |false=>match stepOk n₀ ann t with
   |false=>none
   |true=>match stepT (denote tb) p w s t with
    |some (s',t')=>qH tb p w n₀ ann n s' t'
    |none=>none
theorem EL:∀ {n:Nat} {s s':SharedT} {t:Thread},qH tb p w n₀ ann n s t=some s'->topRun tb p w n₀ ann n s.abs t=some s'.abs
 |0,_,_,_,h=>by cases h
 |n+1,s,s',t,h=>by
  unfold qH at h
  unfold topRun
  cases ht:through t with
  |true=>rw [ht] at h;cases h;rfl
  |false =>
   rw [ht] at h
   cases hk:stepOk n₀ ann t with
   |false=>rw [hk] at h;cases h
   |true =>
    rw [hk] at h
    cases hs:stepT (denote tb) p w s t with
    |none=>rw [hs] at h;cases h
    |some r=>obtain ⟨me,aah⟩:=r;rw [hs] at h;rw [stepT_spec hs];exact EL h
end
def treeOf (l:List Obj):Nat->Nat->Nat->BT
 |0,_,_=>.nil
 |f+1,a,b=>match l[b]? with
  |some o=>.node o (treeOf l f (2*a) (a+b)) (treeOf l f (2*a) (2*a+b))
  |none=>.nil
theorem O6 {p q:Program}{loose:List Str}{Xt:Shared->Bool}{α:Type}{Yf:Shared -> α}{Ya:World -> α}{N:Nat}{g0:Bool}{T₀:Params->BT}{n₀:Nat}{life:Life}{ua:Array GenState}{yV:Drawn}{yW:Nat}{ann:Option Value}{M:Nat}
  (T2:∀ w:World,(fencedOpening treeTable p w N).map (fun s=>(s.heap,s.gens,s.drawn,s.toks))=some (absHeap (T₀ w.params) n₀ life,ua,yV,yW))
  (size:∀ w:World,((absHeap (T₀ w.params) n₀ life).isNs mainGlobals&&ua.size==0,(absHeap (T₀ w.params) n₀ life).nsMap mainGlobals "__annotations__")=(true,ann))
  (run:∀ (w:World),(fun os=>(qH treeTable p w n₀ ann M ⟨T₀ w.params,n₀,life,ua,yV,yW,os⟩ (topStub p)).map fun st=>((staticsOk (importedModules p.main.body) (absHeap (T₀ w.params) n₀ life) st.abs.heap&&namesBound p st.abs.heap&&gensDone st.abs&&laidKept (absHeap (T₀ w.params) n₀ life) st.abs.heap),openSeen q loose (importedModules p.main.body) Xt g0 st.abs,Yf st.abs))=fun _=>some (true,openGood q loose,Ya w)) (le:Nat.ble M N=true):LeftO p q loose Xt Yf Ya N g0:=fun w=>by
 obtain ⟨⟨h,gs,d,k,os⟩,e,e'⟩:=Option.map_eq_some_iff.mp (T2 w)
 obtain ⟨rfl,rfl,rfl,rfl⟩:h=absHeap (T₀ w.params) n₀ life/\gs=ua/\d=yV/\k=yW:=by simpa using e'
 obtain ⟨z1,z3⟩:=Prod.mk.inj (size w)
 obtain ⟨st,hr,hl⟩:=Option.map_eq_some_iff.mp (congrFun (run w) os)
 obtain ⟨l1,hl⟩:=Prod.mk.inj hl
 obtain ⟨l2,l3⟩:=Prod.mk.inj hl
 have r:=topRun_mono (N-M) _ _ _ _ (EL hr)
 rw [show M+(N-M)=N by have:=Nat.le_of_ble_eq_true le;omega] at r
 have t:topFrom treeTable p w N ⟨absHeap (T₀ w.params) n₀ life,gs,d,k,os⟩=some st.abs:=by
  unfold topFrom
  dsimp only
  rw [z1,absHeap_size,z3]
  have r':topRun treeTable p w n₀ ann N ⟨absHeap (T₀ w.params) n₀ life,gs,d,k,os⟩ (topStub p)=some st.abs:=r
  rw [r']
  show (match staticsOk (importedModules p.main.body) (absHeap (T₀ w.params) n₀ life) st.abs.heap&&namesBound p st.abs.heap&&gensDone st.abs&&laidKept (absHeap (T₀ w.params) n₀ life) st.abs.heap with | true=>_ | false=>_)=_
  rw [l1]
 unfold openEnds
 rw [e]
 show (topFrom treeTable p w N _).map _=_
 rw [t]
 exact congrArg some (Prod.ext l2 l3)
noncomputable def lX (P:Params):BT:=treeOf (boot_heap P).objs.toList 12 1 0
theorem boot_abs (P:Params):absHeap (lX P) 11 {}=boot_heap P:=by kernel_rfl
theorem O7 (w:World):((absHeap (lX w.params) 11 {}).isNs mainGlobals&&(Array.mk []:Array GenState).size==0,(absHeap (lX w.params) 11 {}).nsMap mainGlobals "__annotations__")=(true,some (.ref 6)):=by kernel_rfl
noncomputable def kh (p:Program) (w:World) (N:Nat) (os:OsState):Option SharedT:=qH treeTable p w 11 (some (.ref 6)) N ⟨lX w.params,11,{},Array.mk [],boot_drawn,boot_toks,os⟩ (topStub p)
noncomputable def qm (p:Program) (w:World) (st:SharedT):Bool:=staticsOk (importedModules p.main.body) (absHeap (lX w.params) 11 {}) st.abs.heap&&namesBound p st.abs.heap&&gensDone st.abs&&laidKept (absHeap (lX w.params) 11 {}) st.abs.heap
theorem O8 {p q:Program}{loose:List Str}{Xt:Shared->Bool}{α:Type}{Yf:Shared -> α}{Ya:World -> α}{N:Nat}{g0:Bool}(e:opening p=plainProg p.main.scope.names)(hN:Nat.ble 600 N=true)(f:∀ s,fenceModules? p s=some s)
  (r1:∀ w:World,(fun os=>(kh p w N os).map fun st=>qm p w st)=fun _=>some true) (r2:∀ w:World,(fun os=>(kh p w N os).map fun st=>openSeen q loose (importedModules p.main.body) Xt g0 st.abs)=fun _=>some (openGood q loose)) (r3:∀ w:World,(fun os=>(kh p w N os).map fun st=>Yf st.abs)=fun _=>some (Ya w)):LeftO p q loose Xt Yf Ya N g0 :=
 O6 (T₀:=lX) (n₀:=11) (life:={}) (ann:=some (.ref 6)) (fun w=>(boot_open e hN f w).trans (by rw [boot_abs])) O7 (fun w=>funext fun os=>by
  have a:=congrFun (r1 w) os
  have b:=congrFun (r2 w) os
  have c:=congrFun (r3 w) os
  show (kh p w N os).map (fun st=>(qm p w st,openSeen q loose (importedModules p.main.body) Xt g0 st.abs,Yf st.abs))=_
  cases h:kh p w N os with
  |none=>rw [h] at a;cases a
  |some st =>
   rw [h] at a b c
   show some (qm p w st,openSeen q loose (importedModules p.main.body) Xt g0 st.abs,Yf st.abs)=_
   have a':qm p w st=true:=Option.some.inj a
   have b':openSeen q loose (importedModules p.main.body) Xt g0 st.abs=openGood q loose:=Option.some.inj b
   have c':Yf st.abs=Ya w:=Option.some.inj c
   rw [a',b',c']) (by rw [Nat.ble_eq];exact Nat.le_refl _)
def dA (s:Stmt):Arguments:=match s with
 | .FunctionDef _ a _ _ _ _ _ _ _ _=>a
 |_=>{ posonlyargs:=[],args:=[],vararg:=none,kwonlyargs:=[],kw_defaults:=[],kwarg:=none,defaults:=[] }
def dB (s:Stmt):List Stmt:=match s with
 | .FunctionDef _ _ b _ _ _ _ _ _ _=>b
 |_=>[]
def dS (s:Stmt):Scope:=match s with
 | .FunctionDef _ _ _ _ _ _ sc _ _ _=>sc
 |_=>{ kind:=.function,names:=[],isGenerator:=false,isCoroutine:=false }
def dM (s:Stmt)(j:Nat):Stmt:=match s with
 | .ClassDef _ _ _ b _ _ _ _ _ _ _=>b.getD j (.Pass ⟨0,0,0,0⟩)
 |_=>.Pass ⟨0,0,0,0⟩
def dE (P:Params)(x:Str)(n:Nat)(v:Value):DictEntry:=.mk (PyData.keyHash P x) (.str x n) v
def o0:Obj:=Obj.mk (.type "tuple") none (.seq #[] 0) #[]
def oT (x:Array Value):Obj:=Obj.mk (.type "tuple") none (.seq x 0) #[]
def oC (x:Array Value):Obj:=Obj.mk (.type "code") none (.fields x) #[]
def oD (n:Str) (a l k r x:Nat) (y z:Value) (v u:Nat):Obj:=oC #[.str n a,.str n (a+1),.str "/claim/cut.py" (a+2),.int l 0,.int k 0,.int 0 0,.int 0 0,.int 3 0,.ref r,.bool true,.int 181 0,.ref x,.none,y,z,.ref v,.int u 0,.int l 0,.str "/claim/cut.py" (u+1)]
def oF (n:Str) (s:Stmt) (d m c:Value):Obj:=Obj.mk (.type "function") none (.func (FuncData.mk n n (dA s) (.stmts (dB s)) (dS s) 3 [] d .none .none m none c .none 0)) #[]
end L2
namespace fT
open PySem PySem.W
abbrev pr:Program:=PySem.Challenge.rw_lotmeal_k23_judged_with_a_paper.row.prog
def tp (i:Nat):Stmt:=pr.main.body.getD i (.Pass ⟨0,0,0,0⟩)
noncomputable def hK:Params->Frag:=fun P =>
 (nat_lit 2,boot_o_2 P) ::
 (nat_lit 3,(Obj.mk (.type "dict") none (.dict #[(L2.dE P "__name__" 165 (.str "law_lotmeal_k23_judged_with_a_paper" 418)),(L2.dE P "__doc__" 166 .none),(L2.dE P "__package__" 167 .none),(L2.dE P "__loader__" 168 (.builtin "__main__.__loader__#opaque")),(L2.dE P "__spec__" 169 .none),(L2.dE P "__annotations__" 170 (.ref 6)),(L2.dE P "__builtins__" 171 (.ref 4)),(L2.dE P "__file__" 173 (.str "/claim/cut.py" 172)),(L2.dE P "__cached__" 174 .none),(L2.dE P "LotError" 206 (.ref 24)),(L2.dE P "NoNumber" 222 (.ref 37)),(L2.dE P "TooGreat" 238 (.ref 49)),(L2.dE P "NoAsker" 254 (.ref 61)),(L2.dE P "NoThing" 279 (.ref 80)),(L2.dE P "Twice" 304 (.ref 99)),(L2.dE P "is_whole" 313 (.ref 108)),(L2.dE P "common_part" 322 (.ref 115)),(L2.dE P "fraction" 332 (.ref 123)),(L2.dE P "plus" 340 (.ref 130)),(L2.dE P "sum_of" 349 (.ref 137)),(L2.dE P "MOST" 353 (.int 6 352)),(L2.dE P "MOST_COUNT" 355 (.int 9 354)),(L2.dE P "check_orders" 361 (.ref 142)),(L2.dE P "table_of" 367 (.ref 147)),(L2.dE P "full_order" 373 (.ref 152)),(L2.dE P "dealt_of" 379 (.ref 157)),(L2.dE P "wishes" 387 (.ref 162)),(L2.dE P "over_pairs" 393 (.ref 167)),(L2.dE P "full_things" 399 (.ref 172)),(L2.dE P "lined_up" 405 (.ref 177)),(L2.dE P "ring_among" 411 (.ref 182)),(L2.dE P "judged" 417 (.ref 187)),(L2.dE P "_law_cell_at" 427 (.ref 194)),(L2.dE P "_law_stream" 438 (.ref 201)),(L2.dE P "_law_order" 450 (.ref 208)),(L2.dE P "_law_orders" 460 (.ref 215)),(L2.dE P "_law_counts" 470 (.ref 222)),(L2.dE P "_law_divisor" 478 (.ref 229)),(L2.dE P "_law_lowest" 487 (.ref 236)),(L2.dE P "_law_turn_deal" 493 (.ref 241)),(L2.dE P "_law_any_deal" 499 (.ref 246)),(L2.dE P "_law_drawn" 505 (.ref 251)),(L2.dE P "_law_full" 511 (.ref 256)),(L2.dE P "_law_plus" 519 (.ref 263)),(L2.dE P "_law_under" 527 (.ref 270)),(L2.dE P "_law_sums" 539 (.ref 277)),(L2.dE P "_law_no_less" 549 (.ref 284)),(L2.dE P "_law_tabled" 555 (.ref 289)),(L2.dE P "_law_whole" 562 (.ref 296)),(L2.dE P "_law_is_row" 571 (.ref 303)),(L2.dE P "_law_column" 581 (.ref 310)),(L2.dE P "_law_are_shares" 592 (.ref 317)),(L2.dE P "_law_wishes" 598 (.ref 322)),(L2.dE P "_law_left" 611 (.ref 329)),(L2.dE P "_law_three" 618 (.ref 336)),(L2.dE P "_law_ring" 624 (.ref 341)),(L2.dE P "_law_good" 630 (.ref 346)),(L2.dE P "_law_right" 641 (.ref 353)),(L2.dE P "law" 647 (.ref 358))] 59) #[])) ::
 (nat_lit 15,(L2.oT #[(.type "ValueError")])) ::
 (nat_lit 22,L2.o0) ::
 (nat_lit 23,(Obj.mk (.type "dict") none (.dict #[(L2.dE P "__module__" 196 (.str "lotmeal.errors" 187)),(L2.dE P "__firstlineno__" 200 (.int 2 199)),(L2.dE P "__static_attributes__" 201 (.ref 22)),(L2.dE P "__weakref__" 203 (.ref 25)),(L2.dE P "__doc__" 204 .none)] 3) #[])) ::
 (nat_lit 24,(Obj.mk (.type "type") none (.cls (ClassData.mk "LotError" [(.type "ValueError")] [(.ref 24),(.type "ValueError"),(.type "Exception"),(.type "BaseException"),(.type "object")] 23 "LotError" true [] [(.ref 37),(.ref 49),(.ref 61),(.ref 80),(.ref 99)] false none false)) #[(some (.ref 15)),none,(some (.str "LotError" 189)),(some (.str "LotError" 197)),(some (.builtin "ValueError.__new__")),(some (.bool true))])) ::
 (nat_lit 25,(Obj.mk (.type "getset_descriptor") none (.fields #[(.str "__weakref__" 202),(.ref 24),(.builtin "ExceptionGroup.__weakref__"),.none]) #[])) ::
 (nat_lit 28,(L2.oT #[(.ref 24)])) ::
 (nat_lit 35,L2.o0) ::
 (nat_lit 36,(Obj.mk (.type "dict") none (.dict #[(L2.dE P "__module__" 214 (.str "lotmeal.errors" 187)),(L2.dE P "__firstlineno__" 218 (.int 4 217)),(L2.dE P "__static_attributes__" 219 (.ref 35)),(L2.dE P "__doc__" 220 .none)] 2) #[])) ::
 (nat_lit 37,(Obj.mk (.type "type") none (.cls (ClassData.mk "NoNumber" [(.ref 24)] [(.ref 37),(.ref 24),(.type "ValueError"),(.type "Exception"),(.type "BaseException"),(.type "object")] 36 "NoNumber" true [] [] false none false)) #[(some (.ref 28)),none,(some (.str "NoNumber" 207)),(some (.str "NoNumber" 215)),(some (.builtin "ValueError.__new__")),(some (.bool true))])) ::
 (nat_lit 40,(L2.oT #[(.ref 24)])) ::
 (nat_lit 47,L2.o0) ::
 (nat_lit 48,(Obj.mk (.type "dict") none (.dict #[(L2.dE P "__module__" 230 (.str "lotmeal.errors" 187)),(L2.dE P "__firstlineno__" 234 (.int 6 233)),(L2.dE P "__static_attributes__" 235 (.ref 47)),(L2.dE P "__doc__" 236 .none)] 2) #[])) ::
 (nat_lit 49,(Obj.mk (.type "type") none (.cls (ClassData.mk "TooGreat" [(.ref 24)] [(.ref 49),(.ref 24),(.type "ValueError"),(.type "Exception"),(.type "BaseException"),(.type "object")] 48 "TooGreat" true [] [] false none false)) #[(some (.ref 40)),none,(some (.str "TooGreat" 223)),(some (.str "TooGreat" 231)),(some (.builtin "ValueError.__new__")),(some (.bool true))])) ::
 (nat_lit 52,(L2.oT #[(.ref 24)])) ::
 (nat_lit 59,L2.o0) ::
 (nat_lit 60,(Obj.mk (.type "dict") none (.dict #[(L2.dE P "__module__" 246 (.str "lotmeal.errors" 187)),(L2.dE P "__firstlineno__" 250 (.int 8 249)),(L2.dE P "__static_attributes__" 251 (.ref 59)),(L2.dE P "__doc__" 252 .none)] 2) #[])) ::
 (nat_lit 61,(Obj.mk (.type "type") none (.cls (ClassData.mk "NoAsker" [(.ref 24)] [(.ref 61),(.ref 24),(.type "ValueError"),(.type "Exception"),(.type "BaseException"),(.type "object")] 60 "NoAsker" true [] [] false none false)) #[(some (.ref 52)),none,(some (.str "NoAsker" 239)),(some (.str "NoAsker" 247)),(some (.builtin "ValueError.__new__")),(some (.bool true))])) ::
 (nat_lit 64,(L2.oT #[(.ref 24)])) ::
 (nat_lit 71,L2.o0) ::
 (nat_lit 73,(L2.oT #[(.str "self" 270),(.str "asker" 271)])) ::
 (nat_lit 74,L2.o0) ::
 (nat_lit 76,(L2.oC #[(.str "__init__" 267),(.str "NoThing.__init__" 268),(.str "/claim/cut.py" 269),(.int 12 0),(.int 2 0),(.int 0 0),(.int 0 0),(.int 3 0),(.ref 71),(.bool true),(.int 181 0),(.ref 72),.none,(.ref 73),(.ref 74),(.ref 75),(.int 272 0),(.int 12 0),(.str "/claim/cut.py" 273)])) ::
 (nat_lit 77,(Obj.mk (.type "function") none (.func (FuncData.mk "__init__" "NoThing.__init__" (L2.dA (L2.dM (tp 5) 0)) (.stmts (L2.dB (L2.dM (tp 5) 0))) (L2.dS (L2.dM (tp 5) 0)) 3 [] .none .none .none (.str "lotmeal.errors" 187) none (.ref 76) .none 0)) #[])) ::
 (nat_lit 78,(L2.oT #[(.str "asker" 275)])) ::
 (nat_lit 79,(Obj.mk (.type "dict") none (.dict #[(L2.dE P "__module__" 262 (.str "lotmeal.errors" 187)),(L2.dE P "__firstlineno__" 266 (.int 10 265)),(L2.dE P "__init__" 274 (.ref 77)),(L2.dE P "__static_attributes__" 276 (.ref 78)),(L2.dE P "__doc__" 277 .none)] 2) #[])) ::
 (nat_lit 80,(Obj.mk (.type "type") none (.cls (ClassData.mk "NoThing" [(.ref 24)] [(.ref 80),(.ref 24),(.type "ValueError"),(.type "Exception"),(.type "BaseException"),(.type "object")] 79 "NoThing" true [] [] false none false)) #[(some (.ref 64)),none,(some (.str "NoThing" 255)),(some (.str "NoThing" 263)),(some (.builtin "ValueError.__new__")),(some (.bool true))])) ::
 (nat_lit 83,(L2.oT #[(.ref 24)])) ::
 (nat_lit 90,L2.o0) ::
 (nat_lit 92,(L2.oT #[(.str "self" 295),(.str "asker" 296)])) ::
 (nat_lit 93,L2.o0) ::
 (nat_lit 95,(L2.oC #[(.str "__init__" 292),(.str "Twice.__init__" 293),(.str "/claim/cut.py" 294),(.int 17 0),(.int 2 0),(.int 0 0),(.int 0 0),(.int 3 0),(.ref 90),(.bool true),(.int 181 0),(.ref 91),.none,(.ref 92),(.ref 93),(.ref 94),(.int 297 0),(.int 17 0),(.str "/claim/cut.py" 298)])) ::
 (nat_lit 96,(Obj.mk (.type "function") none (.func (FuncData.mk "__init__" "Twice.__init__" (L2.dA (L2.dM (tp 6) 0)) (.stmts (L2.dB (L2.dM (tp 6) 0))) (L2.dS (L2.dM (tp 6) 0)) 3 [] .none .none .none (.str "lotmeal.errors" 187) none (.ref 95) .none 0)) #[])) ::
 (nat_lit 97,(L2.oT #[(.str "asker" 300)])) ::
 (nat_lit 98,(Obj.mk (.type "dict") none (.dict #[(L2.dE P "__module__" 287 (.str "lotmeal.errors" 187)),(L2.dE P "__firstlineno__" 291 (.int 15 290)),(L2.dE P "__init__" 299 (.ref 96)),(L2.dE P "__static_attributes__" 301 (.ref 97)),(L2.dE P "__doc__" 302 .none)] 2) #[])) ::
 (nat_lit 99,(Obj.mk (.type "type") none (.cls (ClassData.mk "Twice" [(.ref 24)] [(.ref 99),(.ref 24),(.type "ValueError"),(.type "Exception"),(.type "BaseException"),(.type "object")] 98 "Twice" true [] [] false none false)) #[(some (.ref 83)),none,(some (.str "Twice" 280)),(some (.str "Twice" 288)),(some (.builtin "ValueError.__new__")),(some (.bool true))])) ::
 (nat_lit 102,L2.o0) ::
 (nat_lit 104,(L2.oT #[(.str "number" 310)])) ::
 (nat_lit 105,L2.o0) ::
 (nat_lit 107,(L2.oD "is_whole" 307 21 1 102 103 (.ref 104) (.ref 105) 106 311)) ::
 (nat_lit 108,(L2.oF "is_whole" (tp 8) .none (.str "lotmeal.fractions" 305) (.ref 107))) ::
 (nat_lit 109,L2.o0) ::
 (nat_lit 111,(L2.oT #[(.str "one" 317),(.str "other" 318),(.str "rest" 319)])) ::
 (nat_lit 112,L2.o0) ::
 (nat_lit 114,(L2.oD "common_part" 314 23 2 109 110 (.ref 111) (.ref 112) 113 320)) ::
 (nat_lit 115,(L2.oF "common_part" (tp 9) .none (.str "lotmeal.fractions" 305) (.ref 114))) ::
 (nat_lit 116,(L2.oT #[(.int 1 323)])) ::
 (nat_lit 117,L2.o0) ::
 (nat_lit 119,(L2.oT #[(.str "top" 327),(.str "bottom" 328),(.str "part" 329)])) ::
 (nat_lit 120,L2.o0) ::
 (nat_lit 122,(L2.oD "fraction" 324 29 2 117 118 (.ref 119) (.ref 120) 121 330)) ::
 (nat_lit 123,(L2.oF "fraction" (tp 10) (.ref 116) (.str "lotmeal.fractions" 305) (.ref 122))) ::
 (nat_lit 124,L2.o0) ::
 (nat_lit 126,(L2.oT #[(.str "one" 336),(.str "other" 337)])) ::
 (nat_lit 127,L2.o0) ::
 (nat_lit 129,(L2.oD "plus" 333 38 2 124 125 (.ref 126) (.ref 127) 128 338)) ::
 (nat_lit 130,(L2.oF "plus" (tp 11) .none (.str "lotmeal.fractions" 305) (.ref 129))) ::
 (nat_lit 131,L2.o0) ::
 (nat_lit 133,(L2.oT #[(.str "some" 344),(.str "total" 345),(.str "one" 346)])) ::
 (nat_lit 134,L2.o0) ::
 (nat_lit 136,(L2.oD "sum_of" 341 40 1 131 132 (.ref 133) (.ref 134) 135 347)) ::
 (nat_lit 137,(L2.oF "sum_of" (tp 12) .none (.str "lotmeal.fractions" 305) (.ref 136))) ::
 (nat_lit 138,L2.o0) ::
 (nat_lit 141,(L2.oD "check_orders" 356 48 2 138 139 .none .none 140 359)) ::
 (nat_lit 142,(L2.oF "check_orders" (tp 16) .none (.str "lotmeal.tables" 350) (.ref 141))) ::
 (nat_lit 143,L2.o0) ::
 (nat_lit 146,(L2.oD "table_of" 362 55 2 143 144 .none .none 145 365)) ::
 (nat_lit 147,(L2.oF "table_of" (tp 17) .none (.str "lotmeal.tables" 350) (.ref 146))) ::
 (nat_lit 148,L2.o0) ::
 (nat_lit 151,(L2.oD "full_order" 368 64 2 148 149 .none .none 150 371)) ::
 (nat_lit 152,(L2.oF "full_order" (tp 18) .none (.str "lotmeal.tables" 350) (.ref 151))) ::
 (nat_lit 153,L2.o0) ::
 (nat_lit 156,(L2.oD "dealt_of" 374 68 2 153 154 .none .none 155 377)) ::
 (nat_lit 157,(L2.oF "dealt_of" (tp 19) .none (.str "lotmeal.tables" 350) (.ref 156))) ::
 (nat_lit 158,L2.o0) ::
 (nat_lit 161,(L2.oD "wishes" 382 71 2 158 159 .none .none 160 385)) ::
 (nat_lit 162,(L2.oF "wishes" (tp 21) .none (.str "lotmeal.judged" 380) (.ref 161))) ::
 (nat_lit 163,L2.o0) ::
 (nat_lit 166,(L2.oD "over_pairs" 388 79 2 163 164 .none .none 165 391)) ::
 (nat_lit 167,(L2.oF "over_pairs" (tp 22) .none (.str "lotmeal.judged" 380) (.ref 166))) ::
 (nat_lit 168,L2.o0) ::
 (nat_lit 171,(L2.oD "full_things" 394 81 2 168 169 .none .none 170 397)) ::
 (nat_lit 172,(L2.oF "full_things" (tp 23) .none (.str "lotmeal.judged" 380) (.ref 171))) ::
 (nat_lit 173,L2.o0) ::
 (nat_lit 176,(L2.oD "lined_up" 400 83 2 173 174 .none .none 175 403)) ::
 (nat_lit 177,(L2.oF "lined_up" (tp 24) .none (.str "lotmeal.judged" 380) (.ref 176))) ::
 (nat_lit 178,L2.o0) ::
 (nat_lit 181,(L2.oD "ring_among" 406 93 2 178 179 .none .none 180 409)) ::
 (nat_lit 182,(L2.oF "ring_among" (tp 25) .none (.str "lotmeal.judged" 380) (.ref 181))) ::
 (nat_lit 183,L2.o0) ::
 (nat_lit 186,(L2.oD "judged" 412 102 2 183 184 .none .none 185 415)) ::
 (nat_lit 187,(L2.oF "judged" (tp 26) .none (.str "lotmeal.judged" 380) (.ref 186))) ::
 (nat_lit 188,L2.o0) ::
 (nat_lit 190,(L2.oT #[(.str "_law_script" 423),(.str "_law_k" 424)])) ::
 (nat_lit 191,L2.o0) ::
 (nat_lit 193,(L2.oD "_law_cell_at" 420 115 2 188 189 (.ref 190) (.ref 191) 192 425)) ::
 (nat_lit 194,(L2.oF "_law_cell_at" (tp 28) .none (.str "law_lotmeal_k23_judged_with_a_paper" 418) (.ref 193))) ::
 (nat_lit 195,L2.o0) ::
 (nat_lit 197,(L2.oT #[(.str "_law_cell" 431),(.str "_law_many" 432),(.str "_law_drawn_here" 433),(.str "_law_found" 434),(.str "_law_k" 435)])) ::
 (nat_lit 198,L2.o0) ::
 (nat_lit 200,(L2.oD "_law_stream" 428 119 2 195 196 (.ref 197) (.ref 198) 199 436)) ::
 (nat_lit 201,(L2.oF "_law_stream" (tp 29) .none (.str "law_lotmeal_k23_judged_with_a_paper" 418) (.ref 200))) ::
 (nat_lit 202,L2.o0) ::
 (nat_lit 204,(L2.oT #[(.str "_law_cell" 442),(.str "_law_many" 443),(.str "_law_some" 444),(.str "_law_left_here" 445),(.str "_law_order_here" 446),(.str "_law_k" 447)])) ::
 (nat_lit 205,L2.o0) ::
 (nat_lit 207,(L2.oD "_law_order" 439 126 2 202 203 (.ref 204) (.ref 205) 206 448)) ::
 (nat_lit 208,(L2.oF "_law_order" (tp 30) .none (.str "law_lotmeal_k23_judged_with_a_paper" 418) (.ref 207))) ::
 (nat_lit 209,L2.o0) ::
 (nat_lit 211,(L2.oT #[(.str "_law_cells" 454),(.str "_law_many" 455),(.str "_law_orders_here" 456),(.str "_law_cell" 457)])) ::
 (nat_lit 212,L2.o0) ::
 (nat_lit 214,(L2.oD "_law_orders" 451 135 2 209 210 (.ref 211) (.ref 212) 213 458)) ::
 (nat_lit 215,(L2.oF "_law_orders" (tp 31) .none (.str "law_lotmeal_k23_judged_with_a_paper" 418) (.ref 214))) ::
 (nat_lit 216,L2.o0) ::
 (nat_lit 218,(L2.oT #[(.str "_law_cell" 464),(.str "_law_many" 465),(.str "_law_found" 466),(.str "_law_one" 467)])) ::
 (nat_lit 219,L2.o0) ::
 (nat_lit 221,(L2.oD "_law_counts" 461 143 2 216 217 (.ref 218) (.ref 219) 220 468)) ::
 (nat_lit 222,(L2.oF "_law_counts" (tp 32) .none (.str "law_lotmeal_k23_judged_with_a_paper" 418) (.ref 221))) ::
 (nat_lit 223,L2.o0) ::
 (nat_lit 225,(L2.oT #[(.str "_law_one" 474),(.str "_law_other" 475)])) ::
 (nat_lit 226,L2.o0) ::
 (nat_lit 228,(L2.oD "_law_divisor" 471 148 2 223 224 (.ref 225) (.ref 226) 227 476)) ::
 (nat_lit 229,(L2.oF "_law_divisor" (tp 33) .none (.str "law_lotmeal_k23_judged_with_a_paper" 418) (.ref 228))) ::
 (nat_lit 230,L2.o0) ::
 (nat_lit 232,(L2.oT #[(.str "_law_top" 482),(.str "_law_bottom" 483),(.str "_law_by" 484)])) ::
 (nat_lit 233,L2.o0) ::
 (nat_lit 235,(L2.oD "_law_lowest" 479 152 2 230 231 (.ref 232) (.ref 233) 234 485)) ::
 (nat_lit 236,(L2.oF "_law_lowest" (tp 34) .none (.str "law_lotmeal_k23_judged_with_a_paper" 418) (.ref 235))) ::
 (nat_lit 237,L2.o0) ::
 (nat_lit 240,(L2.oD "_law_turn_deal" 488 155 3 237 238 .none .none 239 491)) ::
 (nat_lit 241,(L2.oF "_law_turn_deal" (tp 35) .none (.str "law_lotmeal_k23_judged_with_a_paper" 418) (.ref 240))) ::
 (nat_lit 242,L2.o0) ::
 (nat_lit 245,(L2.oD "_law_any_deal" 494 170 3 242 243 .none .none 244 497)) ::
 (nat_lit 246,(L2.oF "_law_any_deal" (tp 36) .none (.str "law_lotmeal_k23_judged_with_a_paper" 418) (.ref 245))) ::
 (nat_lit 247,L2.o0) ::
 (nat_lit 250,(L2.oD "_law_drawn" 500 180 3 247 248 .none .none 249 503)) ::
 (nat_lit 251,(L2.oF "_law_drawn" (tp 37) .none (.str "law_lotmeal_k23_judged_with_a_paper" 418) (.ref 250))) ::
 (nat_lit 252,L2.o0) ::
 (nat_lit 255,(L2.oD "_law_full" 506 197 2 252 253 .none .none 254 509)) ::
 (nat_lit 256,(L2.oF "_law_full" (tp 38) .none (.str "law_lotmeal_k23_judged_with_a_paper" 418) (.ref 255))) ::
 (nat_lit 257,L2.o0) ::
 (nat_lit 259,(L2.oT #[(.str "_law_one" 515),(.str "_law_other" 516)])) ::
 (nat_lit 260,L2.o0) ::
 (nat_lit 262,(L2.oD "_law_plus" 512 199 2 257 258 (.ref 259) (.ref 260) 261 517)) ::
 (nat_lit 263,(L2.oF "_law_plus" (tp 39) .none (.str "law_lotmeal_k23_judged_with_a_paper" 418) (.ref 262))) ::
 (nat_lit 264,L2.o0) ::
 (nat_lit 266,(L2.oT #[(.str "_law_one" 523),(.str "_law_other" 524)])) ::
 (nat_lit 267,L2.o0) ::
 (nat_lit 269,(L2.oD "_law_under" 520 201 2 264 265 (.ref 266) (.ref 267) 268 525)) ::
 (nat_lit 270,(L2.oF "_law_under" (tp 40) .none (.str "law_lotmeal_k23_judged_with_a_paper" 418) (.ref 269))) ::
 (nat_lit 285,L2.o0) ::
 (nat_lit 288,(L2.oD "_law_tabled" 550 215 1 285 286 .none .none 287 553)) ::
 (nat_lit 289,(L2.oF "_law_tabled" (tp 43) .none (.str "law_lotmeal_k23_judged_with_a_paper" 418) (.ref 288))) ::
 (nat_lit 290,L2.o0) ::
 (nat_lit 292,(L2.oT #[(.str "_law_found" 559)])) ::
 (nat_lit 293,L2.o0) ::
 (nat_lit 295,(L2.oD "_law_whole" 556 220 1 290 291 (.ref 292) (.ref 293) 294 560)) ::
 (nat_lit 296,(L2.oF "_law_whole" (tp 44) .none (.str "law_lotmeal_k23_judged_with_a_paper" 418) (.ref 295))) ::
 (nat_lit 304,L2.o0) ::
 (nat_lit 306,(L2.oT #[(.str "_law_shares" 575),(.str "_law_one" 576),(.str "_law_total" 577),(.str "_law_row" 578)])) ::
 (nat_lit 307,L2.o0) ::
 (nat_lit 309,(L2.oD "_law_column" 572 231 2 304 305 (.ref 306) (.ref 307) 308 579)) ::
 (nat_lit 310,(L2.oF "_law_column" (tp 46) .none (.str "law_lotmeal_k23_judged_with_a_paper" 418) (.ref 309))) ::
 (nat_lit 318,L2.o0) ::
 (nat_lit 321,(L2.oD "_law_wishes" 593 246 3 318 319 .none .none 320 596)) ::
 (nat_lit 322,(L2.oF "_law_wishes" (tp 48) .none (.str "law_lotmeal_k23_judged_with_a_paper" 418) (.ref 321))) ::
 (nat_lit 323,L2.o0) ::
 (nat_lit 325,(L2.oT #[(.str "_law_counts_here" 602),(.str "_law_shares" 603),(.str "_law_wishes_here" 604),(.str "_law_found" 605),(.str "_law_asker" 606),(.str "_law_better" 607),(.str "_law_one" 608)])) ::
 (nat_lit 326,L2.o0) ::
 (nat_lit 328,(L2.oD "_law_left" 599 254 3 323 324 (.ref 325) (.ref 326) 327 609)) ::
 (nat_lit 329,(L2.oF "_law_left" (tp 49) .none (.str "law_lotmeal_k23_judged_with_a_paper" 418) (.ref 328))) ::
 (nat_lit 330,L2.o0) ::
 (nat_lit 332,(L2.oT #[(.str "_law_row" 615)])) ::
 (nat_lit 333,L2.o0) ::
 (nat_lit 335,(L2.oD "_law_three" 612 260 1 330 331 (.ref 332) (.ref 333) 334 616)) ::
 (nat_lit 336,(L2.oF "_law_three" (tp 50) .none (.str "law_lotmeal_k23_judged_with_a_paper" 418) (.ref 335))) ::
 (nat_lit 337,L2.o0) ::
 (nat_lit 340,(L2.oD "_law_ring" 619 264 2 337 338 .none .none 339 622)) ::
 (nat_lit 341,(L2.oF "_law_ring" (tp 51) .none (.str "law_lotmeal_k23_judged_with_a_paper" 418) (.ref 340))) ::
 (nat_lit 342,L2.o0) ::
 (nat_lit 345,(L2.oD "_law_good" 625 274 3 342 343 .none .none 344 628)) ::
 (nat_lit 346,(L2.oF "_law_good" (tp 52) .none (.str "law_lotmeal_k23_judged_with_a_paper" 418) (.ref 345))) ::
 (nat_lit 347,L2.o0) ::
 (nat_lit 349,(L2.oT #[(.str "_law_found" 634),(.str "_law_counts_here" 635),(.str "_law_shares" 636),(.str "_law_wishes_here" 637),(.str "_law_left_here" 638)])) ::
 (nat_lit 350,L2.o0) ::
 (nat_lit 352,(L2.oD "_law_right" 631 283 4 347 348 (.ref 349) (.ref 350) 351 639)) ::
 (nat_lit 353,(L2.oF "_law_right" (tp 53) .none (.str "law_lotmeal_k23_judged_with_a_paper" 418) (.ref 352))) ::
 (nat_lit 354,L2.o0) ::
 (nat_lit 357,(L2.oD "law" 642 294 1 354 355 .none .none 356 645)) ::
 (nat_lit 358,(L2.oF "law" (tp 54) .none (.str "law_lotmeal_k23_judged_with_a_paper" 418) (.ref 357)))::[]
def hA:List Addr:=[2,3,15,22,23,24,25,28,35,36,37,40,47,48,49,52,59,60,61,64,71,73,74,76,77,78,79,80,83,90,92,93,95,96,97,98,99,102,104,105,107,108,109,111,112,114,115,116,117,119,120,122,123,124,126,127,129,130,131,133,134,136,137,138,141,142,143,146,147,148,151,152,153,156,157,158,161,162,163,166,167,168,171,172,173,176,177,178,181,182,183,186,187,188,190,191,193,194,195,197,198,200,201,202,204,205,207,208,209,211,212,214,215,216,218,219,221,222,223,225,226,228,229,230,232,233,235,236,237,240,241,242,245,246,247,250,251,252,255,256,257,259,260,262,263,264,266,267,269,270,285,288,289,290,292,293,295,296,304,306,307,309,310,318,321,322,323,325,326,328,329,330,332,333,335,336,337,340,341,342,345,346,347,349,350,352,353,354,357,358]
theorem ub (P:Params):hA=(hK P).map (·.1):=by kernel_rfl
def hV:Program:={ pr with main:={ pr.main with body:=[1,2,3,4,5,6,8,9,11,12,14,15,16,17,18,19,21,22,23,24,25,26,28,29,30,31,32,33,34,35,36,37,38,39,40,41,42,43,44,45,46,47,48,49,50,51,52,53,54].map tp } }
def hX (s:Shared):Bool:=xlAt hV [] s&&recOk (RowW.records PySem.Challenge.rw_lotmeal_k23_judged_with_a_paper.row.toRowW) s
noncomputable abbrev hH:Hook:=kHook hK hA ub
theorem h1:opening pr=plainProg pr.main.scope.names:=by kernel_rfl
theorem h2 (s:Shared):fenceModules? pr s=some s:=by kernel_rfl
theorem h3 (w:World):(fun os=>(L2.kh pr w 5318 os).map fun st=>L2.qm pr w st)=fun _=>some true:=by kernel_rfl
theorem h4 (w:World):(fun os=>(L2.kh pr w 5318 os).map fun st=>openSeen hV ["fraction"] (importedModules pr.main.body) hX true st.abs)=fun _=>some (openGood hV ["fraction"]):=by kernel_rfl
theorem h5 (w:World):(fun os=>(L2.kh pr w 5318 os).map fun st=>hH.obs st.abs)=fun _=>some (hH.val w):=by kernel_rfl
theorem hL:LeftO pr hV ["fraction"] hX hH.obs hH.val 5318:=L2.O8 h1 (by decide) h2 h3 h4 h5
end fT
namespace L2
open PySem PySem.Spec PyProof.Rows
abbrev Key:=Sum Int Str
def uc:Key->Value->Bool
 | .inl k,v=>Value.isInt k v
 | .inr x,v=>Value.isStrOf x v
def UL (w:World):Key->Int
 | .inl k=>hashInt k
 | .inr x=>hashStr w x
theorem jv:∀ {k:Key} {v:Value},uc k v=true->(∃ i t,k=Sum.inl i/\v=Value.int i t)\/(∃ x t,k=Sum.inr x/\v=Value.str x t)
 | .inl i,v,h=>by
  obtain ⟨t,e⟩:=Value.isInt_shape (k:=i) (v:=v) h
  exact .inl ⟨i,t,rfl,e⟩
 | .inr x,v,h=>by
  obtain ⟨t,e⟩:=Value.isStrOf_shape (x:=x) (v:=v) h
  exact .inr ⟨x,t,rfl,e⟩
theorem O9 (i:Int)(t:Tok):uc (.inl i) (.int i t)=true:=by simp [uc,Value.isInt]
theorem SJ (a b:Int):decide ((Sum.inl a:Key)=Sum.inl b)=(a==b):=by
 by_cases e:a=b
 ·subst e;simp
 ·have h:¬ (Sum.inl a:Key)=Sum.inl b:=fun q=>e (Sum.inl.inj q)
  rw [decide_eq_false h]
  exact (beq_eq_false_iff_ne.mpr e).symm
theorem SK (a b:Str):decide ((Sum.inr a:Key)=Sum.inr b)=decide (a=b):=by
 by_cases e:a=b
 ·subst e;simp
 ·have h:¬ (Sum.inr a:Key)=Sum.inr b:=fun q=>e (Sum.inr.inj q)
  rw [decide_eq_false h,decide_eq_false e]
theorem SN (a:Int)(b:Str):decide ((Sum.inl a:Key)=Sum.inr b)=false:=decide_eq_false (fun q=>nomatch q)
theorem SQ (a:Str)(b:Int):decide ((Sum.inr a:Key)=Sum.inl b)=false:=decide_eq_false (fun q=>nomatch q)
def ki (prog:Program)(w:World):PySem.KeyKind prog w Key where
 is:=uc
 hash:=UL w
 inj:=fun v a b ha hb=>by
  rcases jv ha with ⟨i,t,rfl,rfl⟩ | ⟨x,t,rfl,rfl⟩
  ·rcases jv hb with ⟨j,u,rfl,e⟩ | ⟨y,u,rfl,e⟩
   ·injection e with e1 _;rw [e1]
   ·exact nomatch e
  ·rcases jv hb with ⟨j,u,rfl,e⟩ | ⟨y,u,rfl,e⟩
   ·exact nomatch e
   ·injection e with e1 _;rw [e1]
 byValue:=fun k v h=>by
  rcases jv h with ⟨i,t,rfl,rfl⟩ | ⟨x,t,rfl,rfl⟩<;>rfl
 pyHash:=fun hv h=>by
  rcases jv hv with ⟨i,t,rfl,rfl⟩ | ⟨x,t,rfl,rfl⟩
  ·exact wpAny_pyHash_int h
  ·exact wpAny_pyHash_str h
 eqBool:=fun hu hv h=>by
  rcases jv hu with ⟨i,t,rfl,rfl⟩ | ⟨x,t,rfl,rfl⟩
  ·rcases jv hv with ⟨j,u,rfl,rfl⟩ | ⟨y,u,rfl,rfl⟩
   ·rw [SJ] at h;exact wpAny_eqBool_int h
   ·rw [SN] at h;exact SeqAt.EqAt.int_str i t y u _ _ _ _ h
  ·rcases jv hv with ⟨j,u,rfl,rfl⟩ | ⟨y,u,rfl,rfl⟩
   ·rw [SQ] at h;exact SeqAt.EqAt.str_int x t j u _ _ _ _ h
   ·rw [SK] at h;exact wpAny_eqBool_str h
 «strs»:=fun k x t v h=>by
  rcases jv h with ⟨i,u,rfl,e⟩ | ⟨y,u,rfl,e⟩
  ·exact nomatch e
  ·injection e with e1 _
   subst e1
   cases v<;>rfl
theorem Ds (prog:Program)(w:World)(i:Int)(t:Tok):(ki prog w).is (.inl i) (.int i t)=true:=O9 i t
end L2
namespace L2
open PySem PySem.Spec PyProof.Rows
inductive V where
 |aS | bl (b:Bool) | int (i:Int) | str (x:Str) | gZ (b:Array UInt8) | mG (b:UInt64) | ref (a:Addr) | ty (n:String)
 deriving DecidableEq
def RelV:V->Value->Prop
 | .aS,u=>u=Value.none
 | .bl b,u=>u=Value.bool b
 | .int i,u=>∃ t,u=Value.int i t
 | .str x,u=>∃ t,u=Value.str x t
 | .gZ b,u=>∃ t,u=Value.bytes b t
 | .mG b,u=>∃ t,u=Value.float b t
 | .ref a,u=>u=Value.ref a
 | .ty n,u=>u=Value.type n
abbrev Vals:List V->List Value->Prop:=Paired RelV
theorem Vals.length {xs:List V}{us:List Value}(r:Vals xs us):xs.length=us.length:=Paired.length r
theorem Vals.get:∀ {xs:List V} {us:List Value} {i:Nat} {x:V},Vals xs us->xs[i]?=some x->∃ u,us[i]?=some u/\RelV x u
 |_,_,_,_,.nil,e=>by simp at e
 |_,_,0,_,.cons r _,e=>by simp at e;subst e;exact ⟨_,rfl,r⟩
 |_,_,i+1,x,.cons _ t,e=>by
  obtain ⟨u,h1,h2⟩:=Vals.get (i:=i) (x:=x) t (by simpa using e)
  exact ⟨u,by simpa using h1,h2⟩
theorem Vals.set {x:V}{u:Value}(r:RelV x u):∀ {xs:List V} {us:List Value} (i:Nat),Vals xs us->Vals (xs.set i x) (us.set i u)
 |_,_,_,.nil=>.nil
 |_,_,0,.cons _ t=>.cons r t
 |_,_,i+1,.cons q t=>.cons q (Vals.set r i t)
theorem Vals.append:∀ {xs ys:List V} {us ws:List Value},Vals xs us->Vals ys ws->Vals (xs++ys) (us++ws)
 |_,_,_,_,.nil,s=>s
 |_,_,_,_,.cons r t,s=>.cons r (Vals.append t s)
theorem Vals.take:∀ {xs:List V} {us:List Value} (n:Nat),Vals xs us->Vals (xs.take n) (us.take n)
 |_,_,0,_=>.nil
 |_,_,_+1,.nil=>.nil
 |_,_,n+1,.cons r t=>.cons r (Vals.take n t)
theorem Vals.drop:∀ {xs:List V} {us:List Value} (n:Nat),Vals xs us->Vals (xs.drop n) (us.drop n)
 |_,_,0,r=>r
 |_,_,_+1,.nil=>.nil
 |_,_,n+1,.cons _ t=>Vals.drop n t
def yX:Option V->Option Value->Prop
 |some v,some u=>RelV v u
 |none,none=>True
 |_,_=>False
def KV {κ:Type}:List (κ×V)->List (κ×Value)->Prop:=Paired fun (p : κ×V) (q : κ×Value)=>p.1=q.1/\RelV p.2 q.2
def kV:Key->V
 | .inl i=>.int i
 | .inr x=>.str x
inductive HO where
 |lst (xs:List V)
 |tup (xs:List V)
 |dK (cE:List (Key×V)) | dT (cE:List (List Key×V))
 |set (S:Int->Bool) (n:Nat)
 |ins (C dx:Addr) (fs:List (Str×V))
 |own (x:Addr)
 |xd (fs:List (Str×V))
 |met (f x:Addr)
 |ck (lo hi:Int)
 |dh (o:Obj) (u:HO)
 |mH (ps:Array Value)
 |ext (φ:Heap->Prop)
abbrev Hp:=Addr->Option HO
def upd (H:Hp)(a:Addr)(o:HO):Hp:=fun b=>if b=a then some o else H b
theorem d8 {H:Hp}{a:Addr}{o:HO}:upd H a o a=some o:=by unfold upd;rw [if_pos rfl]
theorem bF {H:Hp}{a b:Addr}{o:HO}(h:b ≠ a):upd H a o b=H b:=by unfold upd;rw [if_neg h]
theorem ik {H:Hp}{a b:Addr}{o:HO}(h:H a=some o)(h':H b=none):a ≠ b:=by
 intro e;subst e;rw [h] at h';cases h'
section
variable (P:Program)(w:World)
def cJ (H:Hp)(h:Heap)(a:Addr):HO->Prop
 | .lst xs=>xs.length<=sizeLine/\∃ (its:List Value) (n:Nat),Vals xs its/\h.get? a=some { cls:=.type "list",data:=.seq its.toArray n }
 | .tup xs=>xs.length<=sizeLine/\∃ its:List Value,Vals xs its/\IsTup h a its.toArray
 | .dK cE=>cE.length<=sizeLine/\(a==sysModules)=false/\∃ vs,KV cE vs/\h.DictOf (ki P w) a vs
 | .dT cE=>cE.length<=sizeLine/\(a==sysModules)=false/\∃ xs:List (List Key×Addr×Value),
   Paired (fun (p:List Key×V) (q:List Key×Addr×Value)=>p.1=q.1/\H q.2.1=some (.tup (p.1.map kV))/\RelV p.2 q.2.2) cE xs /\
   ∃ o es ep,h.get? a=some o/\o.ExactDict/\o.data=.dict es ep/\es.toList=xs.map (entryOfKey (tupleKind (ki P w)))/\(xs.map (·.1)).Nodup
 | .set S n=>h.SetOf (intKind P w) a S n
 | .ins C dx fs=>H dx=some (.own a)/\fs.length<=1000/\dx ≠ a/\h.get? a=some (PySem.W.instObj C dx) /\
   ∃ mA,h.Ns1 dx mA/\(∀ f,yX (fs.lookup f) (mA f))/\PySem.Within mA (fs.map (·.1))
 | .own _=>∃ o,h.get? a=some o
 | .xd fs=>∃ mA,h.Ns1 a mA/\∀ f,yX (fs.lookup f) (mA f)
 | .ck lo hi=>∃ t u v,h.get? a=some { cls:=.type "range",data:=.fields #[.int lo t,.int hi u,.int 1 v] }
 | .dh o u=>h.get? a=some o/\cJ H h a u
 | .mH ps=>h.get? a=some { cls:=.none,data:=.fields ps }
 | .met f x=>h.get? a=some (PySem.W.methodObj (.ref f) (.ref x))
 | .ext φ => φ h/\(∃ o,h.get? a=some o)/\∀ h1 h2:Heap,φ h1->(∀ o,h1.get? a=some o->h2.get? a=some o) -> φ h2
def cz (H:Hp)(h:Heap):Prop:=∀ a o,H a=some o->cJ P w H h a o
end
section
variable {P:Program}{w:World}{H H':Hp}{h h':Heap}{a:Addr}{o:HO}
theorem cJ.lt (x:cJ P w H h a o):a<h.objs.size:=by
 cases o with
 |lst xs=>obtain ⟨_,_,_,_,e⟩:=x;exact Heap.lt_size e
 |tup xs=>obtain ⟨_,_,_,p⟩:=x;exact p.lt
 |dK cE=>obtain ⟨_,_,_,_,o,_,_,e,_⟩:=x;exact Heap.lt_size e
 |dT cE=>obtain ⟨_,_,_,_,o,_,_,e,_⟩:=x;exact Heap.lt_size e
 |set S n=>obtain ⟨o,_,_,_,e,_⟩:=x;exact Heap.lt_size e
 |ins C dx fs=>obtain ⟨_,_,_,e,_⟩:=x;exact Heap.lt_size e
 |own y=>obtain ⟨_,e⟩:=x;exact Heap.lt_size e
 |xd fs=>obtain ⟨_,⟨_,_,_,e,_⟩,_⟩:=x;exact Heap.lt_size e
 |ck lo hi=>obtain ⟨_,_,_,e⟩:=x;exact Heap.lt_size e
 |dh ob u=>obtain ⟨e,_⟩:=x;exact Heap.lt_size e
 |mH ps=>exact Heap.lt_size (show h.get? a=some _ from x)
 |met f y=>exact Heap.lt_size (show h.get? a=some _ from x)
 |ext φ => obtain ⟨_,⟨_,e⟩,_⟩:=x;exact Heap.lt_size e
theorem Paired.II {α β:Type}{F G : α -> β->Prop}:∀ {IJ:List α} {l₂:List β},Paired F IJ l₂->(∀ a b,F a b->G a b)->Paired G IJ l₂
 |_,_,.nil,_=>.nil
 |_,_,.cons r t,f=>.cons (f _ _ r) (Paired.II t f)
theorem cJ.jI (x:cJ P w H h a o)(k:∀ b u,(b=a\/H b=some (.own a))->h.get? b=some u->h'.get? b=some u)
  (ho:∀ b,H b=some (.own a)->H' b=some (.own a)) (ht:∀ b xs,H b=some (.tup xs)->H' b=some (.tup xs)):cJ P w H' h' a o:=by
 induction o with
 |lst xs=>obtain ⟨z,its,n,r,e⟩:=x;exact ⟨z,its,n,r,k _ _ (.inl rfl) e⟩
 |tup xs=>obtain ⟨z,its,r,ob,e,c⟩:=x;exact ⟨z,its,r,ob,k _ _ (.inl rfl) e,c⟩
 |dK cE=>obtain ⟨z,y,vs,r,ob,es,ep,e,c⟩:=x;exact ⟨z,y,vs,r,ob,es,ep,k _ _ (.inl rfl) e,c⟩
 |dT cE =>
  obtain ⟨z,y,xs,r,ob,es,ep,e,c⟩:=x
  exact ⟨z,y,xs,Paired.II r fun p q z=>⟨z.1,ht _ _ z.2.1,z.2.2⟩,ob,es,ep,k _ _ (.inl rfl) e,c⟩
 |set S n=>obtain ⟨ob,es,ep,t,e,c⟩:=x;exact ⟨ob,es,ep,t,k _ _ (.inl rfl) e,c⟩
 |ins C dx fs =>
  obtain ⟨d,z,ne,e,mA,⟨od,es,ep,e2,c⟩,r⟩:=x
  exact ⟨ho _ d,z,ne,k _ _ (.inl rfl) e,mA,⟨od,es,ep,k _ _ (.inr d) e2,c⟩,r⟩
 |own y=>obtain ⟨ob,e⟩:=x;exact ⟨ob,k _ _ (.inl rfl) e⟩
 |xd fs=>obtain ⟨mA,⟨od,es,ep,e,c⟩,r⟩:=x;exact ⟨mA,⟨od,es,ep,k _ _ (.inl rfl) e,c⟩,r⟩
 |ck lo hi=>obtain ⟨t,u,v,e⟩:=x;exact ⟨t,u,v,k _ _ (.inl rfl) e⟩
 |dh ob u ih=>obtain ⟨e,q⟩:=x;exact ⟨k _ _ (.inl rfl) e,ih q⟩
 |mH ps =>
  have e:h.get? a=some { cls:=.none,data:=.fields ps }:=x
  show h'.get? a=some { cls:=.none,data:=.fields ps }
  exact k a _ (.inl rfl) e
 |met f y =>
  have e:h.get? a=some (PySem.W.methodObj (.ref f) (.ref y)):=x
  show h'.get? a=some (PySem.W.methodObj (.ref f) (.ref y))
  exact k a _ (.inl rfl) e
 |ext φ => obtain ⟨p,⟨o,e⟩,st⟩:=x;exact ⟨st _ _ p fun o q=>k _ _ (.inl rfl) q,⟨o,k _ _ (.inl rfl) e⟩,st⟩
theorem cz.lt (x:cz P w H h)(e:H a=some o):a<h.objs.size:=(x a o e).lt
theorem cz.fresh (x:cz P w H h)(e:h.objs.size<=a):H a=none:=by
 cases q:H a with
 |none=>rfl
 |some u=>exact absurd (Nat.lt_of_lt_of_le (x.lt q) e) (Nat.lt_irrefl _)
theorem cz.kept (x:cz P w H h)(k:∀ b u,h.get? b=some u->h'.get? b=some u):cz P w H h':=fun a o e =>
 (x a o e).jI (fun b u _ q=>k b u q) (fun _ q=>q) fun _ _ q=>q
theorem cz.laid (x:cz P w H h)(k:∀ b u,h.get? b=some u->h'.get? b=some u)(hp:h.objs.size<=a)(new:cJ P w (upd H a o) h' a o):cz P w (upd H a o) h':=fun b u e=>by
 have hn:=x.fresh hp
 by_cases hb:b=a
 ·subst hb;rw [d8] at e;cases e;exact new
 ·rw [bF hb] at e
  exact (x b u e).jI (fun c v _ q=>k c v q) (fun c q=>by rw [bF (ik q hn)];exact q) fun c xs q=>by rw [bF (ik q hn)];exact q
end
def Rd (H:Hp)(a:Addr)(u:HO):Prop:=H a=some u\/∃ o,H a=some (.dh o u)
theorem Rd.ok {P:Program}{w:World}{H:Hp}{h:Heap}{a:Addr}{u:HO}(r:Rd H a u)(x:cz P w H h):cJ P w H h a u:=by
 rcases r with r | ⟨o,r⟩
 ·exact x a u r
 ·obtain ⟨_,q⟩:=x a _ r
  exact q
def uJ:Option HO->Prop
 |some (.lst _)=>True
 |some (.dK _)=>True
 |some (.dT _)=>True
 |some (.set _ _)=>True
 |some (.ins _ _ _)=>True
 |some (.ext _)=>True
 |_=>False
section
variable {P:Program}{w:World}{H:Hp}{h h':Heap}{x e:Addr}{o':HO}
theorem cz.write (ok:cz P w H h)(mu:uJ (H x))(he:e=x\/H e=some (.own x))(k:∀ b u,b ≠ e->h.get? b=some u->h'.get? b=some u)(o4:∃ u,h'.get? e=some u)
  (new:cJ P w (upd H x o') h' x o'):cz P w (upd H x o') h':=fun b u q=>by
 have IK:∀ c y,H c=some (.own y)->c ≠ x:=fun c y r z=>by subst z;rw [r] at mu;exact mu
 have UM:∀ c xs,H c=some (.tup xs)->c ≠ x:=fun c xs r z=>by subst z;rw [r] at mu;exact mu
 by_cases hb:b=x
 ·subst hb;rw [d8] at q;cases q;exact new
 ·rw [bF hb] at q
  by_cases mI:b=e
  ·have q':H b=some (.own x):=by
    rcases he with z | z
    ·exact absurd (mI.trans z) hb
    ·rw [mI];exact z
   rw [q] at q';cases q'
   obtain ⟨v,hv⟩:=o4
   exact ⟨v,by rw [mI];exact hv⟩
  ·refine (ok b u q).jI (fun c v hc r=>k c v ?_ r) (fun c r=>by rw [bF (IK c b r)];exact r) fun c xs r=>by rw [bF (UM c xs r)];exact r
   rcases hc with rfl | hc
   ·exact mI
   ·rintro rfl
    rcases he with z | z
    ·exact IK c b hc z
    ·rw [hc] at z;cases z;exact hb rfl
end
structure Un (fs ex:List Addr) (H H':Hp) (h h':Heap):Prop where
 keep:∀ b o,h.get? b=some o->H b=none->b ∉ fs->b ∉ ex->h'.get? b=some o
 slot:∀ b o,h.get? b=some o->H b=none->b ∈ fs->b ∉ ex->∃ sl,h'.get? b=some { o with slots:=sl }
 free:∀ b o,h.get? b=some o->H b=none->b ∉ ex->H' b=none
 there:∀ b o,h.get? b=some o->b ∉ ex->∃ o',h'.get? b=some o'
 jg:∀ b xs,H b=some (.tup xs)->H' b=some (.tup xs)
 iB:∀ b o u,H b=some (.dh o u)->H' b=some (.dh o u)
 jh:∀ b ps,H b=some (.mH ps)->∃ more,H' b=some (.mH (ps++more))
section
variable {fs Zz ex ex':List Addr}{H H1 H2:Hp}{h h1 h2 h':Heap}{a x e:Addr}{o:HO}
theorem Un.any (u:Un fs ex H H1 h h1){b:Addr}{ob:Obj}(q:h.get? b=some ob)(n:H b=none)(hx:b ∉ ex):∃ sl,h1.get? b=some { ob with slots:=sl }:=by
 by_cases hb:b ∈ fs
 ·exact u.slot b ob q n hb hx
 ·exact ⟨ob.slots,u.keep b ob q n hb hx⟩
theorem Un.kept (k:∀ b u,h.get? b=some u->h'.get? b=some u):Un fs ex H H h h' :=
 ⟨fun b ob q _ _ _=>k b ob q,fun b ob q _ _ _=>⟨ob.slots,k b ob q⟩,fun _ _ _ n _=>n,fun b ob q _=>⟨ob,k b ob q⟩,fun _ _ q=>q,fun _ _ _ q=>q,fun _ ps q=>⟨#[],by rw [q];simp⟩⟩
theorem Un.refl:Un fs ex H H h h:=Un.kept fun _ _ q=>q
theorem Un.laid (k:∀ b u,h.get? b=some u->h'.get? b=some u)(hp:h.objs.size<=a)(hn:H a=none):Un fs ex H (upd H a o) h h' where
 keep:=fun b u q _ _ _=>k b u q
 slot:=fun b u q _ _ _=>⟨u.slots,k b u q⟩
 free:=fun b u q n _=>by rw [bF (Nat.ne_of_lt (Nat.lt_of_lt_of_le (Heap.lt_size q) hp))];exact n
 there:=fun b u q _=>⟨u,k b u q⟩
 jg:=fun b xs q=>by rw [bF (ik q hn)];exact q
 iB:=fun b u xs q=>by rw [bF (ik q hn)];exact q
 jh:=fun b ps q=>⟨#[],by rw [bF (ik q hn),q];simp⟩
theorem Un.write (mu:uJ (H x))(he:e=x\/H e=some (.own x))(k:∀ b u,b ≠ e->h.get? b=some u->h'.get? b=some u)(o4:∃ u,h'.get? e=some u):Un fs ex H (upd H x o) h h':=by
 have hx:∀ b,H b=none->b ≠ x:=fun b n z=>by subst z;rw [n] at mu;exact mu
 have hb:∀ b,H b=none->b ≠ e:=fun b n z=>by
  subst z
  rcases he with r | r
  ·exact hx b n r
  ·rw [n] at r;cases r
 have hm:∀ b u,H b=some u->¬ uJ (some u)->b ≠ x:=fun b u q nm z=>by subst z;rw [q] at mu;exact nm mu
 refine ⟨fun b u q n _ _=>k b u (hb b n) q,fun b u q n _ _=>⟨u.slots,k b u (hb b n) q⟩,fun b u q n _=>by rw [bF (hx b n)];exact n,fun b u q _=>?_,
  fun b xs q=>by rw [bF (hm b _ q fun z=>z)];exact q,fun b u xs q=>by rw [bF (hm b _ q fun z=>z)];exact q,fun b ps q=>⟨#[],by rw [bF (hm b _ q fun z=>z),q];simp⟩⟩
 by_cases mI:b=e
 ·subst mI;exact o4
 ·exact ⟨u,k b u mI q⟩
end
def uK (h:Heap)(H:Hp):List Addr:=(List.range h.objs.size).filter fun a=>(H a).isSome
def jJ (h:Heap)(H:Hp):Heap:=PySem.W.hideAll h (uK h H)
theorem Pa (h:Heap)(H:Hp):(jJ h H).objs.size=h.objs.size:=PySem.W.hideAll_size _ _
theorem P9 {h:Heap}{H:Hp}{b:Addr}{o:Obj}(e:h.get? b=some o)(n:H b=none):(jJ h H).get? b=some o :=
 PySem.W.hideAll_get _ e fun hm=>by
  have q:(H b).isSome=true:=(List.mem_filter.mp hm).2
  rw [n] at q;simp at q
theorem QV {h:Heap}{H:Hp}{b:Addr}{o:Obj}(e:(jJ h H).get? b=some o):h.get? b=some o/\H b=none:=by
 have e':h.get? b=some o:=PySem.W.of_hideAll (uK h H) e
 refine ⟨e',?_⟩
 cases q:H b with
 |none=>rfl
 |some x =>
  have hm:b ∈ uK h H:=List.mem_filter.mpr ⟨List.mem_range.mpr (Heap.lt_size e'),by simp [q]⟩
  have z:(jJ h H).get? b=none:=PySem.W.hideAll_none (uK h H) hm
  rw [z] at e;cases e
end L2
namespace L2
open PySem PySem.Spec PyProof.Rows
structure Mod (K:PySem.W.Frag) (mg:Str->Option Value) (base:Heap):Prop where
 zG:K.In base
 glob:base.Ns mainGlobals mg
 blt:∃ mb,base.Ns builtinsNs mb/\∀ x:Str,x ≠ "__name__" -> mb x=bootBuiltins x
 nolimit:base.NoLimit
structure Cx where
 prog:Program
 w:World
 K:PySem.W.Frag
 mg:Str->Option Value
 base:Heap
 A:Around
 N:List Str
 cN:Shared
 qI:Hp
 env:Env
 outer:List Env
 stack:List Env
 ex:List Addr
 fn:Str->Bool
 calm:Bool
 pn:List (Addr×Obj)
 xe:Value->Shared->Prop
def dD (l:List Env):List Addr:=l.filterMap (·.frame)
abbrev Cx.fs (X:Cx):List Addr:=dD X.outer
def fU (sc:Scope)(x:Str):Prop:=sc.names.lookup x=some .local\/sc.names.lookup x=some .cell\/sc.names.lookup x=some .free
def Loc (sc:Scope)(x:Str):Prop:=sc.names.lookup x=some .local\/sc.names.lookup x=some .cell
def Look (env:Env)(h:Heap)(m:Str->Option Value)(x:Str)(u:Value):Prop :=
 (env.kindOf x=some .local/\m x=some u)\/((env.kindOf x=some .cell\/env.kindOf x=some .free)/\∃ c,env.cells.lookup x=some c/\h.IsCell c (some u))
structure Cx.Ok (X:Cx):Prop where
 mod:Mod X.K X.mg X.base
 kind:X.env.scope.kind=.function
 glob:X.env.globals=mainGlobals
 blt:X.env.builtins=builtinsNs
 above:X.cN.heap.objs.size<=X.env.locals
 inj:∀ x y c,X.env.cells.lookup x=some c->X.env.cells.lookup y=some c->x=y
 has:∀ x,(X.env.kindOf x=some .cell\/X.env.kindOf x=some .free)->∃ c,X.env.cells.lookup x=some c
 qZ:∀ x c,X.fn x=true->X.env.cells.lookup x=some c->X.cN.heap.objs.size<=c
 hd:X.calm=true->X.A.handled=none
 frames:X.A.frames=some X.stack
 mJ:X.stack=X.outer\/(X.stack=X.env::X.outer/\X.env.frame=some X.env.locals)
 J5:∀ b ∈ X.ex,b ≠ X.env.locals/\∀ x c,X.env.cells.lookup x=some c->c ≠ b
 bs:∀ b o,X.base.get? b=some o->X.cN.heap.get? b=some o/\X.qI b=none
 mK:X.base.objs.size<=X.cN.heap.objs.size
 qJ:∀ b o,X.base.get? b=some o->b ∉ X.ex
 uv:∀ b ∈ X.ex,b ∉ X.fs
 iC:X.cN.heap.FunFrames X.base X.outer
 o5:∀ b ∈ X.fs,X.qI b=none
structure Inv (X:Cx) (pins:List (Addr×Obj)) (σ:List (Option V)) (H:Hp) (s:Shared):Prop where
 ok:X.Ok
 os:s.os=X.cN.os
 bare:AllBare s.gens
 base:Un X.fs X.ex X.qI H X.cN.heap s.heap
 loc:∃ m,s.heap.Ns X.env.locals m/\∀ (i:Nat) (x:Str) (v:V),X.N[i]?=some x -> σ[i]?=some (some v)->fU X.env.scope x->∃ u,RelV v u/\Look X.env s.heap m x u
 cell:∀ x c,X.env.cells.lookup x=some c->∃ v,s.heap.IsCell c v
 free:H X.env.locals=none
 jf:∀ x c,X.env.cells.lookup x=some c->H c=none
 pin:∀ p ∈ X.pn++pins,s.heap.get? p.1=some p.2/\H p.1=none/\p.1 ≠ X.env.locals/\p.1 ∉ X.fs/\∀ v,p.2.data ≠ .cell v
 az:cz X.prog X.w H s.heap
 len : σ.length=X.N.length
section
variable {X:Cx}{pins:List (Addr×Obj)}{σ:List (Option V)}{H H':Hp}{s:Shared}{h':Heap}
theorem Cx.Ok.UN (ok:X.Ok){b:Addr}{o:Obj}(e:X.base.get? b=some o):b ∉ X.fs:=fun hb=>by
 have:=(ok.iC.mem hb).1
 rw [e] at this;cases this
theorem Inv.bs (I:Inv X pins σ H s):∀ b o,X.base.get? b=some o->s.heap.get? b=some o/\H b=none:=fun b o e =>
 ⟨I.base.keep b o (I.ok.bs b o e).1 (I.ok.bs b o e).2 (I.ok.UN e) (I.ok.qJ b o e),I.base.free b o (I.ok.bs b o e).1 (I.ok.bs b o e).2 (I.ok.qJ b o e)⟩
theorem Inv.bk (I:Inv X pins σ H s):∀ b o,X.base.get? b=some o->s.heap.get? b=some o:=fun b o e=>(I.bs b o e).1
theorem Inv.mod (I:Inv X pins σ H s):Mod X.K X.mg X.base:=I.ok.mod
theorem Inv.dQ (I:Inv X pins σ H s):X.K.In s.heap:=I.ok.mod.zG.keeps I.bk
theorem Inv.lt (I:Inv X pins σ H s):X.env.locals<s.heap.objs.size:=let ⟨_,hn,_⟩:=I.loc;hn.lt
theorem Inv.sz (I:Inv X pins σ H s):X.cN.heap.objs.size<=s.heap.objs.size:=Nat.le_trans I.ok.above (Nat.le_of_lt I.lt)
theorem Inv.UO (I:Inv X pins σ H s){a:Addr}(h:s.heap.objs.size<=a):a ∉ X.fs:=fun hb=>by
 obtain ⟨_,o,ho,_⟩:=I.ok.iC.mem hb
 exact absurd (Nat.lt_of_lt_of_le (Heap.lt_size ho) (Nat.le_trans I.sz h)) (Nat.lt_irrefl _)
theorem Inv.mL (I:Inv X pins σ H s):∀ x c,X.env.cells.lookup x=some c->c ≠ X.env.locals:=fun x c e z=>by
 obtain ⟨v,o,ho,hd⟩:=I.cell x c e
 obtain ⟨m,⟨o',es,ep,gF,ra,_⟩,_⟩:=I.loc
 rw [z,gF] at ho;cases ho;rw [ra] at hd;cases hd
theorem Inv.iC (I:Inv X pins σ H s):s.heap.FunFrames X.base X.outer:=by
 have all:∀ (l:List Env),(∀ b ∈ dD l,b ∈ X.fs)->X.cN.heap.FunFrames X.base l->s.heap.FunFrames X.base l:=by
  intro l
  induction l with
  |nil=>intro _ _;trivial
  |cons env r ih =>
   intro hs hl
   obtain ⟨hk,⟨L,o,hf,hn,ho,hd⟩,hr⟩:=hl
   have hL:L ∈ X.fs:=hs L (by unfold dD;rw [List.filterMap_cons,hf];exact List.mem_cons_self)
   obtain ⟨sl,e⟩:=I.base.slot L o ho (I.ok.o5 L hL) hL fun z=>I.ok.uv L z hL
   exact ⟨hk,⟨L,_,hf,hn,e,hd⟩,ih (fun b hb=>hs b (by unfold dD;rw [List.filterMap_cons,hf];exact List.mem_cons_of_mem _ hb)) hr⟩
 exact all X.outer (fun _ hb=>hb) I.ok.iC
theorem Inv.stack (I:Inv X pins σ H s):s.heap.FunFrames X.base X.stack:=by
 rcases I.ok.mJ with e | ⟨e,hf⟩
 ·rw [e];exact I.iC
 ·rw [e]
  obtain ⟨m,hn,_⟩:=I.loc
  refine .cons (by rw [I.ok.kind];decide) hf hn ?_ I.iC
  exact Heap.get?_none_of_le (Nat.le_trans I.ok.mK I.ok.above)
theorem Inv.qo (I:Inv X pins σ H s):∀ b ∈ dD X.stack,b ∈ X.env.locals::X.fs:=fun b hb=>by
 rcases I.ok.mJ with e | ⟨e,hf⟩
 ·rw [e] at hb;exact List.mem_cons_of_mem _ hb
 ·rw [e] at hb
  unfold dD at hb
  rw [List.filterMap_cons,hf] at hb
  exact hb
theorem Inv.ER (I:Inv X pins σ H s):∀ b ∈ dD X.stack,H b=none:=fun b hb=>by
 rcases List.mem_cons.mp (I.qo b hb) with e | hb
 ·rw [e];exact I.free
 ·obtain ⟨_,o,ho,_⟩:=I.ok.iC.mem hb
  exact I.base.free b o ho (I.ok.o5 b hb) fun z=>I.ok.uv b z hb
theorem Inv.step {g':Array GenState}{t':Nat}{d':Drawn}{ch:List Addr}(I:Inv X pins σ H s)
  (jj:∀ b ∈ ch,(b ∈ X.ex\/X.cN.heap.objs.size<=b)/\b ≠ X.env.locals/\(∀ x c,X.env.cells.lookup x=some c->c ≠ b)/\∀ p ∈ X.pn++pins,p.1 ≠ b)
  (keep:∀ b o,b ≠ X.env.locals->b ∉ X.fs->b ∉ ch->s.heap.get? b=some o->H b=none->h'.get? b=some o)
  (slot:∀ b o,b ≠ X.env.locals->b ∈ X.fs->b ∉ ch->s.heap.get? b=some o->H b=none->∃ sl,h'.get? b=some { o with slots:=sl }) (free:∀ b o,b ∉ ch->s.heap.get? b=some o->H b=none->H' b=none)
  (there:∀ b o,b ∉ ch->s.heap.get? b=some o->∃ o',h'.get? b=some o')
  (jg:∀ b xs,H b=some (.tup xs)->H' b=some (.tup xs)) (iB:∀ b o u,H b=some (.dh o u)->H' b=some (.dh o u)) (jh:∀ b ps,H b=some (.mH ps)->∃ more,H' b=some (.mH (ps++more)))
  (ns:∀ m,s.heap.Ns X.env.locals m->h'.Ns X.env.locals m) (az:cz X.prog X.w H' h') (hg:AllBare g') :
  Inv X pins σ H' { s with heap:=h',gens:=g',drawn:=d',toks:=t' }:=by
 have J6:∀ b o,X.cN.heap.get? b=some o->b ≠ X.env.locals:=fun b o e=>Nat.ne_of_lt (Nat.lt_of_lt_of_le (Heap.lt_size e) I.ok.above)
 have uM:∀ b o,X.cN.heap.get? b=some o->b ∉ X.ex->b ∉ ch:=fun b o e hx hb=>by
  rcases (jj b hb).1 with z | z
  ·exact hx z
  ·exact absurd (Nat.lt_of_lt_of_le (Heap.lt_size e) z) (Nat.lt_irrefl _)
 have cellK:∀ x c,X.env.cells.lookup x=some c->∀ v,s.heap.IsCell c v->h'.IsCell c v:=fun x c e v ⟨o,ho,hd⟩=>by
  have rd:c ∉ ch:=fun z=>(jj c z).2.2.1 x c e rfl
  by_cases hc:c ∈ X.fs
  ·obtain ⟨sl,q⟩:=slot c o (I.mL x c e) hc rd ho (I.jf x c e)
   exact ⟨_,q,hd⟩
  ·exact ⟨o,keep c o (I.mL x c e) hc rd ho (I.jf x c e),hd⟩
 refine ⟨I.ok,I.os,hg,⟨fun b o e n hb hx=>?_,fun b o e n hb hx=>?_,fun b o e n hx=>?_,fun b o e hx=>?_,fun b xs e=>jg b xs (I.base.jg b xs e),fun b o xs e=>iB b o xs (I.base.iB b o xs e),fun b ps e=>?_⟩,?_,fun x c e=>?_,?_,fun x c e=>?_,fun p hp=>?_,az,I.len⟩
 ·exact keep b o (J6 b o e) hb (uM b o e hx) (I.base.keep b o e n hb hx) (I.base.free b o e n hx)
 ·obtain ⟨sl,e1⟩:=I.base.slot b o e n hb hx
  obtain ⟨ZA,e2⟩:=slot b _ (J6 b o e) hb (uM b o e hx) e1 (I.base.free b o e n hx)
  exact ⟨ZA,e2⟩
 ·obtain ⟨o',e1⟩:=I.base.there b o e hx
  exact free b o' (uM b o e hx) e1 (I.base.free b o e n hx)
 ·obtain ⟨o',e1⟩:=I.base.there b o e hx
  exact there b o' (uM b o e hx) e1
 ·obtain ⟨m1,e1⟩:=I.base.jh b ps e
  obtain ⟨m2,e2⟩:=jh b _ e1
  exact ⟨m1++m2,by rw [e2,Array.append_assoc]⟩
 ·obtain ⟨m,hn,hl⟩:=I.loc
  refine ⟨m,ns m hn,fun i x v e1 e2 e3=>?_⟩
  obtain ⟨u,r,l⟩:=hl i x v e1 e2 e3
  refine ⟨u,r,?_⟩
  rcases l with l | ⟨k,c,e,z⟩
  ·exact .inl l
  ·exact .inr ⟨k,c,e,cellK x c e _ z⟩
 ·obtain ⟨v,z⟩:=I.cell x c e
  exact ⟨v,cellK x c e v z⟩
 ·obtain ⟨m,⟨o,_,_,ho,_⟩,_⟩:=I.loc
  exact free _ o (fun z=>(jj _ z).2.1 rfl) ho I.free
 ·obtain ⟨v,o,ho,hd⟩:=I.cell x c e
  exact free c o (fun z=>(jj c z).2.2.1 x c e rfl) ho (I.jf x c e)
 ·obtain ⟨e,n,ne,nf,d⟩:=I.pin p hp
  have rd:p.1 ∉ ch:=fun z=>(jj p.1 z).2.2.2 p hp rfl
  exact ⟨keep p.1 p.2 ne nf rd e n,free p.1 p.2 rd e n,ne,nf,d⟩
theorem Inv.un {t':Nat}(I:Inv X pins σ H s)(u:Un X.fs [] H H' s.heap h')(az:cz X.prog X.w H' h'):Inv X pins σ H' { s with heap:=h',toks:=t' }:=by
 obtain ⟨m,⟨o,es,ep,ho,r⟩,_⟩:=id I.loc
 obtain ⟨sl,hL⟩:=u.any ho I.free (by simp)
 exact I.step (g':=s.gens) (d':=s.drawn) (ch:=[]) (fun _ z=>nomatch z) (fun b o _ hb _ e n=>u.keep b o e n hb (by simp)) (fun b o _ hb _ e n=>u.slot b o e n hb (by simp)) (fun b o _ e n=>u.free b o e n (by simp)) (fun b o _ e=>u.there b o e (by simp)) u.jg u.iB u.jh (fun m' hm=>by
  obtain ⟨o',kK,zH,gF,r'⟩:=hm
  rw [ho] at gF;cases gF
  exact ⟨_,kK,zH,hL,r'⟩) az I.bare
theorem Inv.call {g':Array GenState}{t':Nat}{d':Drawn}{ch:List Addr}(I:Inv X pins σ H s)(u:Un (dD X.stack) ch H H' s.heap h')(az:cz X.prog X.w H' h')(hg:AllBare g')
  (jj:∀ b ∈ ch,(b ∈ X.ex\/X.cN.heap.objs.size<=b)/\b ≠ X.env.locals/\(∀ x c,X.env.cells.lookup x=some c->c ≠ b)/\∀ p ∈ X.pn++pins,p.1 ≠ b) :
  Inv X pins σ H' { s with heap:=h',gens:=g',drawn:=d',toks:=t' }:=by
 obtain ⟨m,⟨o,es,ep,ho,r⟩,_⟩:=id I.loc
 obtain ⟨sl,hL⟩:=u.any ho I.free fun z=>(jj _ z).2.1 rfl
 exact I.step (ch:=ch) jj (fun b o hL hb hc e n=>u.keep b o e n (fun z=>(List.mem_cons.mp (I.qo b z)).elim hL hb) hc) (fun b o _ _ hc e n=>u.any e n hc) (fun b o hc e n=>u.free b o e n hc) (fun b o hc e=>u.there b o e hc) u.jg u.iB u.jh (fun m' hm=>by
  obtain ⟨o',kK,zH,gF,r'⟩:=hm
  rw [ho] at gF;cases gF
  exact ⟨_,kK,zH,hL,r'⟩) az hg
theorem Inv.turned {t':Nat}{it:Addr}(I:Inv X pins σ H s)(k:∀ b o,b ≠ it->s.heap.get? b=some o->h'.get? b=some o)(hn:H it=none)(hL:it ≠ X.env.locals)
  (h1:it ∈ X.ex\/X.cN.heap.objs.size<=it) (h2:∀ x c,X.env.cells.lookup x=some c->c ≠ it) (h3:∀ p ∈ X.pn++pins,p.1 ≠ it):Inv X pins σ H { s with heap:=h',toks:=t' }:=by
 have kL:∀ b u,H b=some u->b ≠ it:=fun b u e z=>by rw [z,hn] at e;cases e
 refine I.step (g':=s.gens) (d':=s.drawn) (ch:=[it]) (fun b hb=>?_) (fun b o _ _ hc e _=>k b o (fun z=>hc (by simp [z])) e) (fun b o _ _ hc e _=>⟨o.slots,k b o (fun z=>hc (by simp [z])) e⟩) (fun _ _ _ _ n=>n)
  (fun b o hc e=>⟨o,k b o (fun z=>hc (by simp [z])) e⟩) (fun _ _ e=>e) (fun _ _ _ e=>e) (fun b ps e=>⟨#[],by rw [e];simp⟩) (fun m hm=>?_) (fun b u e=>?_) I.bare
 ·have e:b=it:=by simpa using hb
  subst e
  exact ⟨h1,hL,h2,h3⟩
 ·obtain ⟨o,es,ep,ho,r⟩:=hm
  exact ⟨o,es,ep,k _ o (Ne.symm hL) ho,r⟩
 ·refine (I.az b u e).jI (fun c v hc q=>k c v ?_ q) (fun _ q=>q) fun _ _ q=>q
  rcases hc with z | z
  ·rw [z];exact kL b u e
  ·exact kL c _ z
theorem Inv.tok (I:Inv X pins σ H s)(t:Nat):Inv X pins σ H { s with toks:=t }:=I.un (h':=s.heap) (t':=t) Un.refl I.az
theorem Inv.kept {t':Nat}(I:Inv X pins σ H s)(k:∀ b u,s.heap.get? b=some u->h'.get? b=some u):Inv X pins σ H { s with heap:=h',toks:=t' }:=I.un (Un.kept k) (I.az.kept k)
theorem Inv.laid {a:Addr}{o:HO}{t':Nat}(I:Inv X pins σ H s)(k:∀ b u,s.heap.get? b=some u->h'.get? b=some u)(hp:s.heap.objs.size<=a)(new:cJ X.prog X.w (upd H a o) h' a o) :
  Inv X pins σ (upd H a o) { s with heap:=h',toks:=t' }:=I.un (Un.laid k hp (I.az.fresh hp)) (I.az.laid k hp new)
theorem Inv.write {x e:Addr}{o:HO}{t':Nat}(I:Inv X pins σ H s)(mu:uJ (H x))(he:e=x\/H e=some (.own x))(k:∀ b u,b ≠ e->s.heap.get? b=some u->h'.get? b=some u)(o4:∃ u,h'.get? e=some u)
  (new:cJ X.prog X.w (upd H x o) h' x o):Inv X pins σ (upd H x o) { s with heap:=h',toks:=t' }:=I.un (Un.write mu he k o4) (I.az.write mu he k o4 new)
theorem Inv.EV {HI:List (Addr×Obj)}(I:Inv X pins σ H s)(h:∀ p ∈ HI,s.heap.get? p.1=some p.2/\H p.1=none/\p.1 ≠ X.env.locals/\p.1 ∉ X.fs/\∀ v,p.2.data ≠ .cell v):Inv X HI σ H s :=
 ⟨I.ok,I.os,I.bare,I.base,I.loc,I.cell,I.free,I.jf,fun p hp=>(List.mem_append.mp hp).elim (fun z=>I.pin p (List.mem_append_left _ z)) (h p),I.az,I.len⟩
theorem D3 {N:List Str}(hN:N.Nodup){i j:Nat}{x:Str}(a:N[i]?=some x)(b:N[j]?=some x):i=j:=by
 obtain ⟨h1,e1⟩:=List.getElem?_eq_some_iff.mp a
 obtain ⟨h2,e2⟩:=List.getElem?_eq_some_iff.mp b
 exact (List.getElem_inj hN).mp (e1.trans e2.symm)
theorem DF {M:Model}{A:Around}{E:Value->Shared->Prop}{i:Nat}{x:Str}{v:V}{u:Value}{Q:Unit->Shared->Prop}(I:Inv X pins σ H s)(hN:X.N.Nodup)(hi:X.N[i]?=some x)(hx:Loc X.env.scope x)(r:RelV v u)
  (h:∀ s',Inv X pins (σ.set i (some v)) H s'->(∃ a,Heap.SameBut a s.heap s'.heap/\(a=X.env.locals\/X.env.cells.lookup x=some a))->Q () s') (hf:X.fn x=true\/X.env.scope.names.lookup x=some .local:=by first | exact .inl rfl | exact .inr rfl | assumption):wpAny M A (storeName X.env x u) Q E s:=by
 obtain ⟨m,hn,hl⟩:=id I.loc
 have UP:(X.env.scope.kind==.class || (X.env.scope.kind==.module&&X.env.locals != X.env.globals))=false:=by rw [I.ok.kind];rfl
 have IL:i < σ.length:=by rw [I.len];exact (List.getElem?_eq_some_iff.mp hi).1
 have mL:=I.mL
 have tracked:∀ {a:Addr} {h':Heap},(∃ o,s.heap.get? a=some o/\H a=none)->Heap.SameBut a s.heap h'->cz X.prog X.w H h':=fun {a h'} ha hs b ob e=>by
  obtain ⟨_,_,qz⟩:=ha
  refine (I.az b ob e).jI (fun c w' hc q=>(hs.2 c ?_).trans q) (fun _ q=>q) fun _ _ q=>q
  rintro rfl
  rcases hc with rfl | hc
  ·rw [qz] at e;cases e
  ·rw [qz] at hc;cases hc
 rcases hx with hk | hk
 ·refine wpAny_storeName_local hk hn (fun h' ZC hs=>?_) UP
  obtain ⟨oL,_,_,kM,_⟩:=id hn
  refine h _ ⟨I.ok,I.os,I.bare,⟨fun b o e n hb hx=>?_,fun b o e n hb hx=>?_,I.base.free,fun b o e hx=>?_,I.base.jg,I.base.iB,I.base.jh⟩,⟨_,ZC,fun j y v' e1 e2 e3=>?_⟩,fun y c e=>?_,I.free,I.jf,fun p hp=>?_,tracked ⟨oL,kM,I.free⟩ hs,by simpa using I.len⟩ ⟨_,hs,.inl rfl⟩
  ·exact (hs.2 b (Nat.ne_of_lt (Nat.lt_of_lt_of_le (Heap.lt_size e) I.ok.above))).trans (I.base.keep b o e n hb hx)
  ·obtain ⟨sl,e1⟩:=I.base.slot b o e n hb hx
   exact ⟨sl,(hs.2 b (Nat.ne_of_lt (Nat.lt_of_lt_of_le (Heap.lt_size e) I.ok.above))).trans e1⟩
  ·obtain ⟨o',e1⟩:=I.base.there b o e hx
   exact ⟨o',(hs.2 b (Nat.ne_of_lt (Nat.lt_of_lt_of_le (Heap.lt_size e) I.ok.above))).trans e1⟩
  ·by_cases hj:j=i
   ·subst hj
    rw [hi] at e1;cases e1
    rw [List.getElem?_set_self IL] at e2
    cases e2
    exact ⟨u,r,.inl ⟨hk,by simp⟩⟩
   ·rw [List.getElem?_set_ne (Ne.symm hj)] at e2
    obtain ⟨u',r',q⟩:=hl j y v' e1 e2 e3
    refine ⟨u',r',?_⟩
    rcases q with ⟨k,e⟩ | ⟨k,c,e,z⟩
    ·refine .inl ⟨k,?_⟩
     have:y ≠ x:=fun e=>hj (D3 hN e1 (e ▸ hi))
     simp [this,e]
    ·exact .inr ⟨k,c,e,z.sameBut hs (mL y c e)⟩
  ·obtain ⟨w',z⟩:=I.cell y c e
   exact ⟨w',z.sameBut hs (mL y c e)⟩
  ·obtain ⟨e,n,ne,nf,d⟩:=I.pin p hp
   exact ⟨(hs.2 p.1 ne).trans e,n,ne,nf,d⟩
 ·have zI:X.fn x=true:=by
   rcases hf with z | z
   ·exact z
   ·rw [z] at hk;cases hk
  obtain ⟨c,hc⟩:=I.ok.has x (.inl hk)
  obtain ⟨w',z⟩:=I.cell x c hc
  refine wpAny_storeName_cell I.ok.kind hk hc z (fun h' g9 hs=>?_)
  obtain ⟨oc,J7,UQ⟩:=id z
  refine h { s with heap:=h' } ⟨I.ok,I.os,I.bare,⟨fun b o e n hb hx=>?_,fun b o e n hb hx=>?_,I.base.free,fun b o e hx=>?_,I.base.jg,I.base.iB,I.base.jh⟩,⟨m,hn.sameBut hs (Ne.symm (mL x c hc)),fun j y v' e1 e2 e3=>?_⟩,fun y c' e=>?_,I.free,I.jf,fun p hp=>?_,tracked ⟨oc,J7,I.jf x c hc⟩ hs,by simpa using I.len⟩ ⟨c,hs,.inr hc⟩
  ·exact (hs.2 b (Nat.ne_of_lt (Nat.lt_of_lt_of_le (Heap.lt_size e) (I.ok.qZ x c zI hc)))).trans (I.base.keep b o e n hb hx)
  ·obtain ⟨sl,e1⟩:=I.base.slot b o e n hb hx
   exact ⟨sl,(hs.2 b (Nat.ne_of_lt (Nat.lt_of_lt_of_le (Heap.lt_size e) (I.ok.qZ x c zI hc)))).trans e1⟩
  ·obtain ⟨o',e1⟩:=I.base.there b o e hx
   exact ⟨o',(hs.2 b (Nat.ne_of_lt (Nat.lt_of_lt_of_le (Heap.lt_size e) (I.ok.qZ x c zI hc)))).trans e1⟩
  ·by_cases hj:j=i
   ·subst hj
    rw [hi] at e1;cases e1
    rw [List.getElem?_set_self IL] at e2
    cases e2
    exact ⟨u,r,.inr ⟨.inl hk,c,hc,g9⟩⟩
   ·rw [List.getElem?_set_ne (Ne.symm hj)] at e2
    obtain ⟨u',r',q⟩:=hl j y v' e1 e2 e3
    refine ⟨u',r',?_⟩
    rcases q with q | ⟨k,c',e,z'⟩
    ·exact .inl q
    ·refine .inr ⟨k,c',e,z'.sameBut hs ?_⟩
     rintro rfl
     exact hj (D3 hN e1 (I.ok.inj _ _ _ e hc ▸ hi))
  ·by_cases J8:c'=c
   ·subst J8;exact ⟨_,g9⟩
   ·obtain ⟨w2,z2⟩:=I.cell y c' e
    exact ⟨w2,z2.sameBut hs J8⟩
  ·obtain ⟨e,n,ne,nf,d⟩:=I.pin p hp
   refine ⟨(hs.2 p.1 ?_).trans e,n,ne,nf,d⟩
   intro q
   rw [q,J7] at e
   have q':oc=p.2:=Option.some.inj e
   exact d w' (by rw [<- q'];exact UQ)
theorem sR {M:Model}{A:Around}{E:Value->Shared->Prop}{i:Nat}{x:Str}{v:V}{u:Value}{Q:Unit->Shared->Prop}(I:Inv X pins σ H s)(hN:X.N.Nodup)(hi:X.N[i]?=some x)(hx:Loc X.env.scope x)(r:RelV v u)
  (h:∀ s',Inv X pins (σ.set i (some v)) H s'->Q () s') (hf:X.fn x=true\/X.env.scope.names.lookup x=some .local:=by first | exact .inl rfl | exact .inr rfl | assumption):wpAny M A (storeName X.env x u) Q E s :=
 DF I hN hi hx r (fun s' I' _=>h s' I') hf
theorem Inv.HJ {s':Shared}{ch:List Addr}(I:Inv X pins σ H s)(ho:s'.os=s.os)(u:Un (dD X.stack) ch H H' s.heap s'.heap)(az:cz X.prog X.w H' s'.heap)(hg:AllBare s'.gens)
  (jj:∀ b ∈ ch,(b ∈ X.ex\/X.cN.heap.objs.size<=b)/\b ≠ X.env.locals/\(∀ x c,X.env.cells.lookup x=some c->c ≠ b)/\∀ p ∈ X.pn++pins,p.1 ≠ b):Inv X pins σ H' s':=by
 obtain ⟨h',g',d',t',o'⟩:=s'
 have e:o'=s.os:=ho
 subst e
 exact I.call (g':=g') (t':=t') (d':=d') u az hg jj
end
abbrev XK:=Value->Option Addr->Hp->Prop
abbrev St:=List (Option V)
abbrev VK:=V->Hp->Prop
abbrev TE:=St->Hp->VK->Prop
abbrev TT:=St->Hp->(Bool->Hp->Prop)->Prop
abbrev TA:=St->Hp->(List V->Hp->Prop)->Prop
structure Ends where
 nx:St->Hp->Prop
 rt:VK
 bk:St->Hp->Prop:=fun _ _=>False
 ct:St->Hp->Prop:=fun _ _=>False
abbrev TS:=Ends->St->Hp->Prop
def EP (X:Cx)(pins:List (Addr×Obj))(σ:St)(Q:VK)(u:Value)(s':Shared):Prop:=∃ v H',Inv X pins σ H' s'/\RelV v u/\Q v H'
def TP (X:Cx)(pins:List (Addr×Obj))(σ:St)(Q:Bool->Hp->Prop)(b:Bool)(s':Shared):Prop:=∃ H',Inv X pins σ H' s'/\Q b H'
def AP (X:Cx)(pins:List (Addr×Obj))(σ:St)(Q:List V->Hp->Prop)(us:List Value)(s':Shared):Prop:=∃ vs H',Inv X pins σ H' s'/\Vals vs us/\Q vs H'
def SP (X:Cx)(pins:List (Addr×Obj))(D:Ends)(f:Flow)(s':Shared):Prop :=
 match f with
 | .next=>∃ aA H',Inv X pins aA H' s'/\D.nx aA H'
 | .brk=>∃ aA H',Inv X pins aA H' s'/\D.bk aA H'
 | .cont=>∃ aA H',Inv X pins aA H' s'/\D.ct aA H'
 | .ret u=>∃ v aA H',Inv X pins aA H' s'/\RelV v u/\D.rt v H'
def PE (X:Cx)(e:Expr)(t:TE):Prop :=
 ∀ (pins:List (Addr×Obj)) (s:Shared) (σ:St) (H:Hp) (Q:VK),Inv X pins σ H s->t σ H Q->wpAny (model X.prog X.w) X.A (eval e X.env) (EP X pins σ Q) X.xe s
def PT (X:Cx)(e:Expr)(t:TT):Prop :=
 ∀ (pins:List (Addr×Obj)) (s:Shared) (σ:St) (H:Hp) (Q:Bool->Hp->Prop),Inv X pins σ H s->t σ H Q->wpAny (model X.prog X.w) X.A (isTrue e X.env (eval e X.env)) (TP X pins σ Q) X.xe s
def PW (X:Cx)(e:Expr)(t:TT):Prop :=
 ∀ (whole:Sem Value) (pins:List (Addr×Obj)) (s:Shared) (σ:St) (H:Hp) (Q:Bool->Hp->Prop),Inv X pins σ H s->t σ H Q->wpAny (model X.prog X.w) X.A (isTrue e X.env whole) (TP X pins σ Q) X.xe s
theorem PW.pt {X:Cx}{e:Expr}{t:TT}(h:PW X e t):PT X e t:=h _
def PA (X:Cx)(es:List Expr)(t:TA):Prop :=
 ∀ (pos:Pos) (pins:List (Addr×Obj)) (s:Shared) (σ:St) (H:Hp) (Q:List V->Hp->Prop),Inv X pins σ H s->t σ H Q->wpAny (model X.prog X.w) X.A (spliced (backTo pos (starEach es X.env))) (AP X pins σ Q) X.xe s
def PS (X:Cx)(st:Stmt)(t:TS):Prop :=
 ∀ (pins:List (Addr×Obj)) (s:Shared) (σ:St) (H:Hp) (D:Ends),Inv X pins σ H s->t D σ H->wpAny (model X.prog X.w) X.A (exec st X.env) (SP X pins D) X.xe s
def eU (X:Cx)(st:List Stmt)(t:TS):Prop :=
 ∀ (pins:List (Addr×Obj)) (s:Shared) (σ:St) (H:Hp) (D:Ends),Inv X pins σ H s->t D σ H->wpAny (model X.prog X.w) X.A (execs st X.env) (SP X pins D) X.xe s
theorem ay {α:Type}{t:Sem α}{Q Q' : α->Shared->Prop}{M:Model}{A:Around}{E:Value->Shared->Prop}{s:Shared}(h:wpAny M A t Q E s)(hQ:∀ a s,Q a s->Q' a s):wpAny M A t Q' E s:=wpAny_mono h hQ fun _ _ x=>x
end L2
namespace L2
open PySem PySem.Spec PyProof.Rows
section
variable {X:Cx}
def eQ (i:Nat):TE:=fun σ H Q=>∃ v,σ[i]?=some (some v)/\Q v H
def tC (v:V):TE:=fun _ H Q=>Q v H
theorem jb {i:Nat} {x:Str} {pos:Pos} (hN:X.N[i]?=some x) (hv:fU X.env.scope x) (hd:(x==("__debug__" : Str))=false:=by decide) (iM:(x==("__classdict__" : Str))=false:=by decide):PE X (.Name x pos) (eQ i):=by
 intro pins s σ H Q I h
 obtain ⟨v,e,h⟩:=h
 obtain ⟨m,hn,hl⟩:=I.loc
 obtain ⟨u,r,l⟩:=hl i x v hN e hv
 have fin:EP X pins σ Q u s:=⟨v,H,I,r,h⟩
 rcases l with ⟨hk,hm⟩ | ⟨hk,c,hc,HK⟩
 ·exact wpAny_Name (wpAny_loadName_local I.ok.kind hk hn hm fin) hd
 ·rcases hk with hk | hk
  ·exact wpAny_Name (wpAny_loadName_cell I.ok.kind hk hc HK fin) hd
  ·exact wpAny_Name (wpAny_loadName_free I.ok.kind hk hc HK fin iM) hd
theorem xQ {i j pos}:PE X (.Constant (.int i) j pos) (tC (.int i)):=fun _ _ _ H _ I h=>wpAny_Constant_int ⟨.int i,H,I.tok _,⟨_,rfl⟩,h⟩
theorem T3 {b j pos}:PE X (.Constant (.bool b) j pos) (tC (.bl b)):=fun _ _ _ H _ I h=>Constant_bool ⟨.bl b,H,I,rfl,h⟩
theorem FU {x j pos}:PE X (.Constant (.str x) j pos) (tC (.str x)):=fun _ _ _ H _ I h=>Calls.Constant_str ⟨.str x,H,I.tok _,⟨_,rfl⟩,h⟩
def Gl (X:Cx)(x:Str):Prop:=X.env.kindOf x=some .globalImplicit
theorem EW {E:Value->Shared->Prop}{pins:List (Addr×Obj)}{s:Shared}{σ:St}{H:Hp}{x:Str}{u:Value}{pos:Pos}{Q:Value->Shared->Prop}(I:Inv X pins σ H s)(hg:Gl X x)(hm:X.mg x=some u)(h:Q u s)
  (hd:(x==("__debug__" : Str))=false:=by decide):wpAny (model X.prog X.w) X.A (eval (.Name x pos) X.env) Q E s :=
 Calls.Name_function_global I.ok.kind hg (Calls.loadGlobal_global (by rw [I.ok.glob];exact I.mod.glob.keeps I.bk) hm h) hd
theorem jD {E:Value->Shared->Prop}{pins:List (Addr×Obj)}{s:Shared}{σ:St}{H:Hp}{x:Str}{u:Value}{pos:Pos}{Q:Value->Shared->Prop}(I:Inv X pins σ H s)(hg:Gl X x)(hm:X.mg x=none)(hv:bootBuiltins x=some u)(h:Q u s)
  (hn:x ≠ "__name__" := by decide) (hd:(x==("__debug__" : Str))=false:=by decide):wpAny (model X.prog X.w) X.A (eval (.Name x pos) X.env) Q E s:=by
 obtain ⟨mb,h1,h2⟩:=I.mod.blt
 exact Calls.Name_function_global I.ok.kind hg (Calls.loadGlobal_builtin (by rw [I.ok.glob];exact I.mod.glob.keeps I.bk) hm (by rw [I.ok.blt];exact h1.keeps I.bk) ((h2 x hn).trans hv) h) hd
theorem QW {x:Str} {v:V} {u:Value} {pos:Pos} (hg:Gl X x) (hm:X.mg x=some u) (r:RelV v u) (hd:(x==("__debug__" : Str))=false:=by decide):PE X (.Name x pos) (tC v) :=
 fun _ _ _ H _ I h=>EW I hg hm ⟨v,H,I,r,h⟩ hd
theorem QX {x:Str} {v:V} {u:Value} {pos:Pos} (hg:Gl X x) (hm:X.mg x=none) (hv:bootBuiltins x=some u) (r:RelV v u) (hn:x ≠ "__name__" := by decide) (hd:(x==("__debug__" : Str))=false:=by decide):PE X (.Name x pos) (tC v) :=
 fun _ _ _ H _ I h=>jD I hg hm hv ⟨v,H,I,r,h⟩ hn hd
variable {a b:Expr}{ta tb:TE}{pos:Pos}
def tB (t:TE):TT:=fun σ H Q=>t σ H fun x H1=>∃ c,x=.bl c/\Q c H1
theorem SR {e:Expr}{t:TE}(h:PE X e t)(he:∀ whole,isTrue e X.env whole=(do let v <- whole;standAt e.pos;holding [v] (truthy v)):=by intro _;rfl):PT X e (tB t):=by
 intro pins s σ H Q I hw
 refine isTrue_plain (ay (h pins s σ H _ I hw) fun v s1 ⟨x,H1,I1,r1,q1⟩=>?_) (he _)
 obtain ⟨d,rfl,q⟩:=q1
 cases r1
 exact wpAny_truthy_bool ⟨H1,I1,q⟩
variable {tA uN:TT}{rest:List Expr}
def yY (t u:TT):TT:=fun σ H Q=>t σ H fun c H1=>if c=true then u σ H1 Q else Q false H1
def zJ (t u:TT):TT:=fun σ H Q=>t σ H fun c H1=>if c=true then Q true H1 else u σ H1 Q
def IM (t:TT):TT:=fun σ H Q=>t σ H fun c H1=>Q (!c) H1
theorem QY (ha:PT X a tA):PW X (.BoolOp .And [a] pos) tA:=by
 intro wh pins s σ H Q I h
 refine isTrue_and (ay (ha pins s σ H Q I h) fun c s1 e=>?_)
 cases c with
 |true=>exact isTrue_and_nil e
 |false=>exact e
theorem SU (ha:PT X a tA):PW X (.BoolOp .Or [a] pos) tA:=by
 intro wh pins s σ H Q I h
 refine isTrue_or (ay (ha pins s σ H Q I h) fun c s1 e=>?_)
 cases c with
 |false=>exact isTrue_or_nil e
 |true=>exact e
theorem FV (ha:PT X a tA)(hb:PW X (.BoolOp .And (b::rest) pos) uN):PW X (.BoolOp .And (a::b::rest) pos) (yY tA uN):=by
 intro wh pins s σ H Q I h
 refine isTrue_and (ay (ha pins s σ H _ I h) fun c s1 ⟨H1,I1,q1⟩=>?_)
 cases c with
 |true=>exact hb wh pins s1 σ H1 Q I1 q1
 |false=>exact ⟨H1,I1,q1⟩
theorem HL (ha:PT X a tA)(hb:PW X (.BoolOp .Or (b::rest) pos) uN):PW X (.BoolOp .Or (a::b::rest) pos) (zJ tA uN):=by
 intro wh pins s σ H Q I h
 refine isTrue_or (ay (ha pins s σ H _ I h) fun c s1 ⟨H1,I1,q1⟩=>?_)
 cases c with
 |true=>exact ⟨H1,I1,q1⟩
 |false=>exact hb wh pins s1 σ H1 Q I1 q1
theorem SV (ha:PT X a tA):PT X (.UnaryOp .Not a pos) (IM tA):=by
 intro pins s σ H Q I h
 exact isTrue_not (ha pins s σ H (fun c H1=>Q (!c) H1) I h)
def yq (ta tb:TE):TE:=fun σ H Q=>ta σ H fun x H1=>∃ c,x=.bl c/\if c=true then tb σ H1 Q else Q (.bl false) H1
def yZ (ta tb:TE):TE:=fun σ H Q=>ta σ H fun x H1=>∃ c,x=.bl c/\if c=true then Q (.bl true) H1 else tb σ H1 Q
def HM (ta:TE):TE:=fun σ H Q=>ta σ H fun x H1=>∃ c,x=.bl c/\Q (.bl (!c)) H1
theorem SW {op}{t:TE}(h:PE X a t):PE X (.BoolOp op [a] pos) t:=fun pins s σ H Q I hw=>BoolOp_one (h pins s σ H Q I hw)
theorem FW (ha:PE X a ta)(hb:PE X (.BoolOp .And (b::rest) pos) tb):PE X (.BoolOp .And (a::b::rest) pos) (yq ta tb):=by
 intro pins s σ H Q I h
 refine BoolOp_and (ay (ha pins s σ H _ I h) fun v s1 ⟨x,H1,I1,r1,q1⟩=>?_)
 obtain ⟨c,rfl,q1⟩:=q1
 cases r1
 refine wpAny_truthy_bool ?_
 cases c with
 |true=>exact hb pins s1 σ H1 Q I1 q1
 |false=>exact ⟨.bl false,H1,I1,rfl,q1⟩
theorem HN (ha:PE X a ta)(hb:PE X (.BoolOp .Or (b::rest) pos) tb):PE X (.BoolOp .Or (a::b::rest) pos) (yZ ta tb):=by
 intro pins s σ H Q I h
 refine BoolOp_or (ay (ha pins s σ H _ I h) fun v s1 ⟨x,H1,I1,r1,q1⟩=>?_)
 obtain ⟨c,rfl,q1⟩:=q1
 cases r1
 refine wpAny_truthy_bool ?_
 cases c with
 |false=>exact hb pins s1 σ H1 Q I1 q1
 |true=>exact ⟨.bl true,H1,I1,rfl,q1⟩
theorem SX (ha:PE X a ta):PE X (.UnaryOp .Not a pos) (HM ta):=by
 intro pins s σ H Q I h
 refine UnaryOp_ (ay (ha pins s σ H _ I h) fun v s1 ⟨x,H1,I1,r1,q1⟩=>?_)
 obtain ⟨c,rfl,q1⟩:=q1
 cases r1
 exact not_of (wpAny_truthy_bool ⟨.bl (!c),H1,I1,rfl,q1⟩)
end
end L2
namespace L2
open PySem PySem.Spec PyProof.Rows
def aN (K:PySem.W.Frag)(H:Hp)(a:Addr)(xs:List V):Prop :=
 Rd H a (.lst xs) \/
  ∃ (o:Obj) (its:Array Value) (n:Nat),K.lookup a=some o/\o.cls=.type "list" /\ o.dict=none/\o.data=.seq its n/\its.size<=sizeLine/\Vals xs its.toList
def bY (K:PySem.W.Frag)(H:Hp)(a:Addr)(xs:List V):Prop :=
 Rd H a (.tup xs) \/
  ∃ (o:Obj) (its:Array Value) (n:Nat),K.lookup a=some o/\o.cls=.type "tuple" /\ o.data=.seq its n/\its.size<=sizeLine/\Vals xs its.toList
def UR:Value->Option V
 | .none=>some .aS
 | .bool b=>some (.bl b)
 | .int i _=>some (.int i)
 | .str x _=>some (.str x)
 | .bytes b _=>some (.gZ b)
 | .float b _=>some (.mG b)
 | .ref a=>some (.ref a)
 | .type n=>some (.ty n)
 |_=>none
theorem RelV.abs {x:V}{u:Value}(r:RelV x u):UR u=some x:=by
 cases x with
 |aS=>cases r;rfl
 |bl _=>cases r;rfl
 |int _=>obtain ⟨t,rfl⟩:=r;rfl
 |str _=>obtain ⟨t,rfl⟩:=r;rfl
 |gZ _=>obtain ⟨t,rfl⟩:=r;rfl
 |mG _=>obtain ⟨t,rfl⟩:=r;rfl
 |ref _=>cases r;rfl
 |ty _=>cases r;rfl
theorem RelV.inj {x y:V}{u:Value}(r:RelV x u)(q:RelV y u):x=y:=Option.some.inj (r.abs.symm.trans q.abs)
theorem Vals.inj:∀ {xs ys:List V} {us:List Value},Vals xs us->Vals ys us->xs=ys
 |_,_,_,.nil,.nil=>rfl
 |_,_,_,.cons r t,.cons r' t'=>by rw [r.inj r',Vals.inj t t']
section
variable {X:Cx}{pins:List (Addr×Obj)}{σ:St}{H:Hp}{s:Shared}{a:Addr}{xs ys:List V}
theorem aN.of {K:PySem.W.Frag}(h:H a=some (.lst xs)):aN K H a xs:=.inl (.inl h)
theorem bY.of {K:PySem.W.Frag}(h:H a=some (.tup xs)):bY K H a xs:=.inl (.inl h)
theorem Inv.list (I:Inv X pins σ H s)(h:aN X.K H a xs):∃ its:List Value,Vals xs its/\PlainL s.heap a its.toArray/\xs.length<=sizeLine:=by
 rcases h with h | ⟨o,its,n,hk,hc,hd,hs,hz,r⟩
 ·obtain ⟨z,its,n,r,e⟩:=h.ok I.az
  exact ⟨its,r,⟨_,n,e,rfl,rfl,rfl⟩,z⟩
 ·refine ⟨its.toList,r,⟨o,n,I.dQ a o hk,hc,hd,by simpa using hs⟩,?_⟩
  have e:=r.length
  simp only [Array.length_toList] at e
  omega
theorem Inv.tuple (I:Inv X pins σ H s)(h:bY X.K H a xs):∃ its:List Value,Vals xs its/\IsTup s.heap a its.toArray/\xs.length<=sizeLine:=by
 rcases h with h | ⟨o,its,n,hk,hc,hs,hz,r⟩
 ·obtain ⟨z,its,r,p⟩:=h.ok I.az
  exact ⟨its,r,p,z⟩
 ·refine ⟨its.toList,r,⟨o,I.dQ a o hk,hc,n,by simpa using hs⟩,?_⟩
  have e:=r.length
  simp only [Array.length_toList] at e
  omega
theorem Inv.D4 (I:Inv X pins σ H s)(h:aN X.K H a xs)(h':aN X.K H a ys):xs=ys:=by
 obtain ⟨its,r,⟨o,n,e,_,_,d⟩,_⟩:=I.list h
 obtain ⟨its',r',⟨o',n',e',_,_,d'⟩,_⟩:=I.list h'
 rw [e] at e';cases e'
 rw [d] at d'
 injection d' with d1 _
 have:its=its':=by simpa using congrArg Array.toList d1
 subst this
 exact r.inj r'
theorem Inv.Pb (I:Inv X pins σ H s)(h:bY X.K H a xs)(h':bY X.K H a ys):xs=ys:=by
 obtain ⟨its,r,⟨o,e,_,n,d⟩,_⟩:=I.tuple h
 obtain ⟨its',r',⟨o',e',_,n',d'⟩,_⟩:=I.tuple h'
 rw [e] at e';cases e'
 rw [d] at d'
 injection d' with d1 _
 have:its=its':=by simpa using congrArg Array.toList d1
 subst this
 exact r.inj r'
end
abbrev Cx.gT (X:Cx)(E:Value->Shared->Prop):Cx:={ X with xe:=E }
abbrev Cx.rg (X:Cx):Cx:=X.gT fun _ _=>False
theorem Cx.Ok.gT {X:Cx}(ok:X.Ok)(E:Value->Shared->Prop):(X.gT E).Ok :=
 ⟨ok.mod,ok.kind,ok.glob,ok.blt,ok.above,ok.inj,ok.has,ok.qZ,ok.hd,ok.frames,ok.mJ,ok.J5,ok.bs,ok.mK,ok.qJ,ok.uv,ok.iC,ok.o5⟩
theorem Cx.Ok.kq {X:Cx}{E:Value->Shared->Prop}(ok:(X.gT E).Ok):X.Ok :=
 ⟨ok.mod,ok.kind,ok.glob,ok.blt,ok.above,ok.inj,ok.has,ok.qZ,ok.hd,ok.frames,ok.mJ,ok.J5,ok.bs,ok.mK,ok.qJ,ok.uv,ok.iC,ok.o5⟩
section
variable {X:Cx}{pins:List (Addr×Obj)}{σ:St}{H:Hp}{s:Shared}{E:Value->Shared->Prop}
theorem Inv.gT (I:Inv X pins σ H s)(E:Value->Shared->Prop):Inv (X.gT E) pins σ H s:=⟨I.ok.gT E,I.os,I.bare,I.base,I.loc,I.cell,I.free,I.jf,I.pin,I.az,I.len⟩
theorem Inv.kq (I:Inv (X.gT E) pins σ H s):Inv X pins σ H s:=⟨I.ok.kq,I.os,I.bare,I.base,I.loc,I.cell,I.free,I.jf,I.pin,I.az,I.len⟩
theorem SP.kq {D:Ends}{f:Flow}{s':Shared}(h:SP (X.gT E) pins D f s'):SP X pins D f s':=by
 cases f with
 |next=>obtain ⟨aA,H',I,q⟩:=h;exact ⟨aA,H',I.kq,q⟩
 |brk=>obtain ⟨aA,H',I,q⟩:=h;exact ⟨aA,H',I.kq,q⟩
 |cont=>obtain ⟨aA,H',I,q⟩:=h;exact ⟨aA,H',I.kq,q⟩
 |ret u=>obtain ⟨v,aA,H',I,r,q⟩:=h;exact ⟨v,aA,H',I.kq,r,q⟩
theorem eU.rg {st:List Stmt}{t:TS}(h:eU X.rg st t):eU X st t:=fun pins s σ H D I hw =>
 wpAny_mono (h pins s σ H D (I.gT _) hw) (fun _ _ q=>q.kq) fun _ _ z=>False.elim z
end
section
variable {X:Cx}{st:Stmt}{rest:List Stmt}{t u:TS}{e:Expr}{te:TE}{pos:Pos}
def HP:TS:=fun D σ H=>D.nx σ H
def y3 (t u:TS):TS:=fun D σ H=>t { D with nx:=u D } σ H
theorem QZ:eU X [] HP:=fun _ _ σ H _ I h=>wpAny_execs_nil ⟨σ,H,I,h⟩
theorem D5 (h1:PS X st t)(h2:eU X rest u):eU X (st::rest) (y3 t u):=by
 intro pins s σ H D I h
 refine wpAny_execs_cons (ay (h1 pins s σ H { D with nx:=u D } I h) fun f s1 q=>?_)
 cases f with
 |next =>
  obtain ⟨aA,H',I',q⟩:=q
  exact h2 pins s1 aA H' D I' q
 |ret v=>exact q
 |brk=>exact q
 |cont=>exact q
theorem Q0 (h1:PS X st t):eU X [st] t:=by
 intro pins s σ H D I h
 refine wpAny_execs_cons (ay (h1 pins s σ H D I h) fun f s1 q=>?_)
 cases f with
 |next=>exact wpAny_execs_nil q
 |ret v=>exact q
 |brk=>exact q
 |cont=>exact q
theorem Inv.quiet {pins:List (Addr×Obj)}{σ:St}{H:Hp}{s:Shared}(I:Inv X pins σ H s):interactive X.env=false:=by simp [interactive,I.ok.kind]
def kB (te:TE):TS:=fun D σ H=>te σ H fun _ H1=>D.nx σ H1
theorem kj (he:PE X e te)(hs:swapsWith e none pos.line X.env=pure false:=by rfl):PS X (.Expr e pos) (kB te):=by
 intro pins s σ H D I h
 exact wpAny_Expr_any (ay (he pins s σ H _ I h) fun v s1 ⟨x,H1,I1,r1,q1⟩=>⟨σ,H1,I1,q1⟩) I.quiet hs
def uw (te:TE):TS:=fun D σ H=>te σ H D.rt
theorem xR (he:PE X e te):PS X (.Return (some e) pos) (uw te):=by
 intro pins s σ H D I h
 exact wpAny_Return_some (ay (he pins s σ H _ I h) fun v s1 ⟨x,H1,I1,r1,q1⟩=>⟨x,σ,H1,I1,r1,q1⟩)
def y4 (c:TT)(t u:TS):TS:=fun D σ H=>c σ H fun b H1=>if b=true then t D σ H1 else u D σ H1
theorem HQ {c:Expr}{a b:List Stmt}{tc:TT}(hc:PT X c tc)(ha:eU X a t)(hb:eU X b u):PS X (.If c a b pos) (y4 tc t u):=by
 intro pins s σ H D I h
 refine wpAny_If (ay (hc pins s σ H _ I h) fun d s1 ⟨H1,I1,q1⟩=>?_)
 cases d with
 |true=>exact ha pins s1 σ H1 D I1 q1
 |false=>exact hb pins s1 σ H1 D I1 q1
def tS:TS:=fun _ _ _=>False
theorem wL {cA:List Stmt}:eU X cA tS:=fun _ _ _ _ _ _ h=>h.elim
end
abbrev TG:=V->St->Hp->(St->Hp->Prop)->Prop
abbrev mM:=List V->St->Hp->(St->Hp->Prop)->Prop
def PG (X:Cx)(target:Expr)(t:TG):Prop :=
 ∀ (pins:List (Addr×Obj)) (s:Shared) (σ:St) (H:Hp) (v:V) (u:Value) (Q:St->Hp->Prop),Inv X pins σ H s->RelV v u->t v σ H Q ->
  wpAny (model X.prog X.w) X.A (assign target X.env u) (fun _ s'=>∃ aA H',Inv X pins aA H' s'/\Q aA H') X.xe s
def uO (X:Cx)(ts:List Expr)(t:mM):Prop :=
 ∀ (pins:List (Addr×Obj)) (s:Shared) (σ:St) (H:Hp) (vs:List V) (us:List Value) (Q:St->Hp->Prop),Inv X pins σ H s->Vals vs us->t vs σ H Q ->
  wpAny (model X.prog X.w) X.A (assignInOrder ((assignEach ts X.env).map (·.2)) us) (fun _ s'=>∃ aA H',Inv X pins aA H' s'/\Q aA H') X.xe s
abbrev y6:=V->V->V->Hp->(Hp->Prop)->Prop
def IP (X:Cx)(t:y6):Prop :=
 ∀ (pins:List (Addr×Obj)) (s:Shared) (σ:St) (H:Hp) (o i v:V) (ov iv u:Value) (Q:Hp->Prop),Inv X pins σ H s->RelV o ov->RelV i iv->RelV v u->t o i v H Q ->
  wpAny (model X.prog X.w) X.A (setItem ov iv u) (fun _ s'=>∃ H',Inv X pins σ H' s'/\Q H') X.xe s
section
variable {X:Cx}{pos:Pos}
def iA (i:Nat):TG:=fun v σ H Q=>Q (σ.set i (some v)) H
theorem ox {i:Nat}{x:Str}(hN:X.N.Nodup)(hi:X.N[i]?=some x)(hx:Loc X.env.scope x)(hf:X.fn x=true\/X.env.scope.names.lookup x=some .local:=by first | exact .inl rfl | exact .inr rfl | assumption):PG X (.Name x pos) (iA i):=by
 intro pins s σ H v u Q I r h
 exact wpAny_assign_Name (sR I hN hi hx r (fun s' I'=>⟨_,H,I',h⟩) hf)
def y8:mM:=fun vs σ H Q=>vs=[]/\Q σ H
def oQ (t:TG)(u:mM):mM:=fun vs σ H Q=>∃ v r,vs=v::r/\t v σ H fun aA H'=>u r aA H' Q
theorem EX:uO X [] y8:=by
 intro pins s σ H vs us Q I r h
 obtain ⟨e,h⟩:=h
 subst e
 cases r
 exact assignInOrder_nil ⟨σ,H,I,h⟩
theorem pQ {e:Expr}{es:List Expr}{t:TG}{u:mM}(h1:PG X e t)(h2:uO X es u)
  (hs:(assignEach (e::es) X.env).map (·.2)=assign e X.env::(assignEach es X.env).map (·.2):=by rfl):uO X (e::es) (oQ t u):=by
 intro pins s σ H vs us Q I r h
 obtain ⟨v,vr,e1,h⟩:=h
 subst e1
 cases r with
 |cons r rr =>
  rw [hs]
  refine assignInOrder_cons (ay (h1 pins s σ H _ _ _ I r h) fun _ s1 ⟨aF,H1,I1,q1⟩=>?_)
  exact h2 pins s1 aF H1 _ _ Q I1 rr q1
def y9 (K:PySem.W.Frag)(n:Nat)(t:mM):TG:=fun v σ H Q=>∃ a xs,v=.ref a/\bY K H a xs/\xs.length=n/\t xs σ H Q
theorem FX {es:List Expr}{k:Nat}{t:mM}{n:Nat}(hc:X.calm=true)(h:uO X es t)
  (hn:(assignEach es X.env).length=n:=by rfl) (gG:(assignEach es X.env).findIdx? (·.1)=none:=by rfl):PG X (.Tuple es k pos) (y9 X.K n t):=by
 intro pins s σ H v u Q I r hw
 obtain ⟨a,xs,e1,hq,hl,hw⟩:=hw
 subst e1
 cases r
 obtain ⟨its,rv,ht,hz⟩:=I.tuple hq
 refine assign_Tuple_tuple (I.ok.hd hc) ht (by simp [hn,<- hl,rv.length]) gG fun h' hx=>?_
 have I1:Inv X pins σ H { s with heap:=h' }:=I.kept (t':=s.toks) fun b o e=>hx b o (Nat.ne_of_lt (Heap.lt_size e)) e
 exact h pins _ σ H xs _ Q I1 (by simpa using rv) hw
def za (to ti:TE)(t:y6):TG:=fun v σ H Q=>to σ H fun o H1=>ti σ H1 fun i H2=>t o i v H2 fun H3=>Q σ H3
theorem tT {o i:Expr}{to ti:TE}{t:y6}(ho:PE X o to)(hi:PE X i ti)(hs:IP X t)
  (ha:∀ v,assign (.Subscript o i pos) X.env v=(do
   let ov <- holding [v] (eval o X.env)
   let iv <- holding [v,ov] (eval i X.env)
   standAt pos
   holding [v,ov,iv] (setItem ov iv v)
   release [v,ov,iv] []):=by intro _;rfl):PG X (.Subscript o i pos) (za to ti t):=by
 intro pins s σ H v u Q I r h
 rw [ha]
 refine wpAny_bind (wpAny_holding (ay (ho pins s σ H _ I h) fun ov s1 ⟨x,H1,I1,r1,q1⟩=>?_))
 refine wpAny_bind (wpAny_holding (ay (hi pins s1 σ H1 _ I1 q1) fun iv s2 ⟨y,H2,I2,r2,q2⟩=>?_))
 refine wpAny_bind (wpAny_standAt (wpAny_bind (wpAny_holding (ay (hs pins s2 σ H2 x y v ov iv u _ I2 r1 r2 r q2) fun _ s3 ⟨H3,I3,q3⟩=>?_))))
 exact wpAny_release ⟨σ,H3,I3,q3⟩
def mh (te:TE)(g:TG):TS:=fun D σ H=>te σ H fun x H1=>g x σ H1 D.nx
theorem FY {tg e:Expr}{te:TE}{g:TG}(he:PE X e te)(hg:PG X tg g)(hs:swapsWithSole [tg] e pos.line X.env=pure false:=by rfl)(hw:swappedStores [tg] e X.env=pure none:=by rfl)
  (h1:(assignEach [tg] X.env).map (·.2)=[assign tg X.env]:=by rfl):PS X (.Assign [tg] e pos) (mh te g):=by
 intro pins s σ H D I h
 refine wpAny_Assign_stores (ay (he pins s σ H _ I h) fun v s1 ⟨x,H1,I1,r1,q1⟩=>?_) hs hw
 rw [h1]
 exact ay (hg pins s1 σ H1 x v _ I1 r1 q1) fun _ s2 q=>q
theorem FZ {i:Nat}{x:Str}{e:Expr}{te:TE}{pos':Pos}(hN:X.N.Nodup)(hi:X.N[i]?=some x)(hx:Loc X.env.scope x)(he:PE X e te)(hs:swapsWith e (some (.Name x pos')) pos.line X.env=pure false:=by rfl)(hf:X.fn x=true\/X.env.scope.names.lookup x=some .local:=by first | exact .inl rfl | exact .inr rfl | assumption) :
  PS X (.Assign [.Name x pos'] e pos) (mh te (iA i)):=by
 intro pins s σ H D I h
 refine wpAny_Assign_Name (ay (he pins s σ H _ I h) fun v s1 ⟨y,H1,I1,r1,q1⟩=>?_) hs
 exact sR I1 hN hi hx r1 (fun s2 I2=>⟨_,H1,I2,q1⟩) hf
def IQ (i j:Nat)(ta:TA):TS:=fun D σ H=>ta σ H fun vs H1=>∃ v w,vs=[v,w]/\D.nx ((σ.set i (some v)).set j (some w)) H1
theorem SY {i j:Nat}{x y:Str}{a b:Expr}{ta:TA}{px py pt:Pos}{kt k2 mN}(hc:X.calm=true)(hN:X.N.Nodup)(hi:X.N[i]?=some x)(hj:X.N[j]?=some y)(bw:i ≠ j)
  (hx:X.env.scope.names.lookup x=some .local) (hy:X.env.scope.names.lookup y=some .local) (ha:PA X [a,b] ta)
  (hw:swappedStores [.Tuple [.Name x px,.Name y py] kt pt] (.Tuple [a,b] k2 mN) X.env=pure (some [x,y]))
  (hs:swapsWithSole [.Tuple [.Name x px,.Name y py] kt pt] (.Tuple [a,b] k2 mN) pos.line X.env=pure false:=by rfl) :
  PS X (.Assign [.Tuple [.Name x px,.Name y py] kt pt] (.Tuple [a,b] k2 mN) pos) (IQ i j ta):=by
 intro pins s σ H D I h
 rw [exec_Assign_arm]
 refine wpAny_bind (wpAny_standAt ?_)
 rw [hs]
 refine wpAny_bind (wpAny_pure ?_)
 rw [if_neg (by decide)]
 refine wpAny_bind (Tuple_ (ay (ha _ pins s σ H _ I h) fun us s1 ⟨vs,H1,I1,r1,q1⟩=>?_))
 obtain ⟨v,w,e1,q1⟩:=q1
 subst e1
 obtain ⟨u1,u2,rfl,rv,mO⟩:∃ u1 u2,us=[u1,u2]/\RelV v u1/\RelV w u2:=by
  cases r1 with
  |cons p q =>
   cases q with
   |cons p' q' =>
    cases q'
    exact ⟨_,_,rfl,p,p'⟩
 refine wpAny_newObj_type ?_ (by show 2<=sizeLine;decide)
 have I2:Inv X pins σ H1 { s1 with heap:=s1.heap.push { cls:=.type "tuple",data:=.seq [u1,u2].toArray } }:=I1.kept (t':=s1.toks) fun b o e=>Heap.get?_push_of_some _ e
 rw [hw]
 refine wpAny_bind (wpAny_pure ?_)
 show wpAny (model X.prog X.w) X.A (do rule "assign.swapped-stores"; let items <- unpackItems (.ref s1.heap.objs.size) 2 none;assignInOrder [fun v=>bindName X.env y v,fun v=>bindName X.env x v] items.reverse;pure Flow.next) _ _ _
 refine wpAny_bind (wpAny_rule (wpAny_bind (unpackItems_tuple (items:=#[u1,u2]) (I.ok.hd hc) (IsTup.new s1.heap _) fun h' dG=>?_)))
 have I3:=I2.kept (h':=h') (t':=s1.toks) fun b o e=>dG b o (Nat.ne_of_lt (Heap.lt_size e)) e
 show wpAny _ _ (assignInOrder [fun v=>bindName X.env y v,fun v=>bindName X.env x v] [u2,u1] >>= fun _=>pure Flow.next) _ _ _
 refine wpAny_bind (assignInOrder_cons (wpAny_bindName (sR I3 hN hj (.inl hy) mO (fun s2 I4=>?_) (.inr hy))))
 refine assignInOrder_cons (wpAny_bindName (sR I4 hN hi (.inl hx) rv (fun s3 I5=>assignInOrder_nil (wpAny_pure ?_)) (.inr hx)))
 rw [List.set_comm _ _ (Ne.symm bw)] at I5
 exact ⟨_,H1,I5,q1⟩
end
section
variable {X:Cx}{pos:Pos}
def F0 (c:TT)(tb:TS):TS:=fun D σ H=>∃ W:Nat->St->Hp->Prop,(∃ m,W m σ H)/\∀ m σ H,W m σ H ->
 c σ H fun b H1=>if b=true then ∃ N:St->Hp->Prop,(∀ aA H',N aA H'->∃ m',m'<m/\W m' aA H')/\tb { D with nx:=N,ct:=N,bk:=D.nx } σ H1 else D.nx σ H1
theorem Qa {c:Expr}{body:List Stmt}{tc:TT}{tb:TS}(hp:PassesOwn (model X.prog X.w) X.A X.env X.xe)(hc:PT X c tc)(hb:eU X body tb):PS X (.While c body [] pos) (F0 tc tb):=by
 intro pins s σ H D I h
 obtain ⟨W,⟨m0,w0⟩,turn⟩:=h
 refine wpAny_While (codeAny_whileLoop (fun n s'=>∃ aA H',Inv X pins aA H' s'/\W n aA H') ?_ m0 ⟨σ,H,I,w0⟩)
 rintro n s1 ⟨aF,H1,I1,w1⟩
 refine wpAny_passesOwn hp (ay (hc pins s1 aF H1 _ I1 (turn n aF H1 w1)) fun b s2 ⟨H2,I2,q2⟩=>?_)
 cases b with
 |true =>
  obtain ⟨N,hN,q2⟩:=q2
  rw [if_pos rfl]
  refine wpAny_passesOwn hp (ay (hb pins s2 aF H2 _ I2 q2) fun f s3 q3=>?_)
  cases f with
  |next =>
   obtain ⟨iN,H3,I3,n3⟩:=q3
   obtain ⟨m',hm,w3⟩:=hN iN H3 n3
   exact ⟨m',hm,iN,H3,I3,w3⟩
  |cont =>
   obtain ⟨iN,H3,I3,n3⟩:=q3
   obtain ⟨m',hm,w3⟩:=hN iN H3 n3
   exact ⟨m',hm,iN,H3,I3,w3⟩
  |brk=>exact q3
  |ret v=>exact q3
 |false =>
  rw [if_neg Bool.false_ne_true]
  exact wpAny_execs_nil ⟨aF,H2,I2,q2⟩
end
structure It where
 go:Nat->Hp->Prop
 uP:Nat->Hp->V->Hp->Prop
 stop:Nat->Hp->Prop
def gw (X:Cx)(pins:List (Addr×Obj))(H:Hp)(b:Addr):Prop :=
 H b=none/\b ≠ X.env.locals/\b ∉ X.fs/\(b ∈ X.ex\/X.cN.heap.objs.size<=b)/\(∀ x c,X.env.cells.lookup x=some c->c ≠ b)/\∀ p ∈ X.pn++pins,p.1 ≠ b
theorem Inv.qK {X:Cx}{pins:List (Addr×Obj)}{σ:St}{H H':Hp}{s:Shared}{b:Addr}(I:Inv X pins σ H s)(hb:s.heap.objs.size<=b)(hn:H' b=none):gw X pins H' b:=by
 refine ⟨hn,Nat.ne_of_gt (Nat.lt_of_lt_of_le I.lt hb),I.UO hb,.inr (Nat.le_trans I.sz hb),fun x c e z=>?_,fun p hp z=>?_⟩
 ·obtain ⟨v,q⟩:=I.cell x c e
  exact absurd (Nat.lt_of_lt_of_le q.lt (by rw [z];exact hb)) (Nat.lt_irrefl _)
 ·exact absurd (Nat.lt_of_lt_of_le (Heap.lt_size (I.pin p hp).1) (by rw [z];exact hb)) (Nat.lt_irrefl _)
structure Turn (P:Program) (w:World) (K:PySem.W.Frag) (tg:Expr) (J:It) (fp:List Addr) (it:Addr) (tn:Nat->Heap->Prop):Prop where
 mem:it ∈ fp
 obj:∀ i h,tn i h->∀ b ∈ fp,∃ o,h.get? b=some o/\∀ v,o.data ≠ .cell v
 keep:∀ i h h',tn i h->(∀ b ∈ fp,∀ o,h.get? b=some o->h'.get? b=some o)->tn i h'
 item:∀ (X:Cx),X.prog=P->X.w=w->X.K=K->X.calm=true->∀ (i:Nat) (pins:List (Addr×Obj)) (s:Shared) (σ:St) (H:Hp) (E:Value->Shared->Prop),Inv X pins σ H s->(∀ b ∈ fp,gw X pins H b)->tn i s.heap->J.go i H ->
  wpAny (model P w) X.A (pyNext (.ref it)) (fun r s1=>∃ u,r=some u /\
   wpAny (model P w) X.A (letOwnedTupleGo tg (.ref it) u) (fun _ s2=>∃ x H',Inv X pins σ H' s2/\RelV x u/\J.uP i H x H'/\tn (i+1) s2.heap/\∀ b ∈ fp,H' b=none) E s1) E s
 done:∀ (X:Cx),X.prog=P->X.w=w->X.K=K->X.calm=true->∀ (i:Nat) (pins:List (Addr×Obj)) (s:Shared) (σ:St) (H:Hp) (E:Value->Shared->Prop),Inv X pins σ H s->(∀ b ∈ fp,gw X pins H b)->tn i s.heap->J.stop i H ->
  wpAny (model P w) X.A (pyNext (.ref it)) (fun r s1=>r=none/\Inv X pins σ H s1) E s
 self:∀ (A:Around) (i:Nat) (s:Shared) (Q:Value->Shared->Prop) (E:Value->Shared->Prop),tn i s.heap->Q (.ref it) s->wpAny (model P w) A (pyIter (.ref it)) Q E s
abbrev TI:=St->Hp->(It->Hp->Prop)->Prop
def J9 (X:Cx)(pins:List (Addr×Obj))(σ:St)(tg:Expr)(R:It->Hp->Prop)(uQ:Value)(s2:Shared):Prop :=
 ∃ (it:Addr) (fp:List Addr) (tn:Nat->Heap->Prop) (J:It) (H':Hp),uQ=.ref it/\Inv X pins σ H' s2/\Turn X.prog X.w X.K tg J fp it tn/\tn 0 s2.heap/\(∀ b ∈ fp,gw X pins H' b)/\R J H'
def PI (X:Cx)(tg iter:Expr)(wi:TI):Prop :=
 ∀ (pins:List (Addr×Obj)) (s:Shared) (σ:St) (H:Hp) (R:It->Hp->Prop),Inv X pins σ H s->wi σ H R ->
  wpAny (model X.prog X.w) X.A (eval iter X.env) (fun v s1=>wpAny (model X.prog X.w) X.A (pyIter v) (J9 X pins σ tg R) X.xe s1) X.xe s
theorem HR {M:Model}{A:Around}{E:Value->Shared->Prop}{s:Shared}{tg:Expr}{it:Addr}{u:Value}{o:Obj}{n:String}{vs:Array Value}{Q:Unit->Shared->Prop}(ho:s.heap.get? it=some o)(hc:o.cls=.type n)(hd:o.data=.fields vs)
  (hn:["enumerate", "zip", "dict_itemiterator", "dict_reverseitemiterator", "odict_iterator", "itertools.zip_longest", "itertools.pairwise"].contains n=false) (hQ:Q () s):wpAny M A (letOwnedTupleGo tg (.ref it) u) Q E s:=by
 unfold letOwnedTupleGo
 cases tg<;>first
  |exact wpAny_pure hQ
  |(cases u<;>first
    |exact wpAny_pure hQ
    |(refine wpAny_bind (wpAny_load ho ?_)
      rw [hc,hd]
      show wpAny M A (if (["enumerate", "zip", "dict_itemiterator", "dict_reverseitemiterator", "odict_iterator", "itertools.zip_longest", "itertools.pairwise"].contains n&&vs[0]?==some (rawInt _))=true then _ else _) Q E s
      rw [if_neg (by intro h;rw [hn,Bool.false_and] at h;cases h)]
      exact wpAny_pure hQ))
def Ka (K:PySem.W.Frag)(a:Addr):It :=
 ⟨fun i H=>∃ xs x,aN K H a xs/\xs[i]?=some x,fun i H x H'=>H'=H/\∀ xs,aN K H a xs->xs[i]?=some x,fun i H=>∃ xs,aN K H a xs/\xs.length<=i⟩
def uR (lo:Int)(n:Nat):It:=⟨fun i _=>i<n,fun i H x H'=>H'=H/\x=.int (lo+i),fun i _=>n<=i⟩
theorem Pg {P:Program}{w:World}{K:PySem.W.Frag}{tg:Expr}(a it:Addr):Turn P w K tg (Ka K a) [it] it (fun i h=>h.IsListIter it a i) where
 mem:=by simp
 obj:=fun i h st b hb=>by
  have e:b=it:=by simpa using hb
  subst e
  obtain ⟨o,e,c,d⟩:=st
  exact ⟨o,e,fun v z=>by rw [d] at z;cases z⟩
 keep:=fun i h h' st k=>st.at fun o e=>k it (by simp) o e
 item:=by
  intro X hP hw hK hc i pins s σ H E I hf st hg
  subst hP hw hK
  obtain ⟨xs,x,hq,hx⟩:=hg
  obtain ⟨its,rv,p,hz⟩:=I.list hq
  obtain ⟨u,hu,ru⟩:=rv.get hx
  obtain ⟨f0,f1,f2,f3,f4,f5⟩:=hf it (by simp)
  refine wpAny_pyNext_list_item st p.isList (x:=u) (by simpa using hu) fun h' af sb=>?_
  have I1:Inv X pins σ H { s with heap:=h' }:=I.turned (t':=s.toks) (fun b o hb e=>(sb.2 b hb).trans e) f0 f1 f3 f4 f5
  obtain ⟨o,e,c,d⟩:=id af
  exact ⟨u,rfl,HR (s:={ s with heap:=h' }) e c d (by decide) ⟨x,H,I1,ru,⟨rfl,fun ys hy=>by rw [I.D4 hy hq];exact hx⟩,af,fun b hb=>(hf b hb).1⟩⟩
 done:=by
  intro X hP hw hK hc i pins s σ H E I hf st hg
  subst hP hw hK
  obtain ⟨xs,hq,hx⟩:=hg
  obtain ⟨its,rv,p,hz⟩:=I.list hq
  obtain ⟨f0,f1,f2,f3,f4,f5⟩:=hf it (by simp)
  have hl:=rv.length
  exact wpAny_pyNext_list_end (I.ok.hd hc) st p.isList (by simp;omega) fun h' eb=>⟨rfl,I.turned (t':=s.toks) (fun b o hb e=>eb b o hb e) f0 f1 f3 f4 f5⟩
 self:=fun _ _ _ _ _ st h=>wpAny_pyIter_listiter st h
theorem Oq {P:Program}{w:World}{K:PySem.W.Frag}{tg:Expr}(it:Addr)(lo:Int)(n:Nat):Turn P w K tg (uR lo n) [it] it (fun i h=>IsRangeIter h it (lo+(i:Nat)*1) ((n:Int)-(i:Nat)) 1) where
 mem:=by simp
 obj:=fun i h st b hb=>by
  have e:b=it:=by simpa using hb
  subst e
  exact ⟨_,st,fun v z=>by
   have z':Data.fields _=Data.cell v:=z
   cases z'⟩
 keep:=fun i h h' st k=>k it (by simp) _ st
 item:=by
  intro X hP hw hK hc i pins s σ H E I hf st hg
  subst hP hw hK
  obtain ⟨f0,f1,f2,f3,f4,f5⟩:=hf it (by simp)
  have W:=Walks.range (prog:=X.prog) (w:=X.w) (I.ok.hd hc) it lo 1 n
  refine W.item i s _ _ hg st fun v h' tk hv af kk=>?_
  obtain ⟨t,rfl⟩:=hv
  have I1:Inv X pins σ H { s with heap:=h',toks:=tk }:=I.turned (fun b o hb e=>kk b o (by simpa using hb) e) f0 f1 f3 f4 f5
  refine ⟨_,rfl,HR (s:={ s with heap:=h',toks:=tk }) (n := "range_iterator") af rfl rfl (by decide) ⟨.int (lo+i),H,I1,⟨t,?_⟩,⟨rfl,rfl⟩,af,fun b hb=>(hf b hb).1⟩⟩
  rw [Int.mul_one]
 done:=by
  intro X hP hw hK hc i pins s σ H E I hf st hg
  subst hP hw hK
  obtain ⟨f0,f1,f2,f3,f4,f5⟩:=hf it (by simp)
  exact wpAny_pyNext_range_end (I.ok.hd hc) st (by have:n<=i:=hg;omega) fun h' eb=>⟨rfl,I.turned (t':=s.toks) (fun b o hb e=>eb b o hb e) f0 f1 f3 f4 f5⟩
 self:=fun _ _ _ _ _ st h=>wpAny_pyIter_rangeiter st h
end L2
namespace L2
open PySem PySem.Spec PyProof.Rows
section
variable {X:Cx}{tg:Expr}
def HS (K:PySem.W.Frag)(tl:TE):TI:=fun σ H R=>tl σ H fun x H1=>∃ a,x=.ref a/\(∃ xs,aN K H1 a xs)/\R (Ka K a) H1
theorem Q2 {l:Expr}{tl:TE}(hl:PE X l tl):PI X tg l (HS X.K tl):=by
 intro pins s σ H R I h
 refine ay (hl pins s σ H _ I h) fun v s1 ⟨x,H1,I1,r1,q1⟩=>?_
 obtain ⟨a,e,⟨xs,hq⟩,q⟩:=q1
 subst e
 cases r1
 obtain ⟨its,rv,p,hz⟩:=I1.list hq
 refine wpAny_pyIter_list p.isList ?_
 refine ⟨s1.heap.objs.size,[s1.heap.objs.size],_,_,H1,rfl,I1.kept (t':=s1.toks) fun b o e=>Heap.get?_push_of_some _ e,Pg a _,⟨_,Heap.get?_push_size _ rfl,rfl,rfl⟩,fun b hb=>?_,q⟩
 have e:b=s1.heap.objs.size:=by simpa using hb
 subst e
 exact I1.qK (Nat.le_refl _) (I1.az.fresh (Nat.le_refl _))
theorem Qb {pins:List (Addr×Obj)}{σ:St}{H:Hp}{s:Shared}{R:It->Hp->Prop}{E:Value->Shared->Prop}{lo hi:Int}{t u v:Tok}{tk:Nat}(I:Inv X pins σ H s)(h1 : -(2 ^ 62)<=lo)(h2:lo<2 ^ 62)(h3 : -(2 ^ 62)<=hi)(h4:hi<2 ^ 62)
  (q:R (uR lo (hi-lo).toNat) H):wpAny (model X.prog X.w) X.A (pyIter (.ref s.heap.objs.size)) (J9 X pins σ tg R) E { s with heap:=s.heap.push { cls:=.type "range",data:=.fields #[.int lo t,.int hi u,.int 1 v] },toks:=tk }:=by
 refine wpAny_pyIter_range (IsRange.new ..) (small_one h1 h2 h3 h4) ?_
 have I1:Inv X pins σ H { s with heap:=s.heap.push { cls:=.type "range",data:=.fields #[.int lo t,.int hi u,.int 1 v] },toks:=tk }:=I.kept fun b o e=>Heap.get?_push_of_some _ e
 refine ⟨(s.heap.push { cls:=.type "range",data:=.fields #[.int lo t,.int hi u,.int 1 v] }).objs.size,[(s.heap.push { cls:=.type "range",data:=.fields #[.int lo t,.int hi u,.int 1 v] }).objs.size],_,_,H,rfl,
  I1.kept (t':=tk) fun b o e=>Heap.get?_push_of_some _ e,Oq _ lo (hi-lo).toNat,?_,fun b hb=>?_,q⟩
 ·have e1:lo+((0:Nat):Int)*1=lo:=by simp
  have e2:(((hi-lo).toNat:Nat):Int)-((0:Nat):Int)=Builtin.Range.rangeSize lo hi 1:=by rw [rangeSize_one];split<;>omega
  show IsRangeIter _ _ (lo+((0:Nat):Int)*1) ((((hi-lo).toNat:Nat):Int)-((0:Nat):Int)) 1
  rw [e1,e2]
  exact Heap.get?_push_size _ rfl
 ·have e:b=(s.heap.push { cls:=.type "range",data:=.fields #[.int lo t,.int hi u,.int 1 v] }).objs.size:=by simpa using hb
  subst e
  exact I1.qK (Nat.le_refl _) (I1.az.fresh (Nat.le_refl _))
def HU (ta:TA):TI:=fun σ H R=>ta σ H fun vs H1=>∃ j:Int,vs=[.int j] /\ -(2 ^ 62)<=j/\j<2 ^ 62/\R (uR 0 j.toNat) H1
theorem Ph {a:Expr} {ta:TA} {p pos:Pos} (hg:Gl X "range") (hm:X.mg "range" = none) (ha:PA X [a] ta) (hs:starEach [a] X.env=[(false,eval a X.env)]:=by rfl):PI X tg (.Call (.Name "range" p) [a] [] pos) (HU ta):=by
 intro pins s σ H R I h
 refine Call_ (jD I hg hm boot_range (PyProof.Rows.callWith_type1 (ay (ha pos pins s σ H _ I h) fun us s1 ⟨vs,H1,I1,r1,q1⟩=>?_) hs rfl))
 obtain ⟨j,e,q1,q2,q⟩:=q1
 subst e
 cases r1 with
 |cons r rr =>
  cases rr
  obtain ⟨t,rfl⟩:=r
  exact call_range_1 (Qb I1 (by omega) (by omega) q1 q2 (by simpa using q))
def IT (wi:TI)(g:TG)(tb:TS):TS:=fun D σ H=>wi σ H fun J H1=>∃ W:Nat->Nat->St->Hp->Prop,(∃ m,W 0 m σ H1)/\∀ i m σ H,W i m σ H ->
 (J.stop i H/\D.nx σ H)\/(J.go i H/\∃ N:St->Hp->Prop,(∀ aA H',N aA H'->∃ m',m'<m/\W (i+1) m' aA H')/\∀ x H',J.uP i H x H'->g x σ H' fun dR H2=>tb { D with nx:=N,ct:=N,bk:=D.nx } dR H2)
def oE (fp:List Addr)(h:Heap):List (Addr×Obj):=fp.filterMap fun b=>(h.get? b).map fun o=>(b,o)
theorem nZ {fp:List Addr}{h:Heap}{b:Addr}{o:Obj}(hb:b ∈ fp)(e:h.get? b=some o):(b,o) ∈ oE fp h:=List.mem_filterMap.mpr ⟨b,hb,by rw [e];rfl⟩
theorem Pj {fp:List Addr}{h:Heap}{p:Addr×Obj}(hp:p ∈ oE fp h):p.1 ∈ fp/\h.get? p.1=some p.2:=by
 obtain ⟨b,hb,e⟩:=List.mem_filterMap.mp hp
 cases q:h.get? b with
 |none=>rw [q] at e;cases e
 |some o =>
  rw [q] at e
  have e':(b,o)=p:=Option.some.inj e
  subst e'
  exact ⟨hb,q⟩
theorem Inv.pinned {pins:List (Addr×Obj)}{σ:St}{H:Hp}{s:Shared}{fp:List Addr}(I:Inv X pins σ H s)(hf:∀ b ∈ fp,gw X pins H b)(ho:∀ b ∈ fp,∃ o,s.heap.get? b=some o/\∀ v,o.data ≠ .cell v):Inv X (pins++oE fp s.heap) σ H s :=
 I.EV fun p hp=>(List.mem_append.mp hp).elim (fun z=>I.pin p (List.mem_append_right _ z)) fun z=>by
  obtain ⟨hb,e⟩:=Pj z
  obtain ⟨f0,f1,f2,_⟩:=hf p.1 hb
  obtain ⟨o,e',d⟩:=ho p.1 hb
  rw [e] at e';cases e'
  exact ⟨e,f0,f1,f2,d⟩
theorem Inv.pR {pins pl:List (Addr×Obj)}{σ:St}{H:Hp}{s:Shared}(I:Inv X (pins++pl) σ H s):Inv X pins σ H s:=I.EV fun p hp=>I.pin p (List.mem_append_right _ (List.mem_append_left _ hp))
theorem S0 {iter:Expr}{body:List Stmt}{wi:TI}{g:TG}{tb:TS}{pos:Pos}(hp:PassesOwn (model X.prog X.w) X.A X.env X.xe)(hc:X.calm=true)(hi:PI X tg iter wi)(hg:PG X tg g)(hb:eU X body tb)
  (hs:∀ x,foldedSetIterable iter X.env x=pure x:=by intro _;rfl):PS X (.For tg iter body [] pos) (IT wi g tb):=by
 intro pins s σ H D I h
 refine wpAny_For (ay (hi pins s σ H _ I h) fun v s1 h1=>ay h1 fun uQ s2 h2=>?_) hs
 obtain ⟨it,fp,tn,J,H2,e,I2,T,aG,f2,W,⟨m0,w0⟩,turn⟩:=h2
 subst e
 have stat:∀ {H':Hp},(∀ b ∈ fp,H' b=none)->∀ b ∈ fp,gw X pins H' b:=fun hn b hb=>⟨hn b hb,(f2 b hb).2⟩
 refine codeAny_forLoop_any (fun n s'=>∃ i aA H',Inv X pins aA H' s'/\tn i s'.heap/\(∀ b ∈ fp,H' b=none)/\W i n aA H') ?_ m0 ⟨0,σ,H2,I2,aG,fun b hb=>(f2 b hb).1,w0⟩
 rintro n s3 ⟨i,iN,H3,I3,dU,Kb,w3⟩
 rcases turn i n iN H3 w3 with ⟨stop,qn⟩ | ⟨go,N,hN,step⟩
 ·refine wpAny_passesOwn hp (ay (T.done X rfl rfl rfl hc i pins s3 iN H3 X.xe I3 (stat Kb) dU stop) fun r s4 ⟨hr,I4⟩=>?_)
  subst hr
  exact wpAny_execs_nil ⟨iN,H3,I4,qn⟩
 ·refine wpAny_passesOwn hp (ay (T.item X rfl rfl rfl hc i pins s3 iN H3 X.xe I3 (stat Kb) dU go) fun r s4 ⟨u,hr,h4⟩=>?_)
  subst hr
  refine wpAny_passesOwn hp (ay h4 fun _ s5 ⟨x,H5,I5,r5,y5,jO,mP⟩=>?_)
  have ZD:=I5.pinned (stat mP) (T.obj _ _ jO)
  refine wpAny_passesOwn hp (ay (hg _ s5 iN H5 x u _ ZD r5 (step x H5 y5)) fun _ s6 ⟨ZE,H6,I6,q6⟩=>?_)
  refine wpAny_passesOwn hp (ay (hb _ s6 ZE H6 _ I6 q6) fun f s7 q7=>?_)
  have again:∀ {iO:St} {H7:Hp},Inv X (pins++oE fp s5.heap) iO H7 s7->N iO H7->∃ m,m<n/\∃ i aA H',Inv X pins aA H' s7/\tn i s7.heap/\(∀ b ∈ fp,H' b=none)/\W i m aA H':=fun {iO H7} I7 n7=>by
   obtain ⟨m',hm,w7⟩:=hN iO H7 n7
   refine ⟨m',hm,i+1,iO,H7,I7.pR,T.keep _ _ _ jO fun b hb o e=>(I7.pin (b,o) (List.mem_append_right _ (List.mem_append_right _ (nZ hb e)))).1,fun b hb=>?_,w7⟩
   obtain ⟨o,e,d⟩:=T.obj _ _ jO b hb
   exact (I7.pin (b,o) (List.mem_append_right _ (List.mem_append_right _ (nZ hb e)))).2.1
  cases f with
  |next=>obtain ⟨iO,H7,I7,n7⟩:=q7;exact again I7 n7
  |cont=>obtain ⟨iO,H7,I7,n7⟩:=q7;exact again I7 n7
  |brk=>obtain ⟨iO,H7,I7,q7⟩:=q7;exact ⟨iO,H7,I7.pR,q7⟩
  |ret v=>obtain ⟨x7,iO,H7,I7,r7,q7⟩:=q7;exact ⟨x7,iO,H7,I7.pR,r7,q7⟩
end
end L2
namespace L2
open PySem PySem.Spec PyProof.Rows
abbrev R2:=V->V->Hp->VK->Prop
def cu (X:Cx)(f:Value->Value->Sem Value)(r:R2):Prop :=
 ∀ (pins:List (Addr×Obj)) (s:Shared) (σ:St) (H:Hp) (x y:V) (v u:Value) (Q:VK),Inv X pins σ H s->RelV x v->RelV y u->r x y H Q ->
  wpAny (model X.prog X.w) X.A (f v u) (EP X pins σ Q) X.xe s
def zK (X:Cx)(f:Value->Sem Value)(r:V->Hp->VK->Prop):Prop :=
 ∀ (pins:List (Addr×Obj)) (s:Shared) (σ:St) (H:Hp) (x:V) (v:Value) (Q:VK),Inv X pins σ H s->RelV x v->r x H Q ->
  wpAny (model X.prog X.w) X.A (f v) (EP X pins σ Q) X.xe s
def du (X:Cx)(f:Value)(r:List V->Hp->VK->Prop):Prop :=
 ∀ (pins:List (Addr×Obj)) (s:Shared) (σ:St) (H:Hp) (xs:List V) (us:List Value) (Q:VK),Inv X pins σ H s->Vals xs us->r xs H Q ->
  wpAny (model X.prog X.w) X.A (call f us) (EP X pins σ Q) X.xe s
def jk (r:R2)(ta tb:TE):TE:=fun σ H Q=>ta σ H fun x H1=>tb σ H1 fun y H2=>r x y H2 Q
def ZF (r:V->Hp->VK->Prop)(ta:TE):TE:=fun σ H Q=>ta σ H fun x H1=>r x H1 Q
def rI (C:Int->Int->Prop)(g:Int->Int->V):R2:=fun x y H Q=>∃ i j,x=.int i/\y=.int j/\C i j/\Q (g i j) H
def mQ (g:Int->Int->V):R2:=fun x y H Q=>∃ i j,x=.int i/\y=.int j/\Q (g i j) H
def rU (g:Int->V):V->Hp->VK->Prop:=fun x H Q=>∃ i,x=.int i/\Q (g i) H
section
variable {X:Cx}{a b c:Expr}{ta tb tc:TE}{pos:Pos}
theorem zb (ha:PE X a ta)(hb:PE X b tb){pins:List (Addr×Obj)}{s:Shared}{σ:St}{H:Hp}{R:V->V->Hp->Prop}(I:Inv X pins σ H s)
  (h:ta σ H fun x H1=>tb σ H1 fun y H2=>R x y H2) {Q:Value->Shared->Prop} {f:Value->Value->Sem Value}
  (hf:∀ v u s2 x y H2,Inv X pins σ H2 s2->RelV x v->RelV y u->R x y H2->wpAny (model X.prog X.w) X.A (f v u) Q X.xe s2) :
  wpAny (model X.prog X.w) X.A (eval a X.env) (fun v aU=>wpAny (model X.prog X.w) X.A (eval b X.env) (fun u me=>wpAny (model X.prog X.w) X.A (f v u) Q X.xe me) X.xe aU) X.xe s:=by
 refine ay (ha pins s σ H _ I h) fun v s1 ⟨x,H1,I1,r1,q1⟩=>?_
 refine ay (hb pins s1 σ H1 _ I1 q1) fun u s2 ⟨y,H2,I2,r2,q2⟩=>?_
 exact hf v u s2 x y H2 I2 r1 r2 q2
theorem T4 {op:Operator}{r:R2}(ho:cu X (binaryOp op) r)(ha:PE X a ta)(hb:PE X b tb):PE X (.BinOp a op b pos) (jk r ta tb):=by
 intro pins s σ H Q I h
 exact wpAny_BinOp (zb ha hb I h fun v u s2 x y H2 I2 rx ry q=>ho pins s2 σ H2 x y v u Q I2 rx ry q)
theorem T5 {op:UnaryOp}{r:V->Hp->VK->Prop}(ho:zK X (unaryOp op) r)(ha:PE X a ta):PE X (.UnaryOp op a pos) (ZF r ta):=by
 intro pins s σ H Q I h
 exact UnaryOp_ (ay (ha pins s σ H _ I h) fun v s1 ⟨x,H1,I1,r1,q1⟩=>ho pins s1 σ H1 x v Q I1 r1 q1)
theorem rh {f:Value->Value->Sem Value}{C:Int->Int->Prop}{g:Int->Int->Int}
  (rule:∀ (i j:Int) (t u:Tok) (s:Shared) (Q:Value->Shared->Prop) (E:Value->Shared->Prop),C i j->Q (.int (g i j) s.toks) { s with toks:=s.toks+1 }->wpAny (model X.prog X.w) X.A (f (.int i t) (.int j u)) Q E s) :
  cu X f (rI C fun i j=>.int (g i j)):=by
 intro pins s σ H x y v u Q I rx ry h
 obtain ⟨i,j,rfl,rfl,hc,q⟩:=h
 obtain ⟨t,rfl⟩:=rx
 obtain ⟨t',rfl⟩:=ry
 exact rule i j t t' s _ _ hc ⟨.int (g i j),H,I.tok _,⟨_,rfl⟩,q⟩
theorem IU {f:Value->Value->Sem Value}{g:Int->Int->Int}
  (rule:∀ (i j:Int) (t u:Tok) (s:Shared) (Q:Value->Shared->Prop) (E:Value->Shared->Prop),Q (.int (g i j) s.toks) { s with toks:=s.toks+1 }->wpAny (model X.prog X.w) X.A (f (.int i t) (.int j u)) Q E s) :
  cu X f (mQ fun i j=>.int (g i j)):=by
 intro pins s σ H x y v u Q I rx ry h
 obtain ⟨i,j,rfl,rfl,q⟩:=h
 obtain ⟨t,rfl⟩:=rx
 obtain ⟨t',rfl⟩:=ry
 exact rule i j t t' s _ _ ⟨.int (g i j),H,I.tok _,⟨_,rfl⟩,q⟩
theorem zc {f:Value->Value->Sem Value}{g:Int->Int->Bool}
  (rule:∀ (i j:Int) (t u:Tok) (s:Shared) (Q:Value->Shared->Prop) (E:Value->Shared->Prop),Q (.bool (g i j)) s->wpAny (model X.prog X.w) X.A (f (.int i t) (.int j u)) Q E s) :
  cu X f (mQ fun i j=>.bl (g i j)):=by
 intro pins s σ H x y v u Q I rx ry h
 obtain ⟨i,j,rfl,rfl,q⟩:=h
 obtain ⟨t,rfl⟩:=rx
 obtain ⟨t',rfl⟩:=ry
 exact rule i j t t' s _ _ ⟨.bl (g i j),H,I,rfl,q⟩
def IV (i j:Int):Prop:=0<=j/\j<=1000000/\i.natAbs<2 ^ 64
def ux (i j:Int):Prop:=(-(2 ^ 64)<i/\i<2 ^ 64)\/(-(2 ^ 64)<j/\j<2 ^ 64)
theorem ux.ok {i j:Int}(h:ux i j):IntMulOk i j:=by
 rcases h with ⟨h1,h2⟩ | ⟨h1,h2⟩
 ·exact .of_left (intBits_le_64 h1 h2)
 ·exact .of_right (intBits_le_64 h1 h2)
theorem S1:cu X (binaryOp .Add) (mQ fun i j=>.int (i+j)):=IU fun _ _ _ _ _ _ _ q=>add_int q
theorem S2:cu X (binaryOp .Sub) (mQ fun i j=>.int (i-j)):=IU fun _ _ _ _ _ _ _ q=>sub_int q
theorem S3:cu X (binaryOp .Mult) (rI ux fun i j=>.int (i*j)):=rh fun _ _ _ _ _ _ _ hc q=>mul_int q hc.ok
theorem S4:cu X (binaryOp .Mod) (rI (fun _ j=>0<j) fun i j=>.int (i % j)):=rh fun i j _ _ _ _ _ hc q=>by
 have h1:(0:Int)<j:=hc
 exact mod_int' (by omega) (by rw [Int.fmod_eq_emod_of_nonneg i (by omega)];exact q)
theorem S5:cu X (binaryOp .Pow) (rI IV fun i j=>.int (i ^ j.toNat)):=rh fun _ _ _ _ _ _ _ hc q=>pow_int_small hc.1 hc.2.1 hc.2.2 q
theorem ZG {f:Value->Sem Value}{g:Int->Int}
  (rule:∀ (i:Int) (t:Tok) (s:Shared) (Q:Value->Shared->Prop) (E:Value->Shared->Prop),Q (.int (g i) s.toks) { s with toks:=s.toks+1 }->wpAny (model X.prog X.w) X.A (f (.int i t)) Q E s) :
  zK X f (rU fun i=>.int (g i)):=by
 intro pins s σ H x v Q I rx h
 obtain ⟨i,rfl,q⟩:=h
 obtain ⟨t,rfl⟩:=rx
 exact rule i t s _ _ ⟨.int (g i),H,I.tok _,⟨_,rfl⟩,q⟩
theorem S6:zK X (unaryOp .USub) (rU fun i=>.int (-i)):=ZG fun _ _ _ _ _ q=>neg_int q
end
def qL:V->V->Bool
 | .aS,.aS=>true | .aS,.int _=>true | .int _,.aS=>true | .aS,.bl _=>true | .bl _,.aS=>true | .aS,.str _=>true | .str _,.aS=>true
 | .int _,.int _=>true | .bl _,.bl _=>true | .str _,.str _=>true | .gZ _,.gZ _=>true
 | .int _,.str _=>true | .str _,.int _=>true | .bl _,.str _=>true | .str _,.bl _=>true
 |_,_=>false
def ZH:R2:=fun x y H Q=>qL x y=true/\Q (.bl (decide (x=y))) H
def ZI:R2:=fun x y H Q=>qL x y=true/\Q (.bl (!decide (x=y))) H
theorem EY {i j:Int}:decide (V.int i=V.int j)=(i==j):=by
 rw [Bool.eq_iff_iff]
 simp
theorem Ge {i j:Bool}:decide (V.bl i=V.bl j)=(i==j):=by
 rw [Bool.eq_iff_iff]
 simp
theorem EZ {i j:Str}:decide (V.str i=V.str j)=(i==j):=by
 rw [Bool.eq_iff_iff]
 simp
theorem E2 {i j:Array UInt8}:decide (V.gZ i=V.gZ j)=(i.toList==j.toList):=by
 rw [Bool.eq_iff_iff]
 cases i
 cases j
 simp
section
variable {X:Cx}{a b c:Expr}{ta tb tc:TE}{pos:Pos}
theorem bW {pins:List (Addr×Obj)}{σ:St}{H:Hp}{s:Shared}{Q:VK}{k k':Bool}(I:Inv X pins σ H s)(q:Q (.bl k) H)(e:k=k'):EP X pins σ Q (.bool k') s:=by
 subst e
 exact ⟨.bl k,H,I,rfl,q⟩
theorem ud:cu X (compareOp .Eq) ZH:=by
 intro pins s σ H x y v u Q I rx ry h
 obtain ⟨hs,q⟩:=h
 cases x with
 |aS =>
  cases rx
  cases y with
  |aS=>cases ry;exact PySem.EqNone.eq_none_none (bW I q (by simp))
  |bl j=>cases ry;exact PySem.EqNone.eq_none_bool (bW I q (by simp))
  |int j=>obtain ⟨t',rfl⟩:=ry;exact PySem.EqNone.eq_none_int (bW I q (by simp))
  |str j=>obtain ⟨t',rfl⟩:=ry;exact PySem.EqNone.eq_none_str (bW I q (by simp))
  |_=>exact absurd (show false=true from hs) Bool.false_ne_true
 |bl i =>
  cases rx
  cases y with
  |aS=>cases ry;exact PySem.EqNone.eq_bool_none (bW I q (by simp))
  |bl j=>cases ry;exact eq_bool (bW I q Ge)
  |str j=>obtain ⟨t',rfl⟩:=ry;exact PySem.EqMixed.eq_bool_str (bW I q (by simp))
  |_=>exact absurd (show false=true from hs) Bool.false_ne_true
 |int i =>
  obtain ⟨t,rfl⟩:=rx
  cases y with
  |aS=>cases ry;exact PySem.EqNone.eq_int_none (bW I q (by simp))
  |int j=>obtain ⟨t',rfl⟩:=ry;exact eq_int (bW I q EY)
  |str j=>obtain ⟨t',rfl⟩:=ry;exact PySem.EqMixed.eq_int_str (bW I q (by simp))
  |_=>exact absurd (show false=true from hs) Bool.false_ne_true
 |str i =>
  obtain ⟨t,rfl⟩:=rx
  cases y with
  |aS=>cases ry;exact PySem.EqNone.eq_str_none (bW I q (by simp))
  |bl j=>cases ry;exact PySem.EqMixed.eq_str_bool (bW I q (by simp))
  |int j=>obtain ⟨t',rfl⟩:=ry;exact PySem.EqMixed.eq_str_int (bW I q (by simp))
  |str j=>obtain ⟨t',rfl⟩:=ry;exact eq_str (bW I q EZ)
  |_=>exact absurd (show false=true from hs) Bool.false_ne_true
 |gZ i =>
  obtain ⟨t,rfl⟩:=rx
  cases y with
  |gZ j=>obtain ⟨t',rfl⟩:=ry;exact PySem.W.eq_bytes (bW I q E2)
  |_=>exact absurd (show false=true from hs) Bool.false_ne_true
 |_=>cases y<;>exact absurd (show false=true from hs) Bool.false_ne_true
theorem HV:cu X (compareOp .NotEq) ZI:=by
 intro pins s σ H x y v u Q I rx ry h
 obtain ⟨hs,q⟩:=h
 cases x with
 |aS =>
  cases rx
  cases y with
  |aS=>cases ry;exact PySem.EqNone.ne_none_none (bW I q (by simp))
  |bl j=>cases ry;exact PySem.EqNone.ne_none_bool (bW I q (by simp))
  |int j=>obtain ⟨t',rfl⟩:=ry;exact PySem.EqNone.ne_none_int (bW I q (by simp))
  |str j=>obtain ⟨t',rfl⟩:=ry;exact PySem.EqNone.ne_none_str (bW I q (by simp))
  |_=>exact absurd (show false=true from hs) Bool.false_ne_true
 |bl i =>
  cases rx
  cases y with
  |aS=>cases ry;exact PySem.EqNone.ne_bool_none (bW I q (by simp))
  |bl j=>cases ry;exact ne_bool (bW I q (congrArg not Ge))
  |str j=>obtain ⟨t',rfl⟩:=ry;exact PySem.EqMixed.ne_bool_str (bW I q (by simp))
  |_=>exact absurd (show false=true from hs) Bool.false_ne_true
 |int i =>
  obtain ⟨t,rfl⟩:=rx
  cases y with
  |aS=>cases ry;exact PySem.EqNone.ne_int_none (bW I q (by simp))
  |int j=>obtain ⟨t',rfl⟩:=ry;exact ne_int (bW I q (congrArg not EY))
  |str j=>obtain ⟨t',rfl⟩:=ry;exact PySem.EqMixed.ne_int_str (bW I q (by simp))
  |_=>exact absurd (show false=true from hs) Bool.false_ne_true
 |str i =>
  obtain ⟨t,rfl⟩:=rx
  cases y with
  |aS=>cases ry;exact PySem.EqNone.ne_str_none (bW I q (by simp))
  |bl j=>cases ry;exact PySem.EqMixed.ne_str_bool (bW I q (by simp))
  |int j=>obtain ⟨t',rfl⟩:=ry;exact PySem.EqMixed.ne_str_int (bW I q (by simp))
  |str j=>obtain ⟨t',rfl⟩:=ry;exact ne_str (bW I q (congrArg not EZ))
  |_=>exact absurd (show false=true from hs) Bool.false_ne_true
 |gZ i =>
  obtain ⟨t,rfl⟩:=rx
  cases y with
  |gZ j=>obtain ⟨t',rfl⟩:=ry;exact PySem.W.ne_bytes (bW I q (congrArg not E2))
  |_=>exact absurd (show false=true from hs) Bool.false_ne_true
 |_=>cases y<;>exact absurd (show false=true from hs) Bool.false_ne_true
theorem HW:cu X (compareOp .Lt) (mQ fun i j=>.bl (decide (i<j))):=zc fun _ _ _ _ _ _ _ q=>lt_int q
theorem HX:cu X (compareOp .Gt) (mQ fun i j=>.bl (decide (j<i))):=zc fun _ _ _ _ _ _ _ q=>gt_int q
theorem T6:cu X (compareOp .GtE) (mQ fun i j=>.bl (decide (j<=i))):=zc fun _ _ _ _ _ _ _ q=>ge_int q
theorem fN (b:Expr){op:CmpOp}(h:op ≠ .In:=by decide)(h2:op ≠ .NotIn:=by decide):behindInMarks op b=false:=by
 have e1:(op==CmpOp.In)=false:=by cases op<;>first | rfl | exact absurd rfl h
 have e2:(op==CmpOp.NotIn)=false:=by cases op<;>first | rfl | exact absurd rfl h2
 cases b<;>simp [behindInMarks,e1,e2]
theorem Q3 {op:CmpOp}{r:R2}(ho:cu X (compareOp op) r)(ha:PE X a ta)(hb:PE X b tb)(hm:behindInMarks op b=false):PE X (.Compare a [op] [b] pos) (jk r ta tb):=by
 intro pins s σ H Q I h
 exact wpAny_Compare1 (zb ha hb I h fun v u s2 x y H2 I2 rx ry q=>ho pins s2 σ H2 x y v u Q I2 rx ry q) hm
def HY (t:TE):TT:=fun σ H Q=>t σ H fun x H'=>∃ k,x=.bl k/\Q k H'
theorem Q4 {op:CmpOp}{r:R2}(ho:cu X (compareOp op) r)(ha:PE X a ta)(hb:PE X b tb)(hm:behindInMarks op b=false):PT X (.Compare a [op] [b] pos) (HY (jk r ta tb)):=by
 intro pins s σ H Q I h
 refine wpAny_isTrue_Compare1 (ay (ha pins s σ H _ I h) fun v s1 ⟨x,H1,I1,r1,q1⟩=>ay (hb pins s1 σ H1 _ I1 q1) fun u s2 ⟨y,H2,I2,r2,q2⟩ =>
  ay (ho pins s2 σ H2 x y v u _ I2 r1 r2 q2) fun c s3 ⟨z,H3,I3,r3,k,e,q3⟩=>?_) hm
 subst e
 cases r3
 exact wpAny_truthy_bool ⟨H3,I3,q3⟩
theorem tU:(sizeLine:Nat)<2 ^ 63:=by rw [sizeLine_eq];decide
theorem vals1 {x:V}{us:List Value}(r:Vals [x] us):∃ u,us=[u]/\RelV x u:=by
 cases r with
 |cons r1 r2=>cases r2;exact ⟨_,rfl,r1⟩
theorem Qc:du X (.builtin "abs") (fun xs H Q=>∃ i,xs=[.int i]/\Q (.int (if i<0 then -i else i)) H):=by
 intro pins s σ H xs us Q I r h
 obtain ⟨i,rfl,q⟩:=h
 obtain ⟨u,rfl,t,rfl⟩:=vals1 r
 exact call_abs_int fun u tk=>⟨.int (if i<0 then -i else i),H,I.tok _,⟨_,rfl⟩,q⟩
theorem Pk:du X (.type "int") (fun xs H Q=>(∃ i,xs=[.int i]/\Q (.int i) H)\/∃ k,xs=[.bl k]/\Q (.int (if k then 1 else 0)) H):=by
 intro pins s σ H xs us Q I r h
 rcases h with ⟨i,rfl,q⟩ | ⟨k,rfl,q⟩
 ·obtain ⟨u,rfl,t,rfl⟩:=vals1 r
  exact call_int_int ⟨.int i,H,I,⟨_,rfl⟩,q⟩
 ·obtain ⟨u,rfl,r1⟩:=vals1 r
  cases r1
  exact call_int_bool ⟨.int (if k then 1 else 0),H,I.tok _,⟨_,rfl⟩,q⟩
end
end L2
namespace L2
open PySem PySem.Spec PyProof.Rows
structure zf (h:Heap) (x dx C:Addr) (mA:Str->Option Value):Prop where
 obj:h.get? x=some (PySem.W.instObj C dx)
 ns:h.Ns1 dx mA
 ne:dx ≠ x
theorem Pl {h:Heap}{dx:Addr}{mA:Str->Option Value}(n:h.Ns1 dx mA):∃ od,h.get? dx=some od/\∀ name,PySem.W.lookIn name od=some (mA name):=by
 obtain ⟨o,es,ep,ho,hd,hk,_,hm⟩:=n
 refine ⟨o,ho,fun name=>?_⟩
 have e:=hm name
 unfold nsFind findBy at e
 rw [<- Array.find?_toList] at e
 unfold PySem.W.lookIn
 rw [hd]
 dsimp only
 split
 ·rename_i y q
  rw [q] at e
  exact congrArg some e
 ·rename_i q
  rw [q] at e
  have a:es.toList.any (·.refKey)=false:=by
   rw [List.any_eq_false]
   intro y hy
   obtain ⟨z,t,UT⟩:=hk y (Array.mem_toList_iff.mp hy)
   simp [DictEntry.refKey,UT]
  have a':¬ es.toList.any (·.refKey)=true:=by rw [a];exact Bool.false_ne_true
  rw [if_neg a']
  exact congrArg some e
theorem zf.look {h:Heap}{x dx C:Addr}{mA:Str->Option Value}(I:zf h x dx C mA):∃ od,PySem.W.InstAt h x (PySem.W.instObj C dx) C (some od)/\∀ name,PySem.W.lookIn name od=some (mA name) :=
 let ⟨od,ho,hl⟩:=Pl I.ns
 ⟨od,⟨I.obj,rfl,rfl,ho⟩,hl⟩
section
variable {P:Program}{w:World}{H H':Hp}{h h':Heap}{a C dx:Addr}{fs Zz:List (Str×V)}
theorem Q5 (az:cz P w H h)(e:H a=some (.ins C dx fs)):∃ mA,zf h a dx C mA/\(∀ f,yX (fs.lookup f) (mA f))/\PySem.Within mA (fs.map (·.1))/\fs.length<=1000/\H dx=some (.own a):=by
 obtain ⟨d,z,ne,ob,mA,n,r,q⟩:=(show cJ P w H h a (.ins C dx fs) from az a _ e)
 exact ⟨mA,⟨ob,n,ne⟩,r,q,z,d⟩
end
structure zL (K:PySem.W.Frag) (C:Addr):Prop where
 pg:PySem.W.plainGet K C Str.empty=true
 hd:PySem.W.hasDictIn K C=true
 po:PySem.W.plainOver K C=true
 sa:PySem.W.findIn K (.ref C) "__setattr__" = some (some (.builtin "object.__setattr__"))
theorem zL.get {K:PySem.W.Frag}{C:Addr}(c:zL K C)(f:Str):PySem.W.plainGet K C f=true:=c.pg
section
variable {X:Cx}{pins:List (Addr×Obj)}{σ:St}{H:Hp}{s:Shared}{A:Around}{E:Value->Shared->Prop}{Q:Value->Shared->Prop}{c:Value}{b:Bool}
inductive gU (K:PySem.W.Frag) (H:Hp):V->Value->Prop where
 |aS:gU K H .aS (.type "NoneType")
 |bl (x:Bool):gU K H (.bl x) (.type "bool")
 |int (i:Int):gU K H (.int i) (.type "int")
 |str (x:Str):gU K H (.str x) (.type "str")
 |mG (x:UInt64):gU K H (.mG x) (.type "float")
 |lst {a:Addr} {xs:List V} (e:H a=some (.lst xs)):gU K H (.ref a) (.type "list")
 |dh {a:Addr} {o:Obj} {xs:List V} (e:H a=some (.dh o (.lst xs))):gU K H (.ref a) (.type "list")
 |tup {a:Addr} {xs:List V} (e:H a=some (.tup xs)):gU K H (.ref a) (.type "tuple")
 |dK {a:Addr} {cE:List (Key×V)} (e:H a=some (.dK cE)):gU K H (.ref a) (.type "dict")
 |dT {a:Addr} {cE:List (List Key×V)} (e:H a=some (.dT cE)):gU K H (.ref a) (.type "dict")
 |ins {a C dx:Addr} {fs:List (Str×V)} (e:H a=some (.ins C dx fs)) (cl:zL K C) (ha:PySem.W.findIn K (.ref C) "__class__" = some (some (.builtin "object.__class__")))
   (hn:PySem.W.specialIn K (.builtin "object.__class__") "__get__" = some (some (.builtin "getset_descriptor.__get__"))) (Kc:PySem.W.takesIn K (.builtin "object.__class__")=some true)
   (hm:PySem.W.mroIn K C (.type "object")=some true):gU K H (.ref a) (.ref C)
theorem sN {x:V}{u t:Value}(I:Inv X pins σ H s)(rx:RelV x u)(ty:gU X.K H x t)(e:PySem.W.kitOne X.K t c=some b)(h:∀ tk,Q (.bool b) { s with toks:=tk }) :
  wpAny (model X.prog X.w) A (call (.builtin "isinstance") [u,c]) Q E s:=by
 cases ty with
 |aS=>cases (show u=Value.none from rx);exact PySem.W.kia_one PySem.W.kitx_none I.dQ True.intro e (fun z=>nomatch z) h
 |bl y=>cases (show u=Value.bool y from rx);exact PySem.W.kia_one PySem.W.kitx_bool I.dQ True.intro e (fun z=>nomatch z) h
 |int i=>obtain ⟨t,q⟩:=(show ∃ t,u=Value.int i t from rx);cases q;exact PySem.W.kia_one PySem.W.kitx_int I.dQ True.intro e (fun z=>nomatch z) h
 |str y=>obtain ⟨t,q⟩:=(show ∃ t,u=Value.str y t from rx);cases q;exact PySem.W.kia_one PySem.W.kitx_str I.dQ True.intro e (fun z=>nomatch z) h
 |mG y=>obtain ⟨t,q⟩:=(show ∃ t,u=Value.float y t from rx);cases q;exact PySem.W.kia_one PySem.W.kitx_float I.dQ True.intro e (fun z=>nomatch z) h
 | @lst a xs ea =>
  cases (show u=Value.ref a from rx)
  obtain ⟨_,_,n,_,h1⟩:=(show cJ X.prog X.w H s.heap a (.lst xs) from I.az a _ ea)
  exact PySem.W.kia_one PySem.W.kitx_list I.dQ ⟨_,h1,rfl⟩ e (fun z=>nomatch z) h
 | @dh a ob xs ea =>
  cases (show u=Value.ref a from rx)
  obtain ⟨_,_,_,n,_,h1⟩:=(show cJ X.prog X.w H s.heap a (.dh ob (.lst xs)) from I.az a _ ea)
  exact PySem.W.kia_one PySem.W.kitx_list I.dQ ⟨_,h1,rfl⟩ e (fun z=>nomatch z) h
 | @tup a xs ea =>
  cases (show u=Value.ref a from rx)
  obtain ⟨_,_,_,p⟩:=(show cJ X.prog X.w H s.heap a (.tup xs) from I.az a _ ea)
  obtain ⟨o,h1,h2,_⟩:=p
  exact PySem.W.kia_one PySem.W.kitx_tuple I.dQ ⟨o,h1,h2⟩ e (fun z=>nomatch z) h
 | @dK a cE ea =>
  cases (show u=Value.ref a from rx)
  obtain ⟨_,_,vs,_,p⟩:=(show cJ X.prog X.w H s.heap a (.dK cE) from I.az a _ ea)
  obtain ⟨o,es,ep,h1,h2,_⟩:=p
  exact PySem.W.kia_one PySem.W.kitx_dict I.dQ ⟨o,h1,h2.1⟩ e (fun z=>nomatch z) h
 | @dT a cE ea =>
  cases (show u=Value.ref a from rx)
  obtain ⟨_,_,xs,_,o,es,ep,h1,h2,_⟩:=(show cJ X.prog X.w H s.heap a (.dT cE) from I.az a _ ea)
  exact PySem.W.kia_one PySem.W.kitx_dict I.dQ ⟨o,h1,h2.1⟩ e (fun z=>nomatch z) h
 | @ins a C dx fs ea cl ha hn Kc hm =>
  cases (show u=Value.ref a from rx)
  obtain ⟨mA,O,_⟩:=Q5 I.az ea
  obtain ⟨od,J,_⟩:=O.look
  exact PySem.W.kia_one (PySem.W.kitx_own (cl.get _) cl.hd ha hn Kc hm) I.dQ J e (fun z=>nomatch z) h
end
end L2
namespace L2
open PySem PySem.Spec PyProof.Rows
structure dw (k:Nat) (A:Around):Prop where
 hd:A.handled=none
 dp:A.depth+3*k+5<recursionLimit
 un:A.units+16*k+200<cLine
theorem dw.mono {j k:Nat}{A:Around}(r:dw k A)(h:j<=k):dw j A:=⟨r.hd,by have:=r.dp;omega,by have:=r.un;omega⟩
theorem dw.deeper {k:Nat}{A:Around}(r:dw (k+1) A)(env:Env):dw k (A.deeper env) :=
 ⟨r.hd,by have:=r.dp;show A.depth+1+3*k+5<_;omega,by have:=r.un;show A.units+3+16*k+200<_;omega⟩
theorem dw.depth {k:Nat}{A:Around}(r:dw k A):A.depth<recursionLimit:=by have:=r.dp;omega
theorem dw.units {k:Nat}{A:Around}(r:dw k A):A.units+64<cLine:=by have:=r.un;omega
def eA:TA:=fun _ H Q=>Q [] H
def df (ta:TE)(tr:TA):TA:=fun σ H Q=>ta σ H fun x H1=>tr σ H1 fun xs H2=>Q (x::xs) H2
section
variable {X:Cx}{e:Expr}{es:List Expr}{te:TE}{t:TA}{pos:Pos}
theorem dN:PA X [] eA:=fun _ _ _ _ H Q I h=>Calls.spliced_nil ⟨[],H,I,.nil,h⟩
theorem cX (ha:PE X e te)(hr:PA X es t)(hs:starEach (e::es) X.env=(false,eval e X.env)::starEach es X.env:=by rfl):PA X (e::es) (df te t):=by
 intro pos pins s σ H Q I h
 rw [hs]
 show wpAny _ _ (spliced ((false,eval e X.env)::backTo pos (starEach es X.env))) _ _ s
 refine Calls.spliced_cons (ay (ha pins s σ H _ I h) fun u s1 ⟨x,H1,I1,r1,q1⟩=>?_)
 exact ay (hr pos pins s1 σ H1 _ I1 q1) fun us s2 ⟨xs,H2,I2,r2,q2⟩=>⟨x::xs,H2,I2,.cons r1 r2,q2⟩
def zg (t:TA):TE:=fun σ H Q=>t σ H fun xs H1=>xs.length<=sizeLine/\∀ p,H1 p=none->Q (.ref p) (upd H1 p (.tup xs))
def IW (t:TA):TE:=fun σ H Q=>t σ H fun xs H1=>xs.length<=sizeLine/\∀ p,H1 p=none->Q (.ref p) (upd H1 p (.lst xs))
theorem Gf {x1}(h:PA X es t):PE X (.Tuple es x1 pos) (zg t):=by
 intro pins s σ H Q I hq
 refine wpAny_Tuple_spliced (ay (h pos pins s σ H _ I hq) fun us s1 ⟨xs,H1,I1,r,z,q⟩=>⟨by rw [<- r.length];exact z,?_⟩)
 have hf:H1 s1.heap.objs.size=none:=I1.az.fresh (Nat.le_refl _)
 refine ⟨.ref s1.heap.objs.size,upd H1 s1.heap.objs.size (.tup xs),I1.laid (t':=s1.toks) (fun b u e=>Heap.get?_push_of_some _ e) (Nat.le_refl _) ?_,rfl,q _ hf⟩
 exact ⟨z,us,r,⟨_,Heap.get?_push_size _ rfl,rfl,_,rfl⟩⟩
theorem S7 (h:PA X es t):PE X (.List es pos) (IW t):=by
 intro pins s σ H Q I hq
 refine wpAny_List_spliced (ay (h pos pins s σ H _ I hq) fun us s1 ⟨xs,H1,I1,r,z,q⟩=>⟨by rw [<- r.length];exact z,?_⟩)
 have hf:H1 s1.heap.objs.size=none:=I1.az.fresh (Nat.le_refl _)
 refine ⟨.ref s1.heap.objs.size,upd H1 s1.heap.objs.size (.lst xs),I1.laid (t':=s1.toks) (fun b u e=>Heap.get?_push_of_some _ e) (Nat.le_refl _) ?_,rfl,q _ hf⟩
 exact ⟨z,us,0,r,Heap.get?_push_size _ rfl⟩
end
abbrev Sp:=List V->Hp->VK->XK->Prop
abbrev fV:=List Env->Hp->Shared->XK->Value->Shared->Prop
structure uy (P:Program) (w:World) (K:PySem.W.Frag) (mg:Str->Option Value) (base:Heap) (A:Around) (outer:List Env) (s:Shared) (H:Hp):Prop where
 frames:A.frames=some outer
 mod:Mod K mg base
 bs:∀ b o,base.get? b=some o->s.heap.get? b=some o/\H b=none
 mK:base.objs.size<=s.heap.objs.size
 iC:s.heap.FunFrames base outer
 o5:∀ b ∈ dD outer,H b=none
 az:cz P w H s.heap
 bare:AllBare s.gens
def CE (outer:List Env)(P:Program)(w:World)(H:Hp)(s:Shared)(Q:VK)(u:Value)(s':Shared):Prop :=
 ∃ v H',s'.os=s.os/\AllBare s'.gens/\Un (dD outer) [] H H' s.heap s'.heap/\cz P w H' s'.heap/\RelV v u/\Q v H'
def CR (CX:fV)(outer:List Env)(P:Program)(w:World)(H:Hp)(s:Shared)(Q:VK)(E:XK)(r:Result)(s':Shared):Prop :=
 match r with
 | .ok (.ret u)=>CE outer P w H s Q u s'
 | .ok _=>False
 | .error e=>CX outer H s E e s'
structure aR (P:Program) (w:World) (K:PySem.W.Frag) (mg:Str->Option Value) (base:Heap) (CX:fV) (k:Nat) (f:Addr) (fd:FuncData) (ps:List Str) (sp:Sp):Prop where
 len:∀ vs H Q E,sp vs H Q E->vs.length=ps.length
 run:∀ (A:Around) (outer:List Env) (s:Shared) (H:Hp) (args:Args) (us:List Value) (vs:List V) (Q:VK) (E:XK),dw k A->uy P w K mg base A outer s H->BindsTo s fd args (ps.zip us)->Vals vs us->sp vs H Q E ->
  codeAny (model P w) A (.call (.ref f) args) (CR CX outer P w H s Q E) s
theorem aR.imp {P:Program}{w:World}{K:PySem.W.Frag}{mg:Str->Option Value}{base:Heap}{CX:fV}{k:Nat}{f:Addr}{fd:FuncData}{ps:List Str}{sp Ke:Sp}(F:aR P w K mg base CX k f fd ps sp)
  (h:∀ vs H Q E,Ke vs H Q E->sp vs H Q E):aR P w K mg base CX k f fd ps Ke :=
 ⟨fun vs H Q E q=>F.len vs H Q E (h _ _ _ _ q),fun A outer s H args us vs Q E hr he hb hv hs=>F.run A outer s H args us vs Q E hr he hb hv (h _ _ _ _ hs)⟩
section
variable {X:Cx}{pins:List (Addr×Obj)}{σ:St}{H:Hp}{s s':Shared}
theorem Inv.UU (I:Inv X pins σ H s):uy X.prog X.w X.K X.mg X.base X.A X.stack s H :=
 ⟨I.ok.frames,I.ok.mod,I.bs,Nat.le_trans I.ok.mK I.sz,I.stack,I.ER,I.az,I.bare⟩
theorem Inv.after {Q:VK}{u:Value}(I:Inv X pins σ H s)(h:CE X.stack X.prog X.w H s Q u s'):EP X pins σ Q u s':=by
 obtain ⟨v,H',os,bare,un,az,r,q⟩:=h
 obtain ⟨hh,g,d,t,ZJ⟩:=s'
 obtain rfl:ZJ=s.os:=os
 exact ⟨v,H',I.call (h':=hh) (g':=g) (d':=d) (t':=t) (ch:=[]) un az bare (fun b z=>absurd z (by simp)),r,q⟩
end
def uf (sp:Sp)(kN:List V)(E:XK)(t:TA):TE:=fun σ H Q=>t σ H fun vs H1=>sp (vs++kN) H1 Q E
def Binds (K:PySem.W.Frag)(fd:FuncData)(ps:List Str)(ds:List Value):Prop :=
 ∀ (s:Shared) (us:List Value),K.In s.heap->(us++ds).length=ps.length->BindsTo s fd ⟨us,[]⟩ (ps.zip (us++ds))
theorem Binds.all {K:PySem.W.Frag}{fd:FuncData}{ps:List Str}(h:∀ us:List Value,us.length=ps.length->bindArgs fd ⟨us,[]⟩=pure (ps.zip us)):Binds K fd ps []:=fun s us _ hl=>by
 rw [List.append_nil] at hl ⊢
 exact .of_eq (h us hl)
def Passes (CX:fV)(X:Cx)(E:XK):Prop:=∀ (pins:List (Addr×Obj)) (σ:St) (H:Hp) (s:Shared) (e:Value) (s':Shared),Inv X pins σ H s->CX X.stack H s E e s'->X.xe e s'
section
variable {X:Cx}{CX:fV}{k:Nat}{f C:Addr}{fd:FuncData}{ps:List Str}{sp:Sp}{kN:List V}{ds:List Value}{E:XK}{x m:Str}{p pos apos:Pos}{e o:Expr}{es:List Expr}{ta:TE}{t:TA}
theorem S8 {pins:List (Addr×Obj)}{σ:St}{H:Hp}{s:Shared}{Q:VK}{us:List Value}{vs:List V}(F:aR X.prog X.w X.K X.mg X.base CX k f fd ps sp)(hr:dw k X.A)(hb:Binds X.K fd ps ds)(hd:Vals kN ds)(hx:Passes CX X E)
  (I:Inv X pins σ H s) (r:Vals vs us) (h:sp (vs++kN) H Q E):wpAny (model X.prog X.w) X.A (call (.ref f) us) (EP X pins σ Q) X.xe s:=by
 have r2:Vals (vs++kN) (us++ds):=r.append hd
 have hl:(us++ds).length=ps.length:=by rw [<- r2.length];exact F.len _ _ _ _ h
 refine wpAny_call (codeAny_mono (F.run X.A X.stack s H ⟨us,[]⟩ (us++ds) (vs++kN) Q E hr I.UU (hb s us I.dQ hl) r2 h) fun r s' hq=>?_)
 cases r with
 |error e=>exact hx pins σ H s e s' I hq
 |ok fl =>
  cases fl with
  |ret u=>exact I.after hq
  |next=>exact False.elim hq
  |brk=>exact False.elim hq
  |cont=>exact False.elim hq
theorem E3 (F:aR X.prog X.w X.K X.mg X.base CX k f fd ps sp)(hr:dw k X.A)(hg:Gl X x)(hm:X.mg x=some (.ref f))(hk:PySem.W.keepIn X.K (.ref f)=true)(hb:Binds X.K fd ps ds)(hd:Vals kN ds)(hx:Passes CX X E)
  (ha:PA X (e::es) t) (fI:(x==("__debug__" : Str))=false:=by decide) (he:starEach (e::es) X.env=(false,eval e X.env)::starEach es X.env:=by rfl) (eG:(backTo pos (starEach es X.env)).any (·.1)=false:=by rfl) :
  PE X (.Call (.Name x p) (e::es) [] pos) (uf sp kN E t):=by
 intro pins s σ H Q I h
 refine wpAny_Call_Name_kw (EW I hg hm ?_ fI)
 refine PySem.W.callWith_K (h₀:=X.base) I.ok.mod.zG hk (ay (ha pos pins s σ H _ I h) fun us s1 ⟨vs,H1,I1,r,q⟩=>⟨I1.dQ,?_⟩) he eG
 exact S8 F hr hb hd hx I1 r q
end
structure bh (N P:List Str) (sc:Scope):Prop where
 kind:sc.kind=.function
 co:sc.isCoroutine=false
 gen:sc.isGenerator=false
 nd:N.Nodup
 pre:N.take P.length=P
 par:∀ x ∈ P,sc.names.lookup x=some .local\/sc.names.lookup x=some .cell
 S9:∀ y ∈ sc.names,y.2 ≠ .free
theorem DG {kindOf:Str->Option NameKind}{x:Str}:∀ {binds:List (Str×Value)} {m:Str->Option Value},(∀ v,(x,v) ∉ binds)->bindL kindOf binds m x=m x
 |[],_,_=>rfl
 |(n,v)::r,m,h=>by
  unfold bindL
  rw [DG fun w hw=>h w (List.mem_cons_of_mem _ hw)]
  split
  ·have:x ≠ n:=by rintro rfl;exact h v List.mem_cons_self
   simp [this]
  ·rfl
theorem DH {kindOf:Str->Option NameKind}{x:Str}:∀ {binds:List (Str×Value)} {m:Str->Option Value},(∀ v,(x,v) ∉ binds)->bindC kindOf binds m x=m x
 |[],_,_=>rfl
 |(n,v)::r,m,h=>by
  unfold bindC
  rw [DH fun w hw=>h w (List.mem_cons_of_mem _ hw)]
  split
  ·rfl
  ·have:x ≠ n:=by rintro rfl;exact h v List.mem_cons_self
   simp [this]
theorem DI {kindOf:Str->Option NameKind}{x:Str}{v:Value}:∀ {P:List Str} {vs:List Value} {i:Nat} {m:Str->Option Value},P.Nodup->P[i]?=some x->vs[i]?=some v->kindOf x=some .local ->
  bindL kindOf (P.zip vs) m x=some v
 |[],_,_,_,_,h,_,_=>by simp at h
 |_::_,[],_,_,_,_,h,_=>by simp at h
 |p::P,w::vs,0,m,nd,h1,h2,hk=>by
  simp at h1 h2;subst h1;subst h2
  show bindL kindOf ((p,w)::P.zip vs) m p=_
  unfold bindL
  rw [DG fun v hv=>(List.nodup_cons.mp nd).1 (List.of_mem_zip hv).1,if_pos hk]
  simp
 |p::P,w::vs,i+1,m,nd,h1,h2,hk=>by
  show bindL kindOf ((p,w)::P.zip vs) m x=_
  unfold bindL
  exact DI (i:=i) (List.nodup_cons.mp nd).2 (by simpa using h1) (by simpa using h2) hk
theorem DJ {kindOf:Str->Option NameKind}{x:Str}{v:Value}:∀ {P:List Str} {vs:List Value} {i:Nat} {m:Str->Option Value},P.Nodup->P[i]?=some x->vs[i]?=some v->kindOf x ≠ some .local ->
  bindC kindOf (P.zip vs) m x=some v
 |[],_,_,_,_,h,_,_=>by simp at h
 |_::_,[],_,_,_,_,h,_=>by simp at h
 |p::P,w::vs,0,m,nd,h1,h2,hk=>by
  simp at h1 h2;subst h1;subst h2
  show bindC kindOf ((p,w)::P.zip vs) m p=_
  unfold bindC
  rw [DH fun v hv=>(List.nodup_cons.mp nd).1 (List.of_mem_zip hv).1,if_neg hk]
  simp
 |p::P,w::vs,i+1,m,nd,h1,h2,hk=>by
  show bindC kindOf ((p,w)::P.zip vs) m x=_
  unfold bindC
  exact DJ (i:=i) (List.nodup_cons.mp nd).2 (by simpa using h1) (by simpa using h2) hk
def start (N:List Str)(vs:List V):St:=vs.map some++List.replicate (N.length-vs.length) none
def jK (CX:fV)(P:Program)(w:World)(K:PySem.W.Frag)(mg:Str->Option Value)(base:Heap)(N:List Str)(qual:Str)(scope:Scope)(f:Addr)(cd:Value)(A:Around)(outer:List Env)(s:Shared)(H:Hp)(E:XK):Cx where
 prog:=P
 w:=w
 K:=K
 mg:=mg
 base:=base
 A:=A.deeper (envOfC qual scope s.heap.objs.size f cd)
 N:=N
 cN:=s
 qI:=H
 env:=envOfC qual scope s.heap.objs.size f cd
 outer:=outer
 stack:=envOfC qual scope s.heap.objs.size f cd::outer
 ex:=[]
 calm:=true
 fn:=fun _=>true
 pn:=[]
 xe:=fun e s'=>wpAny (model P w) (A.deeper (envOfC qual scope s.heap.objs.size f cd)) (leaving (envOfC qual scope s.heap.objs.size f cd) e) (fun _ zM=>CX outer H s E e zM) (fun e' zM=>CX outer H s E e' zM) s'
theorem xh {sc:Scope}{n:Nat}{x:Str}(h:sc.names.lookup x=some .cell):∃ c,(cellsFrom n sc.names []).lookup x=some c:=by
 have q:=PySem.W.cellsFrom_some sc.names n [] (.inl h)
 exact Option.isSome_iff_exists.mp q
theorem Pm {CX:fV}{P:Program}{w:World}{K:PySem.W.Frag}{mg:Str->Option Value}{base:Heap}{N ps:List Str}{qual:Str}{scope:Scope}{f:Addr}{cd:Value}{A:Around}{outer:List Env}{s s1:Shared}{H:Hp}{E:XK}{us:List Value}{vs:List V}
  (S:bh N ps scope) (hd:A.handled=none) (e0:uy P w K mg base A outer s H) (hl:vs.length=ps.length) (r:Vals vs us)
  (x:InCallC s s.heap.objs.size (bindL (envOfC qual scope s.heap.objs.size f cd).kindOf (ps.zip us) fun _=>none) (cellsFrom (s.heap.objs.size+1) scope.names []) (bindC (envOfC qual scope s.heap.objs.size f cd).kindOf (ps.zip us) fun _=>none) s1) :
  Inv (jK CX P w K mg base N qual scope f cd A outer s H E) [] (start N vs) H s1:=by
 have eG:ps.length<=N.length:=by have:=congrArg List.length S.pre;rw [List.length_take] at this;omega
 obtain ⟨h1,tk,rfl,hk⟩:=x.done
 have rj:∀ b:Addr,b ∉ (jK CX P w K mg base N qual scope f cd A outer s H E).ex:=fun b z=>absurd (show b ∈ ([]:List Addr) from z) (by simp)
 refine ⟨⟨e0.mod,S.kind,rfl,rfl,Nat.le_refl _,fun y z c h1 h2=>?_,fun y hy=>?_,fun y c _ h=>?_,fun _=>hd,Around.frames_deeper e0.frames,.inr ⟨rfl,rfl⟩,fun b z=>absurd z (rj b),e0.bs,e0.mK,fun b _ _=>rj b,fun b z=>absurd z (rj b),e0.iC,e0.o5⟩,
  rfl,e0.bare,Un.kept hk,⟨_,x.toInCall.ns,fun i y v h1 h2 h3=>?_⟩,fun y c h=>⟨_,x.cell y c h⟩,e0.az.fresh (Nat.le_refl _),fun y c h=>?_,fun p hp=>absurd (show p ∈ ([]:List (Addr×Obj)) from hp) (by simp),e0.az.kept hk,?_⟩
 ·exact name_of_addr x.apart (PySem.mem_of_lookup h1) (PySem.mem_of_lookup h2)
 ·have hy:scope.names.lookup y=some .cell\/scope.names.lookup y=some .free:=hy
  rcases hy with hy | hy
  ·exact xh hy
  ·exact absurd rfl (S.S9 _ (PySem.mem_of_lookup hy))
 ·exact Nat.le_of_lt (x.above y c (PySem.mem_of_lookup h))
 ·have hi:i<vs.length:=by
   unfold start at h2
   by_cases hi:i<vs.length
   ·exact hi
   ·rw [List.getElem?_append_right (by simpa using hi)] at h2
    rw [List.getElem?_replicate] at h2
    split at h2<;>cases h2
  have ha:vs[i]?=some v:=by
   unfold start at h2
   rw [List.getElem?_append_left (by simpa using hi),List.getElem?_map] at h2
   cases e:vs[i]? with
   |none=>rw [e] at h2;cases h2
   |some a=>rw [e] at h2;cases h2;rfl
  obtain ⟨u,hu,rv⟩:=r.get ha
  have hp:ps[i]?=some y:=by
   rw [<- S.pre,List.getElem?_take_of_lt (by omega)];exact h1
  have Kf:ps.Nodup:=by rw [<- S.pre];exact S.nd.sublist (List.take_sublist _ _)
  refine ⟨u,rv,?_⟩
  rcases S.par y (List.mem_of_getElem? hp) with k | k
  ·exact .inl ⟨k,DI Kf hp hu k⟩
  ·obtain ⟨c,e⟩:=xh (n:=s.heap.objs.size+1) k
   refine .inr ⟨.inl k,c,e,?_⟩
   have q:=x.cell y c e
   rw [DJ Kf hp hu (by show scope.names.lookup y ≠ _;rw [k];decide)] at q
   exact q
 ·exact e0.az.fresh (Nat.le_of_lt (x.above y c (PySem.mem_of_lookup h)))
 ·unfold start
  show _=N.length
  rw [List.length_append,List.length_map,List.length_replicate]
  omega
theorem T7 {CX:fV}{P:Program}{w:World}{K:PySem.W.Frag}{mg:Str->Option Value}{base:Heap}{k:Nat}{f:Addr}{name qual:Str}{params:Arguments}{body:List Stmt}{scope:Scope}{dV kV doc pm bI ct oc:Value}{an od:Option Addr}
  {gH:Array (Option Value)} {N ps:List Str} {sp:Sp} (lk:K.lookup f=some ⟨oc,od,.func (PySem.W.fnOf name qual params body scope dV kV doc pm an bI ct),gH⟩) (iM:PySem.W.codeIn K bI qual=true) (S:bh N ps scope)
  (len:∀ vs H Q E,sp vs H Q E->vs.length=ps.length)
  (yr:∀ (A:Around) (outer:List Env) (s:Shared) (H:Hp) (vs:List V) (Q:VK) (E:XK),dw k (A.deeper (envOfC qual scope s.heap.objs.size f bI))->sp vs H Q E ->
   ∃ t,eU (jK CX P w K mg base N qual scope f bI A outer s H E) body t/\t { nx:=fun _ H'=>Q .aS H',rt:=Q } (start N vs) H) :
  aR P w K mg base CX (k+1) f (PySem.W.fnOf name qual params body scope dV kV doc pm an bI ct) ps sp:=by
 refine ⟨len,fun A outer s H args us vs Q E hr e0 hb r kO=>?_⟩
 have hl:=len _ _ _ _ kO
 have KX:K.In s.heap:=e0.mod.zG.keeps fun b o e=>(e0.bs b o e).1
 have lim:s.heap.NoLimit:=e0.mod.nolimit.keeps fun b o e=>(e0.bs b o e).1
 have T9:∀ y ∈ ps.zip us,scope.names.lookup y.1=some .local\/(scope.names.lookup y.1=some .cell/\((cellsFrom (s.heap.objs.size+1) scope.names []).lookup y.1).isSome=true):=fun ⟨n,v⟩ hy=>by
  rcases S.par n (List.of_mem_zip hy).1 with q | q
  ·exact .inl q
  ·exact .inr ⟨q,PySem.W.cellsFrom_some _ _ _ (.inl q)⟩
 refine codeAny_call_function hr.depth (KX _ _ lk) rfl S.co S.gen rfl (PySem.W.codeRec_of KX iM) (hb _ _ _ _ ?_)
 refine wpAny_newFunctionEnv_cells S.kind T9 fun env he s1 x=>?_
 subst he
 refine ⟨lim.keeps x.toInCall.keep,codeAny_func ?_⟩
 obtain ⟨t,ht,hq⟩:=yr A outer s H vs Q E (hr.deeper _) kO
 have I:Inv (jK CX P w K mg base N qual scope f bI A outer s H E) [] (start N vs) H s1:=Pm S hr.hd e0 hl r x
 refine wpAny_mono (ht [] s1 (start N vs) H _ I hq) (fun fl s' hs=>?_) fun e s' hs=>hs
 have fin:∀ {aA:St} {H':Hp} {v:V} {u:Value},Inv (jK CX P w K mg base N qual scope f bI A outer s H E) [] aA H' s'->RelV v u->Q v H'->CE outer P w H s Q u s' :=
  fun {aA H' v u} J rv q=>⟨v,H',J.os,J.bare,J.base,J.az,rv,q⟩
 cases fl with
 |ret u =>
  obtain ⟨v,aA,H',J,rv,q⟩:=hs
  exact fin J rv q
 |next =>
  obtain ⟨aA,H',J,q⟩:=hs
  exact fin (v:=V.aS) (u:=Value.none) J rfl q
 |brk =>
  obtain ⟨_,_,_,q⟩:=hs
  exact False.elim q
 |cont =>
  obtain ⟨_,_,_,q⟩:=hs
  exact False.elim q
end L2
namespace L2
open PySem PySem.Spec PyProof.Rows
section
variable {X:Cx}{x:Str}{p pos:Pos}{e:Expr}{es:List Expr}{t:TA}{id T:String}{r:List V->Hp->VK->Prop}
def jP (r:List V->Hp->VK->Prop)(t:TA):TE:=fun σ H Q=>t σ H fun vs H1=>r vs H1 Q
theorem sS (hc:du X (.builtin id) r) (hg:Gl X x) (hm:X.mg x=none) (hv:bootBuiltins x=some (.builtin id)) (ha:PA X (e::es) t) (hn:x ≠ "__name__" := by decide) (fI:(x==("__debug__" : Str))=false:=by decide)
  (he:starEach (e::es) X.env=(false,eval e X.env)::starEach es X.env:=by rfl) (eG:(backTo pos (starEach es X.env)).any (·.1)=false:=by rfl):PE X (.Call (.Name x p) (e::es) [] pos) (jP r t):=by
 intro pins s σ H Q I h
 refine wpAny_Call_Name_kw (jD I hg hm hv ?_ hn fI)
 exact PyProof.Rows.callWith_builtin1 (ay (ha pos pins s σ H _ I h) fun us s1 ⟨vs,H1,I1,r1,q1⟩=>hc pins s1 σ H1 vs us Q I1 r1 q1) he eG
theorem sO (hc:du X (.type T) r) (hg:Gl X x) (hm:X.mg x=none) (hv:bootBuiltins x=some (.type T)) (ha:PA X (e::es) t) (hn:x ≠ "__name__" := by decide) (fI:(x==("__debug__" : Str))=false:=by decide)
  (he:starEach (e::es) X.env=(false,eval e X.env)::starEach es X.env:=by rfl) (eG:(backTo pos (starEach es X.env)).any (·.1)=false:=by rfl):PE X (.Call (.Name x p) (e::es) [] pos) (jP r t):=by
 intro pins s σ H Q I h
 refine wpAny_Call_Name_kw (jD I hg hm hv ?_ hn fI)
 exact PyProof.Rows.callWith_type1 (ay (ha pos pins s σ H _ I h) fun us s1 ⟨vs,H1,I1,r1,q1⟩=>hc pins s1 σ H1 vs us Q I1 r1 q1) he eG
end
end L2
namespace HT
open PySem PyProof.Rows
def lexLt:List Int->List Int->Bool
 |[],[] => false
 |[],_::_=>true
 |_::_,[] => false
 |x::xs,y::ys=>if x=y then lexLt xs ys else decide (x<y)
theorem Ot (x y:Int)(xs ys:List Int):lexLt (x::xs) (y::ys)=if x=y then lexLt xs ys else decide (x<y):=rfl
theorem MT:lexLt [] []=false:=rfl
theorem MA (y:Int)(ys:List Int):lexLt [] (y::ys)=true:=rfl
theorem MB (x:Int)(xs:List Int):lexLt (x::xs) []=false:=rfl
theorem Qd (A:Around)(s:Shared)(a:Int)(t:Tok)(c:Int)(u:Tok):∃ e,SeqAt.EqAt A s (.int a t) (.int c u) e/\(e=true ↔ a=c) :=
 ⟨(a==c),SeqAt.EqAt.int_int a t c u,by simp⟩
theorem Qe (A:Around)(s:Shared)(a:Int)(t:Tok)(c:Int)(u:Tok)(prog:Program)(w:World)(E:Value->Shared->Prop)(Q:Value->Shared->Prop)(h:Q (.bool (decide (a<c))) s) :
  wpAny (model prog w) A (richCompare .Lt (.int a t) (.int c u)) Q E s :=
 (PyProof.Rows.lt_int h:wpAny (model prog w) A (compareOp .Lt (.int a t) (.int c u)) Q E s)
section
open PySem.SeqAt
open PySem.AutoSeq1 (wpAny_loadPart')
open PySem.MeetsSeq PySem.MeetsSeq2 PySem.MeetsSeq3
theorem MU (l b:Addr)(items jc:Array Value)(n n2:Nat)(dd rk:Option Addr)(sl mR:Array (Option Value))(ns ms:List Int)(hi:IntsAre items.toList ns)(hj:IntsAre jc.toList ms) :
  Meets (Builtin.«tuple.__lt__» ⟨[.ref l,.ref b],[]⟩)
   (fun _ R s=>s.heap.get? l=some { cls:=.type "tuple",dict:=dd,data:=.seq items n,slots:=sl }/\s.heap.get? b=some { cls:=.type "tuple",dict:=rk,data:=.seq jc n2,slots:=mR } /\
    R (.ok (.ret (.bool (lexLt ns ms)))) s) :=
 .of_wp fun prog w A R s h=>by
  obtain ⟨hp,g,d,tk,os⟩:=s;obtain ⟨hl,hb,h⟩:=h
  have f2:=AutoSeq1.sub_tuple_tuple
  have z1:items.size=ns.length:=by rw [<- hi.length];simp
  have z2:jc.size=ms.length:=by rw [<- hj.length];simp
  wp_walk using wpAny_loadPart' hl,wpAny_loadPart' hb,wpAny_forIn_list _ (fun rest b s'=>b.1=none/\s'=⟨hp,g,d,tk,os⟩/\∃ (vs ws:List Value) (jQ o7:List Int),rest=vs.zip ws /\
   IntsAre vs jQ/\IntsAre ws o7/\jQ.length+jc.size=o7.length+items.size/\R (.ok (.ret (.bool (lexLt jQ o7)))) ⟨hp,g,d,tk,os⟩) _
  case turn =>
   rintro ⟨y,x⟩ rest b s' ⟨gI,rfl,vs,ws,jQ,o7,hz,aB,uU,hlen,hR⟩
   cases aB with
   |nil=>rw [List.zip_nil_left] at hz;cases hz
   |cons a t UW =>
    cases uU with
    |nil=>rw [List.zip_nil_right] at hz;cases hz
    |cons c u UX =>
     rw [List.zip_cons_cons] at hz
     injection hz with ZK Ua
     injection ZK with hy hx
     subst hy hx
     rw [Ot] at hR
     simp only [List.length_cons] at hlen
     obtain ⟨e,he,IX⟩:=Qd A.in1 ⟨hp,g,d,tk,os⟩ a t c u
     refine wpAny_bind (he prog w _ _ ?_)
     cases e with
     |true =>
      rw [if_pos (IX.mp rfl)] at hR
      wp_walk
      exact ⟨rfl,rfl,_,_,_,_,Ua,UW,UX,by omega,hR⟩
     |false =>
      rw [if_neg (fun q=>absurd (IX.mpr q) Bool.false_ne_true)] at hR
      have ZL:=Qe A.in1 ⟨hp,g,d,tk,os⟩ a t c u prog w
      wp_walk using ZL
      exact ⟨_,rfl,by simpa using hR⟩
  case fin =>
   rintro ⟨b1,b2⟩ s' ⟨gI,rfl,vs,ws,jQ,o7,hz,aB,uU,hlen,hR⟩
   simp only at gI
   subst gI
   have hv:lexLt jQ o7=decide (items.size<jc.size):=by
    cases aB with
    |nil =>
     cases uU with
     |nil =>
      simp only [List.length_nil] at hlen
      rw [MT]
      exact (decide_eq_false (by omega)).symm
     |cons c u hw =>
      simp only [List.length_nil,List.length_cons] at hlen
      rw [MA]
      exact (decide_eq_true (by omega)).symm
    |cons a t hv =>
     cases uU with
     |nil =>
      simp only [List.length_nil,List.length_cons] at hlen
      rw [MB]
      exact (decide_eq_false (by omega)).symm
     |cons c u hw =>
      rw [List.zip_cons_cons] at hz
      cases hz
   rw [hv] at hR
   wp_walk
   exact ⟨_,rfl,by simpa [Builtin.Tuple.tupleCompareSizes] using hR⟩
  case h =>
   exact ⟨rfl,rfl,items.toList,jc.toList,ns,ms,rfl,hi,hj,by omega,h⟩
end
section
variable {prog:Program}{w:World}{A:Around}{E:Value->Shared->Prop}{s:Shared}
theorem Ou {l b:Addr}{items jc:Array Value}{ns ms:List Int}{Q:Value->Shared->Prop}(hl:IsTup s.heap l items)(hb:IsTup s.heap b jc)(hi:IntsAre items.toList ns)(hj:IntsAre jc.toList ms)
  (hu:A.units<cLine) (h:Q (.bool (lexLt ns ms)) s):wpAny (model prog w) A (compareOp .Lt (.ref l) (.ref b)) Q E s:=by
 obtain ⟨⟨cls,dd,data,sl⟩,ho,hc,n,hd⟩:=id hl
 obtain ⟨⟨aai,rk,data2,mR⟩,mS,kQ,n2,hd2⟩:=id hb
 simp only at hc hd kQ hd2
 subst hc hd kQ hd2
 exact richCompare_meets_room (op:=.Lt) ⟨_,ho,rfl⟩ ⟨_,mS,rfl⟩ PySem.F.slot_tuple_lt PySem.F.entry_tuple_lt (PySem.F.args_tuple_lt_2 _ _) (MU l b items jc n n2 dd rk sl mR ns ms hi hj)
  ⟨ho,mS,show Value.bool (lexLt ns ms) ≠ Value.notImplemented/\Q (.bool (lexLt ns ms)) s from ⟨(fun x=>nomatch x),h⟩⟩ hu
def aK (n d:Nat):Option Int->Nat
 |none=>d
 |some v=>if v<0 then (v+(n:Int)).toNat else min v.toNat n
theorem tu (n d k:Nat):aK n d (some (k:Int))=min k n:=by
 show (if (k:Int)<0 then ((k:Int)+(n:Int)).toNat else min (k:Int).toNat n)=min k n
 rw [if_neg (by omega),Int.toNat_natCast]
theorem Ta (n d:Nat)(hd:d<=n)(o:Option Int):aK n d o<=n:=by
 cases o with
 |none=>exact hd
 |some v =>
  show (if v<0 then (v+(n:Int)).toNat else min v.toNat n)<=n
  by_cases hv:v<0
  ·rw [if_pos hv];omega
  ·rw [if_neg hv];exact Nat.min_le_right _ _
theorem E4 (v:Int)(n d:Nat):(if v<0 then max (v+(n:Int)) 0 else min v (n:Int))=((aK n d (some v):Nat):Int):=by
 show (if v<0 then max (v+(n:Int)) 0 else min v (n:Int))=(((if v<0 then (v+(n:Int)).toNat else min v.toNat n):Nat):Int)
 by_cases hv:v<0
 ·simp only [if_pos hv];omega
 ·simp only [if_neg hv];omega
theorem Ov (lo hi:Option Int)(n:Nat):Builtin.Slice.sliceAdjust lo hi 1 (n:Int)=(((aK n 0 lo:Nat):Int),((aK n n hi:Nat):Int)):=by
 have h1:¬ ((1:Int)<0):=by omega
 unfold Builtin.Slice.sliceAdjust
 simp only [h1,if_false]
 refine Prod.ext ?_ ?_
 ·cases lo with
  |none=>rfl
  |some v=>exact E4 v n 0
 ·cases hi with
  |none=>rfl
  |some v=>exact E4 v n n
theorem Ox (i j:Nat):Builtin.Slice.slicePlaces (i:Int) (j:Int) 1=j-i:=by
 unfold Builtin.Slice.slicePlaces
 have h1:(1:Int) > 0:=by omega
 simp only [h1,if_true,Int.ediv_one]
 split<;>omega
theorem Dx {v:Value}{o:Option Int}{Q:Option Int->Shared->Prop}(p:IsPart v o)(h:Q o s):wpAny (model prog w) A (Builtin.Slice.slicePartIndex v) Q E s:=by
 cases p with
 |none=>exact slicePart_none h
 |int i t=>exact slicePart_int h
theorem Mq {sl:Addr}{vl vu:Value}{lo hi:Option Int}{n:Nat}{Q:Int×Int×Nat->Shared->Prop}(hs:s.heap.IsSliceOf sl vl vu .none)(pl:IsPart vl lo)(pu:IsPart vu hi)
  (h:Q (((aK n 0 lo:Nat):Int),1,aK n n hi-aK n 0 lo) s):wpAny (model prog w) A (Builtin.Slice.sliceApplied (.ref sl) (pure (n:Int))) Q E s:=by
 obtain ⟨os,jR,Kg,kR⟩:=id hs
 unfold Builtin.Slice.sliceApplied Builtin.Slice.sliceFields
 refine wpAny_bind (wpAny_bind (wpAny_field jR kR (x:=vl) rfl (wpAny_bind (wpAny_field jR kR (x:=vu) rfl (wpAny_bind (wpAny_field jR kR (x:=.none) rfl (wpAny_pure ?_)))))))
 refine wpAny_bind (slicePart_none ?_)
 show wpAny _ _ (if ((1:Int)==0)=true then _ else _) _ _ s
 rw [if_neg (by decide)]
 refine wpAny_bind (Dx pl (wpAny_bind (Dx pu (wpAny_bind (wpAny_pure ?_)))))
 show wpAny _ _ (match Builtin.Slice.sliceAdjust lo hi 1 (n:Int) with | (lo,hi)=>pure (lo,(1:Int),Builtin.Slice.slicePlaces lo hi 1)) _ _ s
 rw [Ov lo hi n]
 show wpAny _ _ (pure (((aK n 0 lo:Nat):Int),(1:Int),Builtin.Slice.slicePlaces ((aK n 0 lo:Nat):Int) ((aK n n hi:Nat):Int) 1)) _ _ s
 rw [Ox]
 exact wpAny_pure h
theorem Qf (xs:Array Value)(i k:Nat):((List.range k).filterMap fun (m:Nat)=>xs[((i:Int)+(m:Int)*1).toNat]?).toArray=((xs.toList.drop i).take k).toArray:=by
 have e:(fun (m:Nat)=>xs[((i:Int)+(m:Int)*1).toNat]?)=fun m=>xs[i+m]?:=by
  funext m
  have:((i:Int)+(m:Int)*1).toNat=i+m:=by omega
  rw [this]
 rw [e]
 have:=pick_run xs i k
 rw [List.filterMap_map] at this
 have e2:((fun x=>xs[x]?) ∘ fun x=>i+x)=fun m=>xs[i+m]?:=rfl
 rw [e2] at this
 rw [this]
theorem Mo {t sl:Addr}{items:Array Value}{vl vu:Value}{lo hi:Option Int}{Q:Value->Shared->Prop}(ht:IsTup s.heap t items)(hs:s.heap.IsSliceOf sl vl vu .none)(pl:IsPart vl lo)(pu:IsPart vu hi)
  (hw:¬ (aK items.size 0 lo=0/\aK items.size items.size hi=items.size))
  (h:Q (.ref s.heap.objs.size) { s with heap:=s.heap.push { cls:=.type "tuple",data:=.seq ((items.toList.drop (aK items.size 0 lo)).take (aK items.size items.size hi-aK items.size 0 lo)).toArray } })
  (bR:items.size<=sizeLine):wpAny (model prog w) A (getItem (.ref t) (.ref sl)) Q E s:=by
 have ug:sizeOk (.seq ((items.toList.drop (aK items.size 0 lo)).take (aK items.size items.size hi-aK items.size 0 lo)).toArray):=by
  show ((items.toList.drop (aK items.size 0 lo)).take (aK items.size items.size hi-aK items.size 0 lo)).toArray.size<=sizeLine
  rw [List.size_toArray,List.length_take,List.length_drop,Array.length_toList]
  omega
 have hj:aK items.size items.size hi<=items.size:=Ta _ _ (Nat.le_refl _) hi
 obtain ⟨os,jR,Kg,kR⟩:=id hs
 have ZM:s.TypeIs (.ref sl) "slice" := ⟨os,jR,Kg⟩
 unfold getItem
 try with_reducible refine wpAny_holding ?_
 first | refine wpAny_bind (wpAny_pure ?_) | skip
 refine wpAny_bind (wpAny_sequenceKey ht.typeIs (by decide) ?_)
 refine wpAny_bind (wpAny_callSpecial?_slot (name:=Str.ofString "__getitem__") ht.typeIs PyProof.Rows.slot_tuple_getitem
  (wpAny_call_entry PyProof.Rows.slot_tuple_getitem ht.typeIs entry_tuple_getitem ?_ (args_tuple_getitem _ _)))
 show wpAny _ _ (Builtin.Tuple.tupleItemsOf (.ref t) >>= _) _ _ s
 refine wpAny_bind (tupleItemsOf_ ht ?_)
 refine wpAny_bind (wpAny_typeOf ZM ?_)
 rw [if_pos (by decide)]
 refine wpAny_bind (Mq hs pl pu ?_)
 have ZN:¬ ((((aK items.size 0 lo:Nat):Int)==0&&(1:Int)==1&&(aK items.size items.size hi-aK items.size 0 lo)==items.size)=true):=by
  intro q
  rw [Bool.and_eq_true,Bool.and_eq_true] at q
  have q1:((aK items.size 0 lo:Nat):Int)=0:=eq_of_beq q.1.1
  have q2:aK items.size items.size hi-aK items.size 0 lo=items.size:=eq_of_beq q.2
  exact hw ⟨by omega,by omega⟩
 show wpAny _ _ (if (((aK items.size 0 lo:Nat):Int)==0&&(1:Int)==1&&(aK items.size items.size hi-aK items.size 0 lo)==items.size)=true then _ else _) _ _ s
 rw [if_neg ZN,Qf]
 first
  |exact wpAny_bind (m:=Builtin.Tuple.tupleExact _) (wpAny_newObj_type (wpAny_pure ⟨_,rfl,wpAny_pure h⟩) ug)
  |exact wpAny_bind (m:=Builtin.Tuple.tupleExact _) (wpAny_newObj_type (wpAny_bind (wpAny_pure (wpAny_pure ⟨_,rfl,wpAny_pure h⟩))) ug)
  |exact wpAny_bind (wpAny_bind (m:=Builtin.Tuple.tupleExact _) (wpAny_newObj_type (wpAny_pure (wpAny_pure ⟨_,rfl,wpAny_pure h⟩)) ug))
  |exact wpAny_bind (wpAny_bind (m:=Builtin.Tuple.tupleExact _) (wpAny_newObj_type (wpAny_pure ⟨_,rfl,wpAny_pure h⟩) ug))
end
end HT
namespace L2
open PySem PySem.Spec PyProof.Rows
abbrev TO:=St->Hp->(Option Int->Hp->Prop)->Prop
def PO (X:Cx)(e:Option Expr)(t:TO):Prop :=
 ∀ (pins:List (Addr×Obj)) (s:Shared) (σ:St) (H:Hp) (Q:Option Int->Hp->Prop),Inv X pins σ H s->t σ H Q ->
  wpAny (model X.prog X.w) X.A (evalPart e X.env) (fun u s'=>∃ o H',Inv X pins σ H' s'/\IsPart u o/\Q o H') X.xe s
def E5:TO:=fun _ H Q=>Q none H
def HZ (t:TE):TO:=fun σ H Q=>t σ H fun x H1=>∃ i,x=.int i/\Q (some i) H1
theorem intsAre_of {ns:List Int}:∀ {us:List Value},Vals (ns.map V.int) us->IntsAre us ns:=by
 induction ns with
 |nil=>intro us r;rw [List.map_nil] at r;cases r;exact .nil
 |cons n ns ih =>
  intro us r
  rw [List.map_cons] at r
  cases r with
  |cons r1 r2 =>
   obtain ⟨t,e⟩:=r1
   subst e
   exact .cons n t (ih r2)
section
variable {X:Cx}{e:Expr}{te:TE}{lo hi:Option Expr}{tl th:TO}{pos p2:Pos}
theorem Q6:PO X none E5:=by
 intro pins s σ H Q I h
 rw [evalPart_none]
 exact wpAny_pure ⟨none,H,I,.none,h⟩
theorem Q7 (h:PE X e te):PO X (some e) (HZ te):=by
 intro pins s σ H Q I hw
 rw [evalPart_some]
 refine ay (h pins s σ H _ I hw) fun u s1 ⟨x,H1,I1,r1,q1⟩=>?_
 obtain ⟨i,rfl,q⟩:=q1
 obtain ⟨t,rfl⟩:=r1
 exact ⟨some i,H1,I1,.int i t,q⟩
def zN (X:Cx)(r:V->Option Int->Option Int->Hp->VK->Prop):Prop :=
 ∀ (pins:List (Addr×Obj)) (s:Shared) (σ:St) (H:Hp) (x:V) (v vl vu:Value) (lo hi:Option Int) (sl:Addr) (Q:VK),Inv X pins σ H s->RelV x v->s.heap.IsSliceOf sl vl vu .none->IsPart vl lo->IsPart vu hi->r x lo hi H Q ->
  ∃ T id,typeLookup (.type T) "__getitem__" = pure (some (.builtin id))/\s.TypeIs v T/\wpAny (model X.prog X.w) X.A (getItem v (.ref sl)) (EP X pins σ Q) X.xe s
def zO (r:V->Option Int->Option Int->Hp->VK->Prop)(te:TE)(tl th:TO):TE:=fun σ H Q=>te σ H fun x H1=>tl σ H1 fun l H2=>th σ H2 fun u H3=>r x l u H3 Q
theorem D6 {r:V->Option Int->Option Int->Hp->VK->Prop}(hr:zN X r)(he:PE X e te)(hl:PO X lo tl)(hu:PO X hi th):PE X (.Subscript e (.Slice lo hi none p2) pos) (zO r te tl th):=by
 intro pins s σ H Q I h
 refine Subscript_ (ay (he pins s σ H _ I h) fun v s1 ⟨x,H1,I1,r1,q1⟩=>?_)
 refine wpAny_Slice (ay (hl pins s1 σ H1 _ I1 q1) fun vl s2 ⟨l,H2,I2,pl,q2⟩=>ay (hu pins s2 σ H2 _ I2 q2) fun vu s3 ⟨u,H3,I3,pu,q3⟩=>?_)
 rw [evalPart_none]
 refine wpAny_pure ?_
 have I4:Inv X pins σ H3 { s3 with heap:=s3.heap.push { cls:=.type "slice",data:=.fields #[vl,vu,.none] } }:=I3.kept (t':=s3.toks) fun b ob q=>Heap.get?_push_of_some _ q
 obtain ⟨T,id,hT,ht,hg⟩:=hr pins { s3 with heap:=s3.heap.push { cls:=.type "slice",data:=.fields #[vl,vu,.none] } } σ H3 x v vl vu l u s3.heap.objs.size Q I4 r1 (Heap.IsSliceOf.new ..) pl pu q3
 show wpAny (model X.prog X.w) X.A (subscriptTail e (.Slice lo hi none p2) v (.ref s3.heap.objs.size)) (EP X pins σ Q) X.xe { s3 with heap:=s3.heap.push { cls:=.type "slice",data:=.fields #[vl,vu,.none] } }
 exact tail_any (ops:=[.ref s3.heap.objs.size,v]) ht hT hg (by with_unfolding_all rfl)
def kF (xs:List V)(lo hi:Option Int):List V:=(xs.drop (HT.aK xs.length 0 lo)).take (HT.aK xs.length xs.length hi-HT.aK xs.length 0 lo)
theorem Dt (xs:List V)(lo hi:Option Int):(kF xs lo hi).length<=xs.length:=by
 unfold kF
 rw [List.length_take,List.length_drop]
 omega
def IY (K:PySem.W.Frag):V->Option Int->Option Int->Hp->VK->Prop:=fun x lo hi H Q=>∃ a xs,x=.ref a/\bY K H a xs /\
 ¬ (HT.aK xs.length 0 lo=0/\HT.aK xs.length xs.length hi=xs.length)/\∀ p,H p=none->Q (.ref p) (upd H p (.tup (kF xs lo hi)))
theorem Tc:zN X (IY X.K):=by
 intro pins s σ H x v vl vu lo hi sl Q I rx hs pl pu h
 obtain ⟨a,xs,rfl,hx,hw,q⟩:=h
 cases rx
 obtain ⟨its,r,ht,hz⟩:=I.tuple hx
 have hlen:its.toArray.size=xs.length:=by rw [List.size_toArray];exact r.length.symm
 refine ⟨"tuple",_,PyProof.Rows.slot_tuple_getitem.lookup,ht.typeIs,?_⟩
 refine HT.Mo ht hs pl pu (by rw [hlen];exact hw) ?_ (by rw [hlen];exact hz)
 rw [hlen]
 refine ⟨.ref s.heap.objs.size,_,I.laid (t':=s.toks) (o:=.tup (kF xs lo hi)) (fun b ob q=>Heap.get?_push_of_some _ q) (Nat.le_refl _) ?_,rfl,q _ (I.az.fresh (Nat.le_refl _))⟩
 exact ⟨Nat.le_trans (Dt xs lo hi) hz,_,(r.drop (HT.aK xs.length 0 lo)).take (HT.aK xs.length xs.length hi-HT.aK xs.length 0 lo),IsTup.new _ _⟩
end
end L2
namespace L2
open PySem PySem.Spec PyProof.Rows
def dW (n:Nat)(i:Int):Option Nat:=if 0<=i then (if i<n then some i.toNat else none) else if -(n:Int)<=i then some (i+n).toNat else none
def av {α:Type}(xs:List α)(i:Int):Option α:=(dW xs.length i).bind fun j=>xs[j]?
theorem pW {n:Nat}{i:Int}{j:Nat}(h:dW n i=some j):seqIndex? i n=some j/\j<n /\ -(n:Int)<=i/\i<n:=by
 unfold dW at h
 by_cases h0 : 0<=i
 ·rw [if_pos h0] at h
  by_cases h1:i<n
  ·rw [if_pos h1] at h
   have e:i.toNat=j:=Option.some.inj h
   exact ⟨by rw [seqIndex_of h0 h1,e],by omega,by omega,h1⟩
  ·rw [if_neg h1] at h;cases h
 ·rw [if_neg h0] at h
  by_cases h1 : -(n:Int)<=i
  ·rw [if_pos h1] at h
   have e:(i+n).toNat=j:=Option.some.inj h
   exact ⟨by rw [seqIndex_neg (by omega) h1,e],by omega,h1,by omega⟩
  ·rw [if_neg h1] at h;cases h
theorem E6 {α:Type}{xs:List α}{i:Int}{v : α}(h:av xs i=some v):∃ j,seqIndex? i xs.length=some j/\xs[j]?=some v/\j<xs.length /\ -(xs.length:Int)<=i/\i<xs.length:=by
 unfold av at h
 cases e:dW xs.length i with
 |none=>rw [e] at h;cases h
 |some j =>
  rw [e] at h
  obtain ⟨h1,h2,h3,h4⟩:=pW e
  exact ⟨j,h1,h,h2,h3,h4⟩
theorem e7 {α:Type}{xs:List α}{j:Nat}{v : α}(h:xs[j]?=some v):av xs (j:Int)=some v:=by
 have hj:j<xs.length:=(List.getElem?_eq_some_iff.mp h).1
 have e:dW xs.length (j:Int)=some j:=by
  unfold dW
  rw [if_pos (by omega),if_pos (by omega)];simp
 unfold av;rw [e];exact h
def xC (b:Expr):Prop:=∀ o i,subscripted b false o i=operate [o,i] (getItem o i)
def rm (X:Cx)(r:R2):Prop :=
 ∀ (value slice:Expr) (pins:List (Addr×Obj)) (s:Shared) (σ:St) (H:Hp) (x y:V) (v u:Value) (Q:VK),Inv X pins σ H s->RelV x v->RelV y u->r x y H Q ->
  subscripted slice false v u=operate [v,u] (getItem v u)->wpAny (model X.prog X.w) X.A (subscriptTail value slice v u) (EP X pins σ Q) X.xe s
def zP (X:Cx)(id:String)(r:V->List V->Hp->VK->Prop):Prop :=
 ∀ (pins:List (Addr×Obj)) (s:Shared) (σ:St) (H:Hp) (x:V) (xs:List V) (v:Value) (us:List Value) (Q:VK),Inv X pins σ H s->RelV x v->Vals xs us->r x xs H Q ->
  wpAny (model X.prog X.w) X.A (call (.builtin id) (v::us)) (EP X pins σ Q) X.xe s
section
variable {X:Cx}{a b:Expr}{ta tb:TE}{pos:Pos}
theorem uh {r:R2}(hr:rm X r)(ha:PE X a ta)(hb:PE X b tb)(hs:xC b):PE X (.Subscript a b pos) (jk r ta tb):=by
 intro pins s σ H Q I h
 exact Subscript_ (zb ha hb I h fun v u s2 x y H2 I2 rx ry q=>hr a b pins s2 σ H2 x y v u Q I2 rx ry q (hs _ _))
def zh (K:PySem.W.Frag):R2:=fun x y H Q=>∃ p xs i v,x=.ref p/\y=.int i/\aN K H p xs/\av xs i=some v/\Q v H
def uz (K:PySem.W.Frag):R2:=fun x y H Q=>∃ p xs i v,x=.ref p/\y=.int i/\bY K H p xs/\av xs i=some v/\Q v H
theorem Q8:rm X (zh X.K):=by
 intro value slice pins s σ H x y v u Q I rx ry h hs
 obtain ⟨p,xs,i,z,rfl,rfl,hq,he,q⟩:=h
 cases rx
 obtain ⟨t,rfl⟩:=ry
 obtain ⟨its,r,pl,hz⟩:=I.list hq
 obtain ⟨j,h1,h2,h3,h4,h5⟩:=E6 he
 obtain ⟨w,ew,mO⟩:=r.get h2
 have hl:=r.length
 have hn:=tU
 have fin:EP X pins σ Q w s:=⟨z,H,I,mO,q⟩
 by_cases h0 : 0<=i
 ·have hj:i.toNat=j:=by
   rw [seqIndex_of h0 h5] at h1
   exact Option.some.inj h1
  exact item_listR pl.isList h0 (by omega) (by rw [hj];simpa using ew) fin hs
 ·have hj:(i+(its.toArray.size:Int)).toNat=j:=by
   rw [seqIndex_neg (by omega) h4] at h1
   rw [List.size_toArray,<- hl]
   exact Option.some.inj h1
  exact subscriptTail_builtinR (x:=w) pl.isList.typeIs slot_list_getitem.lookup
   (wpAny_getItem_list_neg (Q:=fun r s'=>r=w/\EP X pins σ Q r s') pl.isList (by omega) (by rw [List.size_toArray]<;>omega) (by omega) (by rw [hj];simpa using ew) ⟨rfl,fin⟩) hs
theorem xS:rm X (uz X.K):=by
 intro value slice pins s σ H x y v u Q I rx ry h hs
 obtain ⟨p,xs,i,z,rfl,rfl,hq,he,q⟩:=h
 cases rx
 obtain ⟨t,rfl⟩:=ry
 obtain ⟨its,r,pl,hz⟩:=I.tuple hq
 obtain ⟨j,h1,h2,h3,h4,h5⟩:=E6 he
 obtain ⟨w,ew,mO⟩:=r.get h2
 have hl:=r.length
 have hn:=tU
 have fin:EP X pins σ Q w s:=⟨z,H,I,mO,q⟩
 exact subscriptTail_builtinR (x:=w) pl.typeIs slot_tuple_getitem.lookup
  (getItem_tuple (j:=j) (Q:=fun r s'=>r=w/\EP X pins σ Q r s') pl (by omega) (by omega) (by rw [List.size_toArray,<- hl];exact h1) (by simpa using ew) ⟨rfl,fin⟩) hs
theorem Oy (its:List Value) (n j:Nat) (u:Value):Obj.mapSeq (·.setIfInBounds j u) { cls:=.type "list",data:=.seq its.toArray n } = { cls:=.type "list",data:=.seq (its.set j u).toArray n }:=by
 simp [Obj.mapSeq]
theorem Inv.lst {pins:List (Addr×Obj)}{σ:St}{H:Hp}{s:Shared}{p:Addr}{xs:List V}(I:Inv X pins σ H s)(h:H p=some (.lst xs)) :
  ∃ (its:List Value) (n:Nat),Vals xs its/\s.heap.get? p=some { cls:=.type "list",data:=.seq its.toArray n }/\xs.length<=sizeLine:=by
 obtain ⟨z,its,n,r,e⟩:=I.az p _ h
 exact ⟨its,n,r,e,z⟩
theorem Inv.Td {pins:List (Addr×Obj)}{σ:St}{H:Hp}{s:Shared}{p:Addr}{xs ys:List V}{its its':List Value}{n n':Nat}{f:Obj->Obj}(I:Inv X pins σ H s)(h:H p=some (.lst xs))
  (ho:s.heap.get? p=some { cls:=.type "list",data:=.seq its.toArray n }) (hf:f { cls:=.type "list",data:=.seq its.toArray n } = { cls:=.type "list",data:=.seq its'.toArray n' }) (r:Vals ys its') (hz:ys.length<=sizeLine) (t:Nat) :
  Inv X pins σ (upd H p (.lst ys)) { s with heap:=s.heap.update p f,toks:=t }:=by
 have e:(s.heap.update p f).get? p=some { cls:=.type "list",data:=.seq its'.toArray n' }:=by
  rw [Heap.get?_update_self f ho (by rw [hf]<;>rfl),hf]
 refine I.write (x:=p) (e:=p) (by rw [h];trivial) (.inl rfl) (fun b u hb q=>(Heap.get?_update_other _ _ (Ne.symm hb)).trans q) ⟨_,e⟩ ?_
 exact ⟨hz,its',n',r,e⟩
def yt:V->V->V->Hp->(Hp->Prop)->Prop:=fun o i v H Q=>∃ p xs k j,o=.ref p/\i=.int k/\H p=some (.lst xs)/\dW xs.length k=some j/\Q (upd H p (.lst (xs.set j v)))
theorem set_list:IP X yt:=by
 intro pins s σ H o i v ov iv u Q I ro ri rv h
 obtain ⟨p,xs,k,j,rfl,rfl,hp,hj,q⟩:=h
 cases ro
 obtain ⟨t,rfl⟩:=ri
 obtain ⟨its,n,r,ho,hz⟩:=I.lst hp
 obtain ⟨h1,h2,h3,h4⟩:=pW hj
 have hl:=r.length
 have hn:=tU
 have I':Inv X pins σ (upd H p (.lst (xs.set j v))) { s with heap:=s.heap.update p (Obj.mapSeq (·.setIfInBounds j u)) } :=
  I.Td hp ho (Oy its n j u) (r.set rv j) (by rw [List.length_set];exact hz) s.toks
 by_cases h0 : 0<=k
 ·have hk:k.toNat=j:=by
   rw [seqIndex_of h0 h4] at h1
   exact Option.some.inj h1
  exact PySem.W.ki_setAt ho h0 (by omega) (by rw [List.size_toArray,<- hl];exact h4) (by rw [hk];exact ⟨_,I',q⟩)
 ·have hk:(k+(its.toArray.size:Int)).toNat=j:=by
   rw [seqIndex_neg (by omega) h3] at h1
   rw [List.size_toArray,<- hl]
   exact Option.some.inj h1
  exact PySem.W.ki_setBack ho (by omega) (by rw [List.size_toArray,<- hl];exact h3) (by omega) (by rw [hk];exact ⟨_,I',q⟩)
theorem Ny (lo hi:Option Int)(n:Nat):(sliceBounds lo hi none n).1=((HT.aK n 0 lo:Nat):Int)/\(sliceBounds lo hi none n).2.1=((HT.aK n n hi:Nat):Int)/\(sliceBounds lo hi none n).2.2=1:=by
 refine ⟨?_,?_,rfl⟩
 ·cases lo with
  |none=>simp [sliceBounds,HT.aK]
  |some i =>
   simp only [sliceBounds,HT.aK,Option.getD_none,show (1:Int) > 0 by decide,if_true]
   by_cases h:i<0
   ·simp only [h,if_true]<;>omega
   ·simp only [h,if_false]<;>omega
 ·cases hi with
  |none=>simp [sliceBounds,HT.aK]
  |some i =>
   simp only [sliceBounds,HT.aK,Option.getD_none,show (1:Int) > 0 by decide,if_true]
   by_cases h:i<0
   ·simp only [h,if_true]<;>omega
   ·simp only [h,if_false]<;>omega
theorem MV (its:List Value)(lo hi:Option Int):slicePick its.toArray lo hi none=((its.drop (HT.aK its.length 0 lo)).take (HT.aK its.length its.length hi-HT.aK its.length 0 lo)).toArray:=by
 obtain ⟨h1,h2,h3⟩:=Ny lo hi its.toArray.size
 unfold slicePick
 rw [h1,h2,h3]
 simp only [sliceRange_one,pick_run,List.size_toArray]<;>rfl
def IZ (K:PySem.W.Frag):V->Option Int->Option Int->Hp->VK->Prop:=fun x lo hi H Q=>∃ a xs,x=.ref a/\aN K H a xs/\∀ p,H p=none->Q (.ref p) (upd H p (.lst (kF xs lo hi)))
theorem Q9:zN X (IZ X.K):=by
 intro pins s σ H x v vl vu lo hi sl Q I rx hs pl pu h
 obtain ⟨a,xs,rfl,hx,q⟩:=h
 cases rx
 obtain ⟨its,r,ht,hz⟩:=I.list hx
 have hlen:=r.length
 refine ⟨"list",_,slot_list_getitem.lookup,ht.isList.typeIs,?_⟩
 refine wpAny_getItem_list_slice ht.isList hs pl pu .none (by simp) ?_ (by rw [List.size_toArray]<;>omega)
 rw [MV,<- hlen]
 refine ⟨.ref s.heap.objs.size,_,I.laid (t':=s.toks) (o:=.lst (kF xs lo hi)) (fun b ob q=>Heap.get?_push_of_some _ q) (Nat.le_refl _) ?_,rfl,q _ (I.az.fresh (Nat.le_refl _))⟩
 exact ⟨Nat.le_trans (Dt xs lo hi) hz,_,0,(r.drop (HT.aK xs.length 0 lo)).take (HT.aK xs.length xs.length hi-HT.aK xs.length 0 lo),Heap.get?_push_size _ rfl⟩
def fQ:V->Bool
 | .aS=>true
 | .bl _=>true
 | .int _=>true
 | .str _=>true
 |_=>false
def fX:V->V->Bool
 | .aS,.aS=>true
 | .bl a,.bl b=>a==b
 | .bl a,.int b=>(if a then 1 else 0)==b
 | .int a,.bl b=>a==(if b then 1 else 0)
 | .int a,.int b=>a==b
 | .str a,.str b=>a==b
 |_,_=>false
theorem Gg {A:Around}{s:Shared}{y x:V}{u v:Value}(ry:RelV y u)(rx:RelV x v)(fy:fQ y=true)(fx:fQ x=true):SeqAt.EqAt A s u v (fX y x):=by
 cases y with
 |aS =>
  cases ry
  cases x with
  |aS=>cases rx;exact SeqAt.EqAt.same _
  |bl b=>cases rx;exact SeqAt.EqAt.none_bool b
  |int b=>obtain ⟨t,rfl⟩:=rx;exact SeqAt.EqAt.none_int b t
  |str b=>obtain ⟨t,rfl⟩:=rx;exact SeqAt.EqAt.none_str b t
  |_=>exact absurd (show false=true from fx) Bool.false_ne_true
 |bl a =>
  cases ry
  cases x with
  |aS=>cases rx;exact SeqAt.EqAt.bool_none a
  |bl b=>cases rx;exact SeqAt.EqAt.bool_bool a b
  |int b=>obtain ⟨t,rfl⟩:=rx;exact SeqAt.EqAt.bool_int a b t
  |str b=>obtain ⟨t,rfl⟩:=rx;exact SeqAt.EqAt.bool_str a b t
  |_=>exact absurd (show false=true from fx) Bool.false_ne_true
 |int a =>
  obtain ⟨t',rfl⟩:=ry
  cases x with
  |aS=>cases rx;exact SeqAt.EqAt.int_none a t'
  |bl b=>cases rx;exact SeqAt.EqAt.int_bool a t' b
  |int b=>obtain ⟨t,rfl⟩:=rx;exact SeqAt.EqAt.int_int a t' b t
  |str b=>obtain ⟨t,rfl⟩:=rx;exact SeqAt.EqAt.int_str a t' b t
  |_=>exact absurd (show false=true from fx) Bool.false_ne_true
 |str a =>
  obtain ⟨t',rfl⟩:=ry
  cases x with
  |aS=>cases rx;exact SeqAt.EqAt.str_none a t'
  |bl b=>cases rx;exact SeqAt.EqAt.str_bool a t' b
  |int b=>obtain ⟨t,rfl⟩:=rx;exact SeqAt.EqAt.str_int a t' b t
  |str b=>obtain ⟨t,rfl⟩:=rx;exact SeqAt.EqAt.str_str a t' b t
  |_=>exact absurd (show false=true from fx) Bool.false_ne_true
 |_=>exact absurd (show false=true from fy) Bool.false_ne_true
def fJ (x:V)(u:Value):Bool:=match u with
 | .none=>fX .aS x
 | .bool b=>fX (.bl b) x
 | .int i _=>fX (.int i) x
 | .str z _=>fX (.str z) x
 |_=>false
theorem Gh {x y:V}{u:Value}(r:RelV y u)(f:fQ y=true):fJ x u=fX y x:=by
 cases y with
 |aS=>cases r;rfl
 |bl b=>cases r;rfl
 |int i=>obtain ⟨t,rfl⟩:=r;rfl
 |str z=>obtain ⟨t,rfl⟩:=r;rfl
 |_=>exact absurd (show false=true from f) Bool.false_ne_true
theorem pX {x:V}:∀ {xs:List V} {us:List Value},Vals xs us->xs.all fQ=true->us.any (fJ x)=xs.any fun y=>fX y x
 |_,_,.nil,_=>rfl
 |y::xs,u::us,.cons r t,f=>by
  rw [List.all_cons,Bool.and_eq_true] at f
  rw [List.any_cons,List.any_cons,Gh r f.1,pX t f.2]
theorem pS {A:Around}{s:Shared}{x:V}{v:Value}(rx:RelV x v)(fx:fQ x=true):∀ {xs:List V} {us:List Value},Vals xs us->xs.all fQ=true->∀ u ∈ us,SeqAt.EqAt A s u v (fJ x u)
 |_,_,.nil,_=>fun u hu=>by cases hu
 |y::xs,u::us,.cons r t,f=>fun u' hu=>by
  rw [List.all_cons,Bool.and_eq_true] at f
  rcases List.mem_cons.mp hu with rfl | hu
  ·rw [Gh r f.1];exact Gg r rx f.1 fx
  ·exact pS rx fx t f.2 u' hu
def uV (x:V)(xs:List V):Bool:=xs.any fun y=>fX y x
def rp (K:PySem.W.Frag)(neg:Bool):R2:=fun x y H Q=>∃ p xs,y=.ref p/\(aN K H p xs\/bY K H p xs)/\fQ x=true/\xs.all fQ=true/\Q (.bl (if neg then !uV x xs else uV x xs)) H
theorem Pn:cu X (compareOp .In) (rp X.K false):=by
 intro pins s σ H x y v u Q I rx ry h
 obtain ⟨p,xs,rfl,hq,fx,fs,q⟩:=h
 cases ry
 rcases hq with hq | hq
 ·obtain ⟨its,r,pl,hz⟩:=I.list hq
  refine SeqAt.in_listAt (fJ x) pl.isList (fun w hw=>pS rx fx r fs w (by simpa using hw)) ⟨.bl _,H,I,rfl,?_⟩
  rw [show its.toArray.any (fJ x)=its.any (fJ x) by simp,pX r fs]
  exact q
 ·obtain ⟨its,r,pl,hz⟩:=I.tuple hq
  refine SeqAt.in_tupleAt (fJ x) pl (fun w hw=>pS rx fx r fs w (by simpa using hw)) ⟨.bl _,H,I,rfl,?_⟩
  rw [show its.toArray.any (fJ x)=its.any (fJ x) by simp,pX r fs]
  exact q
theorem Nz:cu X (compareOp .NotIn) (rp X.K true):=by
 intro pins s σ H x y v u Q I rx ry h
 obtain ⟨p,xs,rfl,hq,fx,fs,q⟩:=h
 cases ry
 rcases hq with hq | hq
 ·obtain ⟨its,r,pl,hz⟩:=I.list hq
  refine SeqAt.notIn_listAt (fJ x) pl.isList (fun w hw=>pS rx fx r fs w (by simpa using hw)) ⟨.bl _,H,I,rfl,?_⟩
  rw [show its.toArray.any (fJ x)=its.any (fJ x) by simp,pX r fs]
  exact q
 ·obtain ⟨its,r,pl,hz⟩:=I.tuple hq
  refine SeqAt.notIn_tupleAt (fJ x) pl (fun w hw=>pS rx fx r fs w (by simpa using hw)) ⟨.bl _,H,I,rfl,?_⟩
  rw [show its.toArray.any (fJ x)=its.any (fJ x) by simp,pX r fs]
  exact q
theorem NA:du X (.builtin "len") (fun xs H Q=>∃ p ys,xs=[.ref p]/\(aN X.K H p ys\/bY X.K H p ys)/\Q (.int ys.length) H):=by
 intro pins s σ H xs us Q I r h
 obtain ⟨p,ys,rfl,hq,q⟩:=h
 obtain ⟨u,rfl,rx⟩:=vals1 r
 cases rx
 have hn:=tU
 rcases hq with hq | hq
 ·obtain ⟨its,r',pl,hz⟩:=I.list hq
  have hlen:=r'.length
  exact Calls.call_len_list pl.isList (by simp only [List.size_toArray]<;>omega) ⟨.int ys.length,H,I.tok _,⟨s.toks+1,by rw [List.size_toArray,hlen]⟩,q⟩
 ·obtain ⟨its,r',pl,hz⟩:=I.tuple hq
  have hlen:=r'.length
  exact len_tuple pl (by simp only [List.size_toArray]<;>omega) ⟨.int ys.length,H,I.tok _,⟨s.toks+1,by rw [List.size_toArray,hlen]⟩,q⟩
theorem NB:du X (.type "list") (fun xs H Q=>∃ p ys,xs=[.ref p]/\(aN X.K H p ys\/bY X.K H p ys)/\∀ l,H l=none->Q (.ref l) (upd H l (.lst ys))):=by
 intro pins s σ H xs us Q I r h
 obtain ⟨p,ys,rfl,hq,q⟩:=h
 obtain ⟨u,rfl,rx⟩:=vals1 r
 cases rx
 have fin:∀ (its:List Value),Vals ys its->ys.length<=sizeLine->∀ (h':Heap) (c':Nat),(∀ b o',s.heap.get? b=some o'->h'.get? b=some o') ->
   h'.get? s.heap.objs.size=some { cls:=.type "list",dict:=none,data:=.seq its.toArray c',slots:=#[] }->EP X pins σ Q (.ref s.heap.objs.size) { s with heap:=h' }:=fun its r' hz h' c' kp e =>
  ⟨.ref s.heap.objs.size,_,I.laid (t':=s.toks) kp (Nat.le_refl _) (show cJ X.prog X.w _ h' _ (.lst ys) from ⟨hz,its,c',r',e⟩),rfl,q _ (I.az.fresh (Nat.le_refl _))⟩
 rcases hq with hq | hq
 ·obtain ⟨its,r',pl,hz⟩:=I.list hq
  have hlen:=r'.length
  obtain ⟨o,ho,hc,n,hd⟩:=pl.isList
  exact call_list_seq p (.inl rfl) ho hc hd (fun h' c' kp e=>fin its r' hz h' c' kp e) (by simp only [List.size_toArray]<;>omega)
 ·obtain ⟨its,r',pl,hz⟩:=I.tuple hq
  have hlen:=r'.length
  obtain ⟨o,ho,hc,n,hd⟩:=pl
  exact call_list_seq p (.inr rfl) ho hc hd (fun h' c' kp e=>fin its r' hz h' c' kp e) (by simp only [List.size_toArray]<;>omega)
def zQ (K:PySem.W.Frag)(T:String)(x:V)(H:Hp):Prop:=match x with
 | .str _=>T = "str"
 | .int _=>T = "int"
 | .ref p=>(T = "list" /\ ∃ xs,aN K H p xs)\/(T = "tuple" /\ ∃ o,K.lookup p=some o/\o.cls=.type "tuple" /\ o.dict=none) \/
   (T = "dict" /\ ((∃ cE,H p=some (.dK cE))\/∃ cE,H p=some (.dT cE)))\/(T = "set" /\ ∃ S n,H p=some (.set S n))
 |_=>False
theorem Gi {pins:List (Addr×Obj)}{σ:St}{H:Hp}{s:Shared}{T:String}{x:V}{v:Value}(I:Inv X pins σ H s)(r:RelV x v)(ty:zQ X.K T x H) :
  s.TypeIs v T/\∀ a,v=.ref a->∃ ob,s.heap.get? a=some ob/\ob.dict=none:=by
 cases x with
 |str z =>
  obtain ⟨t,rfl⟩:=r
  cases (show T = "str" from ty)
  exact ⟨typeIs_str s z t,fun _ e=>nomatch e⟩
 |int i =>
  obtain ⟨t,rfl⟩:=r
  cases (show T = "int" from ty)
  exact ⟨typeIs_int s i t,fun _ e=>nomatch e⟩
 |ref p =>
  cases r
  rcases ty with ⟨rfl,xs,hq⟩ | ⟨rfl,o,hk,hc,hd⟩ | ⟨rfl,hk⟩ | ⟨rfl,S,n,hk⟩
  ·obtain ⟨its,_,pl,_⟩:=I.list hq
   refine ⟨pl.isList.typeIs,fun a e=>?_⟩
   cases e
   obtain ⟨o,n,e,c,hd,_⟩:=pl
   exact ⟨o,e,hd⟩
  ·refine ⟨⟨o,I.dQ p o hk,hc⟩,fun a e=>?_⟩
   cases e
   exact ⟨o,I.dQ _ o hk,hd⟩
  ·have z:∃ o,s.heap.get? p=some o/\o.ExactDict:=by
    rcases hk with ⟨cE,hk⟩ | ⟨cE,hk⟩
    ·obtain ⟨_,_,_,_,o,_,_,e,ex,_⟩:=I.az p _ hk
     exact ⟨o,e,ex⟩
    ·obtain ⟨_,_,_,_,o,_,_,e,ex,_⟩:=I.az p _ hk
     exact ⟨o,e,ex⟩
   obtain ⟨o,e,ex⟩:=z
   refine ⟨⟨o,e,ex.1⟩,fun a e2=>?_⟩
   cases e2
   exact ⟨o,e,ex.2.1⟩
  ·obtain ⟨o,_,_,_,e,ex,_⟩:=I.az p _ hk
   refine ⟨⟨o,e,ex.1⟩,fun a e2=>?_⟩
   cases e2
   exact ⟨o,e,ex.2.1⟩
 |_=>exact False.elim ty
def I0 (K:PySem.W.Frag)(T:String)(r:V->List V->Hp->VK->Prop)(to:TE):TE:=fun σ H Q=>to σ H fun x H1=>zQ K T x H1/\r x [] H1 Q
def jS (K:PySem.W.Frag)(T:String)(r:V->List V->Hp->VK->Prop)(to:TE)(t:TA):TE:=fun σ H Q=>to σ H fun x H1=>zQ K T x H1/\t σ H1 fun xs H2=>r x xs H2 Q
variable {o e:Expr}{es:List Expr}{to:TE}{t:TA}{name:Str}{apos jL:Pos}{T id:String}{r:V->List V->Hp->VK->Prop}
theorem Gj (pa:PlainAttrs T) (slot:Slot T name id) (rq:typeOf (.builtin id)=pure (.type "method_descriptor")) (hm:zP X id r) (ho:PE X o to)
  (fA:attributeBase o name X.env (eval o X.env)=eval o X.env:=by rfl) (hline:(apos.endLine==jL.line)=true:=by rfl):PE X (.Call (.Attribute o name apos) [] [] jL) (I0 X.K T r to):=by
 intro pins s σ H Q I h
 refine wpAny_Call_method0_late fA hline (ay (ho pins s σ H _ I h) fun v s1 ⟨x,H1,I1,r1,ty,q1⟩=>?_)
 obtain ⟨h1,h2⟩:=Gi I1 r1 ty
 exact ⟨T,id,pa,slot,rq,h1,h2,Calls.callWith_builtin rfl (PySem.evalArgs_none (hm pins s1 σ H1 x [] v [] Q I1 r1 .nil q1))⟩
theorem kC (pa:PlainAttrs T) (slot:Slot T name id) (rq:typeOf (.builtin id)=pure (.type "method_descriptor")) (hm:zP X id r) (ho:PE X o to) (ha:PA X (e::es) t)
  (fA:attributeBase o name X.env (eval o X.env)=eval o X.env:=by rfl)
  (gx:((backTo jL (starEach (e::es) X.env)).all (fun x=>!x.1)&&(backToKw jL (keywordEach [] X.env)).all (fun x=>x.1.isSome)
   && decide ((e::es).length+([]:List Keyword).length+(if ([]:List Keyword).isEmpty then 0 else 1)<30))=true:=by rfl)
  (hline:(apos.endLine==jL.line)=true:=by rfl) (hs:starEach (e::es) X.env=(false,eval e X.env)::starEach es X.env:=by rfl) (xT:(backTo jL (starEach es X.env)).any (·.1)=false:=by rfl) :
  PE X (.Call (.Attribute o name apos) (e::es) [] jL) (jS X.K T r to t):=by
 intro pins s σ H Q I h
 refine wpAny_Call_method_late fA gx hline rfl (ay (ho pins s σ H _ I h) fun v s1 ⟨x,H1,I1,r1,ty,q1⟩=>?_)
 obtain ⟨h1,h2⟩:=Gi I1 r1 ty
 refine ⟨T,id,pa,slot,rq,h1,h2,?_⟩
 have hA:=ha jL pins s1 σ H1 _ I1 q1
 rw [hs] at hA ⊢
 refine Calls.callWith_builtin (by show (false || (backTo jL (starEach es X.env)).any (·.1))=false;rw [xT]<;>rfl) (Calls.evalArgs_plain ?_)
 exact ay hA fun us s2 ⟨vs,H2,I2,r2,q2⟩=>hm pins s2 σ H2 x vs v us Q I2 r1 r2 q2
end
end L2
namespace L2
open PySem PySem.Spec PyProof.Rows
def rz (X:Cx)(id:String)(r:V->List V->Hp->VK->Prop):Prop :=
 ∀ (pins:List (Addr×Obj)) (s:Shared) (σ:St) (H:Hp) (x:V) (xs:List V) (v:Value) (us:List Value) (Q:VK),Inv X pins σ H s->RelV x v->Vals xs us->r x xs H Q ->
  wpAny (model X.prog X.w) X.A (call (.builtin id) (v::us)) (EP X pins σ Q) X.xe s
theorem Vals.one:∀ {x:V} {us:List Value},Vals [x] us->∃ u,us=[u]/\RelV x u
 |_,_,.cons r .nil=>⟨_,rfl,r⟩
theorem Vals.two:∀ {x y:V} {us:List Value},Vals [x,y] us->∃ u v,us=[u,v]/\RelV x u/\RelV y v
 |_,_,_,.cons r (.cons q .nil)=>⟨_,_,rfl,r,q⟩
theorem Vals.zero:∀ {us:List Value},Vals [] us->us=[]
 |_,.nil=>rfl
theorem Vals.eraseIdx:∀ {xs:List V} {us:List Value} (i:Nat),Vals xs us->Vals (xs.eraseIdx i) (us.eraseIdx i)
 |_,_,_,.nil=>.nil
 |_,_,0,.cons _ t=>t
 |_,_,i+1,.cons r t=>.cons r (Vals.eraseIdx i t)
theorem DK {α:Type}:∀ (l:List α) (i:Nat),(l.eraseIdx i).length<=l.length
 |[],_=>Nat.le_refl _
 |_::_,0=>Nat.le_succ _
 |_::r,i+1=>Nat.succ_le_succ (DK r i)
section
variable {X:Cx}{pins:List (Addr×Obj)}{σ:St}{H:Hp}{s:Shared}{l b:Addr}{xs ys zs:List V}
theorem Inv.uA {its its':List Value}{n:Nat}{f:Array Value->Array Value}{t':Nat}(I:Inv X pins σ H s)(hH:H l=some (.lst xs))
  (e:s.heap.get? l=some { cls:=.type "list",data:=.seq its.toArray n }) (hf:f its.toArray=its'.toArray) (hv:Vals ys its') (hz:ys.length<=sizeLine) :
  Inv X pins σ (upd H l (.lst ys)) { s with heap:=s.heap.update l (Obj.mapSeq f),toks:=t' }:=by
 have q:=PySem.IsL.update e f
 rw [hf] at q
 refine I.write (x:=l) (e:=l) (by rw [hH];exact trivial) (.inl rfl) (fun b' u hb hu=>(Heap.get?_update_other s.heap (Obj.mapSeq f) (Ne.symm hb)).trans hu) ⟨_,q⟩ ?_
 exact ⟨hz,its',_,hv,q⟩
theorem Inv.zi {its:List Value}{t':Nat}(I:Inv X pins σ H s)(hv:Vals ys its)(hz:ys.length<=sizeLine) :
  Inv X pins σ (upd H s.heap.objs.size (.lst ys)) { s with heap:=s.heap.push { cls:=.type "list",data:=.seq its.toArray },toks:=t' } :=
 I.laid (fun _ _ q=>Heap.get?_push_of_some _ q) (Nat.le_refl _) ⟨hz,its,0,hv,Heap.get?_push_size _ rfl⟩
theorem Inv.fresh (I:Inv X pins σ H s):H s.heap.objs.size=none:=I.az.fresh (Nat.le_refl _)
theorem Inv.qM (I:Inv X pins σ H s) (hH:H l=some (.lst xs)):xs.length<=sizeLine/\∃ (its:List Value) (n:Nat),Vals xs its/\xs.length=its.length/\s.heap.get? l=some { cls:=.type "list",data:=.seq its.toArray n }:=by
 obtain ⟨z,its,n,r,e⟩:=I.az l _ hH
 exact ⟨z,its,n,r,r.length,e⟩
theorem Qg {n:Nat}(h:n<=sizeLine):Builtin.List.listTooLong n=false:=by
 unfold Builtin.List.listTooLong
 exact decide_eq_false (by omega)
end
section
variable {X:Cx}
def tv:V->List V->Hp->VK->Prop:=fun x vs H Q=>∃ l xs y,x=.ref l/\vs=[y]/\H l=some (.lst xs)/\xs.length<sizeLine/\Q .aS (upd H l (.lst (xs++[y])))
theorem pM:rz X "list.append" tv:=by
 intro pins s σ H x vs v us Q I rx rv h
 obtain ⟨l,xs,y,rfl,rfl,hH,hz,q⟩:=h
 cases rx
 obtain ⟨u,rfl,ru⟩:=rv.one
 obtain ⟨z,its,n,r,hl,e⟩:=I.qM hH
 refine call_meets F.slot_list_append ⟨_,e,rfl⟩ F.entry_list_append (F.args_list_append_2 _ _) (PySem.list_append l its.toArray n u (by rw [List.size_toArray];omega)) ⟨e,?_⟩
 refine ⟨.aS,_,I.uA (its':=its++[u]) hH e (by simp) (r.append (.cons ru .nil)) ?_,rfl,q⟩
 rw [List.length_append,List.length_singleton]
 omega
def xD:V->List V->Hp->VK->Prop:=fun x vs H Q=>∃ l b xs zs,x=.ref l/\vs=[.ref b]/\H l=some (.lst xs)/\H b=some (.lst zs)/\xs.length+zs.length<=sizeLine/\Q .aS (upd H l (.lst (xs++zs)))
theorem DL:rz X "list.extend" xD:=by
 intro pins s σ H x vs v us Q I rx rv h
 obtain ⟨l,b,xs,zs,rfl,rfl,hH,hB,hz,q⟩:=h
 cases rx
 obtain ⟨u,rfl,ru⟩:=rv.one
 cases ru
 obtain ⟨z,its,n,r,hl,e⟩:=I.qM hH
 obtain ⟨z2,fG,n2,r2,uW,e2⟩:=I.qM hB
 have bR:its.toArray.size+fG.toArray.size<=sizeLine:=by rw [List.size_toArray,List.size_toArray];omega
 have Ub:¬ (!its.toArray.isEmpty&&Builtin.List.listTooLong (its.toArray.size+fG.toArray.size))=true:=by
  rw [Qg bR,Bool.and_false]
  exact Bool.false_ne_true
 refine call_meets F.slot_list_extend ⟨_,e,rfl⟩ F.entry_list_extend (F.args_list_extend_2 _ _)
  (AutoSeq1.list_extend_list_list_0 l its.toArray n b fG.toArray n2 Ub (by rw [List.size_toArray];omega) (by omega)) ⟨e,e2,?_⟩
 refine ⟨.aS,_,I.uA (its':=its++fG) hH e (by simp) (r.append r2) ?_,rfl,q⟩
 rw [List.length_append]
 omega
def xU:V->List V->Hp->VK->Prop:=fun x vs H Q=>∃ l xs i k y,x=.ref l/\vs=[.int i]/\H l=some (.lst xs) /\ -(2 ^ 63)<=i/\i<2 ^ 63/\seqIndex? i xs.length=some k/\xs[k]?=some y/\Q y (upd H l (.lst (xs.eraseIdx k)))
theorem D7:rz X "list.pop" xU:=by
 intro pins s σ H x vs v us Q I rx rv h
 obtain ⟨l,xs,i,k,y,rfl,rfl,hH,h1,h2,hk,hy,q⟩:=h
 cases rx
 obtain ⟨u,rfl,ru⟩:=rv.one
 obtain ⟨t,rfl⟩:=ru
 obtain ⟨z,its,n,r,hl,e⟩:=I.qM hH
 obtain ⟨w,hw,mO⟩:=r.get hy
 refine call_meets F.slot_list_pop ⟨_,e,rfl⟩ F.entry_list_pop (F.args_list_pop_2 _ _)
  (MeetsSeq.list_pop_at l its.toArray n i t k w (fitsIndex_both h1 h2) (by rw [List.size_toArray,<- hl];exact hk) (by rw [<- Array.getElem?_toList];exact hw) (by rw [List.size_toArray];omega)) ⟨e,?_⟩
 refine ⟨y,_,I.uA (its':=its.eraseIdx k) hH e ?_ (r.eraseIdx k) ?_,mO,q⟩
 ·show its.toArray.eraseIdxIfInBounds k=(its.eraseIdx k).toArray
  rw [List.eraseIdxIfInBounds_toArray]
 ·have:=DK xs k
  omega
def Gk:V->List V->Hp->VK->Prop:=fun x vs H Q=>∃ l xs,x=.ref l/\vs=[]/\H l=some (.lst xs)/\Q .aS (upd H l (.lst []))
theorem D8:rz X "list.clear" Gk:=by
 intro pins s σ H x vs v us Q I rx rv h
 obtain ⟨l,xs,rfl,rfl,hH,q⟩:=h
 cases rx
 have ZO:=rv.zero
 subst ZO
 obtain ⟨z,its,n,r,hl,e⟩:=I.qM hH
 refine call_meets F.slot_list_clear ⟨_,e,rfl⟩ F.entry_list_clear (F.args_list_clear_1 _) (AutoSeq1.list_clear_list_0 l its.toArray n (by rw [List.size_toArray];omega)) ⟨e,?_⟩
 exact ⟨.aS,_,I.uA (its':=[]) (ys:=[]) hH e rfl .nil (Nat.zero_le _),rfl,q⟩
end
end L2
namespace Kh
open PySem PySem.W PySem.Calls PyProof.Rows
theorem Mt {P:Params}{h:Heap}:∀ (ns:List Int) (vs:List Value),WellAll P h vs (ns.map WData.int)->IntsAre vs ns:=by
 intro ns
 induction ns with
 |nil =>
  intro vs w
  rw [List.map_nil] at w
  cases w
  exact .nil
 |cons n ns ih =>
  intro vs w
  rw [List.map_cons] at w
  cases w with
  |cons a b =>
   cases a
   exact .cons _ _ (ih _ b)
theorem Pq {l:OpenLaw}{n:Nat}(hn:l.most=some n){P:Params}{h:Heap}{args:List WData}{vals:List Value}
  (uB:l.row.toRowW.claim.pre args=true) (zR:WellAll P h vals args) :
  ∃ a vs ns,vals=[Value.ref a]/\args=[WData.list (ns.map WData.int)]/\h.get? a=some { cls:=.type "list",data:=.seq vs.toArray }/\IntsAre vs ns/\ns.length<=n:=by
 have ZP:WShape.hasAll [] args [.list .int]=true:=(pre_splitW uB).1
 have hc:l.pre.holds [] { args:=args }=true:=(pre_splitW uB).2
 obtain ⟨d,r,rfl,h1,h2⟩:=hasAllW_cons ZP
 obtain rfl:=hasAllW_nil h2
 obtain ⟨xs,rfl,h3⟩:=hasW_list h1
 obtain ⟨ns,rfl⟩:=items_int h3
 have hlen:ns.length<=n:=by
  unfold OpenLaw.pre at hc
  have h4:(WTm.not (.lt (.lit (.int (n:Int))) (.len (.arg 0)))).holds [] { args:=[.list (ns.map .int)] }=true:=by
   have h4:=(holds_andW hc).1
   rw [hn] at h4
   exact h4
  have h5:=condW_of h4 (w_not (w_lt w_lit (w_len_list (w_arg rfl))))
  rw [List.length_map] at h5
  refine Nat.le_of_not_lt fun q=>?_
  have q':(n:Int)<((ns.length:Nat):Int):=by omega
  first
   |(rw [decide_eq_true q'] at h5;exact absurd h5 (by decide))
   |(simp at h5;omega)
 cases zR with
 |cons w1 w2 =>
  cases w2
  cases w1 with
  |list ho gy=>exact ⟨_,_,ns,rfl,rfl,ho,Mt ns _ gy,hlen⟩
theorem Pr (l:OpenLaw)(args:List WData):l.row.toRowW.claim.post args (.bool true) args=true :=
 postW_of (r:=l.row.toRowW) (X:=(true==true))
  (show WShape.has [] (.bool true) .bool=true by first | rfl | decide | simp [WShape.has,WShape.arms,WShape.armsAll])
  (show (WTm.eq .res (.lit (.bool true))).value [] { args:=args,res:=some (.bool true),after:=args }=some (.bool (true==true)) from w_eq_bool (w_res rfl) w_lit) rfl
theorem N1 {l:OpenLaw}{n:Nat}{q:Program}{loose:List Str}{XP:(Str->Option Value)->Heap->Prop}{YP:World->Heap->Prop}{d:DefRec}
  (hn:l.most=some n) (rA:d.params.defaults=[])
  (call:∀ (w:World) (cN aU:Shared) (mg mb:Str->Option Value) (fa:Addr) (o:Obj) (pm cd doc:Value) (a:Addr) (vs:List Value) (ns:List Int),
   Ground q loose [] XP w cN mg mb aU.heap->YP w aU.heap ->
   aU.heap.get? fa=some o->o.data=.func (docDef d.name d.params d.body d.scope pm cd doc)->aU.heap.CodeRec cd d.name->mg d.name=some (.ref fa) ->
   aU.heap.get? a=some { cls:=.type "list",data:=.seq vs.toArray }->IntsAre vs ns->ns.length<=n->aU.gens = #[] ->
   codeAny (model l.prog w) callerA (.call (.ref fa) ⟨[.ref a],[]⟩) (fun r s'=>r=.ok (.ret (.bool true))/\OldK aU.heap s'.heap/\s'.os=aU.os/\AllBare s'.gens) aU) :
  WalkO q loose XP YP l.row.toRowW d [] (fun f vs=>PySem.call f vs):=by
 intro w cN aU mg mb G Y fa o pm cd doc dV kV ho hd iM hD rB hg args vals as uB aaj hrd zR hlo
 obtain rfl:dV=.none:=Dflts.none hD rA
 obtain rfl:kV=.none:=Dflts.noKw hD
 obtain ⟨a,vs,ns,rfl,rfl,zj,hints,hlen⟩:=Pq hn uB zR
 refine enter_call (codeAny_mono (call w cN aU mg mb fa o pm cd doc a vs ns G Y ho (fd_plain hd) iM rB zj hints hlen hg) fun r s' hq=>?_)
 obtain ⟨rfl,h2,h3,h4⟩:=hq
 exact ⟨.inl ⟨.bool true,.bool true,[],rfl,fun _=>rfl,.bool true,Pr l _,fun _=>⟨List.Pairwise.nil,fun _ hm=>(nomatch hm)⟩⟩,h2,h3,h4⟩
end Kh
namespace L2
open PySem PySem.Spec PyProof.Rows
theorem wM:∀ {vs:List Value} {ns:List Int},IntsAre vs ns->Vals (ns.map V.int) vs
 |_,_,.nil=>.nil
 |_,_,.cons n t h=>.cons ⟨t,rfl⟩ (wM h)
def zk (H:Hp):Prop:=∀ b,H b=none\/∃ o xs,H b=some (.dh o (.lst xs))
theorem Qh {P:Program}{w:World}{K:PySem.W.Frag}{mg mb:Str->Option Value}{CX:fV}{k:Nat}{fa a:Addr}{fd:FuncData}{x:Str}{sp:Sp}{aU:Shared}{vs:List Value}{ns:List Int}
  (KX:K.In aU.heap) (iP:aU.heap.Ns mainGlobals mg) (hb:aU.heap.Ns builtinsNs mb) (uX:∀ x:Str,x ≠ "__name__" -> mb x=bootBuiltins x) (UY:aU.heap.NoLimit) (hg:aU.gens = #[])
  (ha:aU.heap.get? a=some { cls:=.type "list",data:=.seq vs.toArray }) (hi:IntsAre vs ns) (hl:ns.length<=sizeLine) (hr:dw k callerA)
  (F:∀ base:Heap,K.In base->base.Ns mainGlobals mg->aR P w K mg base CX k fa fd [x] sp) (Uc:∀ (s:Shared) (u:Value),BindsTo s fd ⟨[u],[]⟩ [(x,u)])
  (kO:∀ H:Hp,zk H->aN K H a (ns.map V.int)->sp [.ref a] H (fun v _=>v=.bl true) fun _ _ _=>False)
  (zS:∀ H e s',CX [] H aU (fun _ _ _=>False) e s'->False) :
  codeAny (model P w) callerA (.call (.ref fa) ⟨[.ref a],[]⟩) (fun r s'=>r=.ok (.ret (.bool true))/\OldK aU.heap s'.heap/\s'.os=aU.os/\AllBare s'.gens) aU:=by
 have rv:=wM hi
 have UZ:=hi.length
 have core:∀ H:Hp,zk H->aN K H a (ns.map V.int)->cz P w H aU.heap->(∀ b,H b ≠ none->b=a)->(H a ≠ none->K.lookup a=none) ->
   codeAny (model P w) callerA (.call (.ref fa) ⟨[.ref a],[]⟩) (fun r s'=>r=.ok (.ret (.bool true))/\OldK aU.heap s'.heap/\s'.os=aU.os/\AllBare s'.gens) aU:=by
  intro H hO hS az hA hK
  have E7:∀ {b:Addr} {o:Obj},aU.heap.get? b=some o->H b=none->(jJ aU.heap H).get? b=some o:=fun e n=>P9 e n
  have rj:∀ {b:Addr} {o:Obj} {es:Array DictEntry} {ep:Nat},aU.heap.get? b=some o->o.data=.dict es ep->H b=none:=fun {b o es ep} e d=>by
   cases q:H b with
   |none=>rfl
   |some u =>
    have e':b=a:=hA b (by rw [q];simp)
    subst e'
    rw [ha] at e;cases e
    have d':Data.seq vs.toArray _=Data.dict es ep:=d
    cases d'
  have uY:∀ {b:Addr} {m:Str->Option Value},aU.heap.Ns b m->(jJ aU.heap H).Ns b m:=fun {b m} ⟨o,es,ep,e,d,r⟩=>⟨o,es,ep,E7 e (rj e d),d,r⟩
  have Ki:K.In (jJ aU.heap H):=fun b o e=>E7 (KX b o e) (by
   cases q:H b with
   |none=>rfl
   |some u =>
    have e':b=a:=hA b (by rw [q];simp)
    subst e'
    rw [hK (by rw [q];simp)] at e;cases e)
  have hM:Mod K mg (jJ aU.heap H):=⟨Ki,uY iP,⟨mb,uY hb,uX⟩,let ⟨mc,h1,h2⟩:=UY;⟨mc,uY h1,h2⟩⟩
  have e0:uy P w K mg (jJ aU.heap H) callerA [] aU H:=⟨rfl,hM,fun b o e=>QV e,Nat.le_of_eq (Pa _ _),trivial,fun b hb=>absurd (show b ∈ ([]:List Addr) from hb) (by simp),az,.of_eq hg⟩
  refine codeAny_mono ((F _ Ki (uY iP)).run callerA [] aU H ⟨[.ref a],[]⟩ [.ref a] [.ref a] _ _ hr e0 (Uc aU (.ref a)) (.cons rfl .nil) (kO H hO hS)) fun r s' h=>?_
  cases r with
  |error e=>exact (zS H e s' h).elim
  |ok fl =>
   cases fl with
   |next=>exact False.elim h
   |brk=>exact False.elim h
   |cont=>exact False.elim h
   |ret u =>
    obtain ⟨v,H',os,bare,un,U0,r',q⟩:=h
    have q':v=.bl true:=q
    subst q'
    obtain rfl:u=Value.bool true:=r'
    refine ⟨rfl,OldK.of_keep fun b o e=>?_,os,bare⟩
    cases q:H b with
    |none=>exact un.keep b o e q (by intro z;exact absurd (show b ∈ ([]:List Addr) from z) (by simp)) (by simp)
    |some u =>
     rcases hO b with z | ⟨ob,xs,z⟩
     ·rw [q] at z;cases z
     ·have z2:=un.iB b ob _ z
      obtain ⟨e1,_⟩:=az b _ z
      obtain ⟨e2,_⟩:=U0 b _ z2
      rw [e] at e1;cases e1
      exact e2
 cases hk:K.lookup a with
 |some o =>
  have e:=KX a o hk
  rw [ha] at e
  cases e
  refine core (fun _=>none) (fun _=>.inl rfl) (.inr ⟨_,vs.toArray,_,hk,rfl,rfl,rfl,by rw [List.size_toArray,UZ];exact hl,by simpa using rv⟩) (fun b u z=>by have z':(none:Option HO)=some u:=z;cases z') (fun b z=>absurd rfl z) fun z=>absurd rfl z
 |none =>
  refine core (fun b=>if b=a then some (.dh { cls:=.type "list",data:=.seq vs.toArray } (.lst (ns.map V.int))) else none) (fun b=>?_) (.inl (.inr ⟨{ cls:=.type "list",data:=.seq vs.toArray },if_pos rfl⟩)) (fun b u z=>?_) (fun b z=>?_) fun _=>hk
  ·by_cases hb:b=a
   ·exact .inr ⟨_,_,if_pos hb⟩
   ·exact .inl (if_neg hb)
  ·by_cases hb:b=a
   ·have z':=(if_pos hb).symm.trans z
    cases z'
    subst hb
    exact ⟨ha,by rw [List.length_map];exact hl,vs,_,rv,ha⟩
   ·have z':=(if_neg hb).symm.trans z
    cases z'
  ·by_cases hb:b=a
   ·exact hb
   ·exact absurd (if_neg hb) z
end L2
namespace L2
open PySem PySem.Spec PyProof.Rows
theorem Ra {l:PySem.W.OpenLaw}{n k:Nat}{q:Program}{loose:List Str}{XP:(Str->Option Value)->Heap->Prop}{YP:World->Heap->Prop}{d:DefRec}{K:Params->PySem.W.Frag}{CX:World->fV}{sp:World->Sp}{x:Str}
  (hn:l.most=some n) (ZQ:n<=sizeLine) (rA:d.params.defaults=[]) (hr:dw k callerA)
  (hY:∀ (w:World) (h:Heap),YP w h->(K w.params).In h)
  (F:∀ (w:World) (mg:Str->Option Value) (fa:Addr) (h:Heap),(K w.params).In h->h.Ns mainGlobals mg->mg d.name=some (.ref fa) ->
   ∃ fd:FuncData,(∀ (s:Shared) (u:Value),BindsTo s fd ⟨[u],[]⟩ [(x,u)]) /\
    ∀ base:Heap,(K w.params).In base->base.Ns mainGlobals mg->aR l.prog w (K w.params) mg base (CX w) k fa fd [x] (sp w))
  (kO:∀ (w:World) (H:Hp) (a:Addr) (ns:List Int),ns.length<=n->zk H->aN (K w.params) H a (ns.map V.int)->sp w [.ref a] H (fun v _=>v=.bl true) fun _ _ _=>False)
  (zS:∀ (w:World) (H:Hp) (s:Shared) (e:Value) (s':Shared),CX w [] H s (fun _ _ _=>False) e s'->False) :
  PySem.W.WalkO q loose XP YP l.row.toRowW d [] (fun f vs=>PySem.call f vs):=by
 refine Kh.N1 hn rA fun w cN aU mg mb fa o pm cd doc a vs ns G Y ho hd iM rB zj hints hlen hg=>?_
 have KX:=hY w _ Y
 obtain ⟨fd,hb,hF⟩:=F w mg fa _ KX G.T.g rB
 exact Qh KX G.T.g G.T.b G.T.builtins G.T.nolimit hg zj hints (Nat.le_trans hlen ZQ) hr hF hb (fun H hO hS=>kO w H a ns hlen hO hS) fun H e s'=>zS w H aU e s'
end L2
namespace L2
open PySem PySem.Spec PyProof.Rows
def aW (s:Stmt):Arguments:=match s with
 | .FunctionDef _ a _ _ _ _ _ _ _ _=>a
 |_=>{ posonlyargs:=[],args:=[],vararg:=none,kwonlyargs:=[],kw_defaults:=[],kwarg:=none,defaults:=[] }
def aP (s:Stmt):List Stmt:=match s with
 | .FunctionDef _ _ b _ _ _ _ _ _ _=>b
 |_=>[]
def au (s:Stmt):Scope:=match s with
 | .FunctionDef _ _ _ _ _ _ sc _ _ _=>sc
 |_=>{ kind:=.function,names:=[],isGenerator:=false,isCoroutine:=false }
abbrev ao:fV:=fun _ _ _ _ _ _=>False
abbrev E0:XK:=fun _ _ _=>False
theorem Ia {X:Cx}:Passes ao X E0:=fun _ _ _ _ _ _ _ h=>h.elim
structure bj (K:PySem.W.Frag) (x qual:Str) (st:Stmt) (f:Addr) (fd:FuncData):Prop where
 ex:∃ (oc:Value) (od:Option Addr) (kV doc pm:Value) (an:Option Addr) (bI ct:Value) (gH:Array (Option Value)),
  fd=PySem.W.fnOf x qual (aW st) (aP st) (au st) .none kV doc pm an bI ct/\K.lookup f=some ⟨oc,od,.func fd,gH⟩/\PySem.W.codeIn K bI qual=true
 kp:PySem.W.keepIn K (.ref f)=true
section
variable {P:Program}{w:World}{K:PySem.W.Frag}{mg:Str->Option Value}{base:Heap}
theorem bj.binds {x qual:Str}{st:Stmt}{f:Addr}{fd:FuncData}{ps:List Str}(F:bj K x qual st f fd)
  (h:∀ (kV doc pm:Value) (an:Option Addr) (bI ct:Value) (us:List Value),us.length=ps.length->bindArgs (PySem.W.fnOf x qual (aW st) (aP st) (au st) .none kV doc pm an bI ct) ⟨us,[]⟩=pure (ps.zip us)):Binds K fd ps []:=by
 obtain ⟨oc,od,kV,doc,pm,an,bI,ct,gH,rfl,lk,iM⟩:=F.ex
 exact .all (h kV doc pm an bI ct)
theorem bG {x qual:Str}{st:Stmt}{f:Addr}{oc:Value}{od an:Option Addr}{gH:Array (Option Value)}{kV doc pm bI ct:Value}(l:K.lookup f=some ⟨oc,od,.func (PySem.W.fnOf x qual (aW st) (aP st) (au st) .none kV doc pm an bI ct),gH⟩)
  (c:PySem.W.codeIn K bI qual=true) (k:PySem.W.keepIn K (.ref f)=true):bj K x qual st f (PySem.W.fnOf x qual (aW st) (aP st) (au st) .none kV doc pm an bI ct):=⟨⟨oc,od,kV,doc,pm,an,bI,ct,gH,rfl,l,c⟩,k⟩
end
section
variable {X:Cx}
theorem pv (i:Nat) {x:Str} {pos:Pos} (hN:X.N[i]?=some x:=by rfl) (hv:fU X.env.scope x:=by first | exact Or.inl rfl | exact Or.inr (Or.inl rfl) | exact Or.inr (Or.inr rfl)) (hd:(x==("__debug__" : Str))=false:=by decide)
  (iM:(x==("__classdict__" : Str))=false:=by decide):PE X (.Name x pos) (eQ i):=jb hN hv hd iM
end
theorem mj {A B:Prop}(h:B):if false=true then A else B:=by
 rw [if_neg Bool.false_ne_true]
 exact h
theorem mn {A B:Prop}(h:A):if true=true then A else B:=by
 rw [if_pos rfl]
 exact h
def ak (H H':Hp):Prop:=∀ b o,H b=some o->H' b=some o
theorem ak.refl (H:Hp):ak H H:=fun _ _ h=>h
theorem ak.trans {H H1 H2:Hp}(a:ak H H1)(b:ak H1 H2):ak H H2:=fun c o h=>b c o (a c o h)
theorem ak.free {H H':Hp}(e:ak H H'){l:Addr}(h:H' l=Option.none):H l=Option.none:=by
 cases q:H l with
 |none=>rfl
 |some o =>
  rw [e l o q] at h
  cases h
theorem ak.seq {K:PySem.W.Frag}{H H':Hp}{a:Addr}{xs:List V}(e:ak H H')(h:aN K H a xs):aN K H' a xs:=by
 rcases h with (h | ⟨o,h⟩) | h
 ·exact .inl (.inl (e _ _ h))
 ·exact .inl (.inr ⟨o,e _ _ h⟩)
 ·exact .inr h
end L2
namespace L2
open PySem PySem.Spec PyProof.Rows
abbrev cv:Value->Shared->Prop:=fun _ _=>False
theorem zT {α:Type}{M:Model}{A:Around}{m:Sem α}{Q : α->Shared->Prop}{E:Value->Shared->Prop}{s:Shared}(h:wpAny M A m Q cv s):wpAny M A m Q E s :=
 wpAny_mono h (fun _ _ q=>q) fun _ _ z=>z.elim
abbrev jy (ifs:List Expr)(env:Env):Sem Bool :=
 forIn ifs true fun c r=>if r=true then do let ok <- isTrue c env (eval c env);pure (ForInStep.yield ok) else pure (ForInStep.yield r)
theorem Gm {P:Program}{w:World}{A:Around}{R:Result->Shared->Prop}{s:Shared}{elt tg iter:Expr}{ifs:List Expr}{sc:Scope}{pos:Pos}{it acc:Value}{env:Env}(I:Nat->Shared->Prop)
  (turn:∀ n s,I n s->wpAny (model P w) A (pyNext it) (fun r s1=>match r with
   |none=>R (.ok .next) s1
   |some v=>wpAny (model P w) A (letOwnedTupleGo tg it v) (fun _ s2=>wpAny (model P w) A (assign tg env v) (fun _ s3 =>
     wpAny (model P w) A (jy ifs env) (fun ok s4=>if ok=true then wpAny (model P w) A (eval elt env) (fun x s5 =>
       wpAny (model P w) A (call (.builtin "list.append") [acc,x]) (fun _ s6=>∃ m,m<n/\I m s6) cv s5) cv s4
      else ∃ m,m<n/\I m s4) cv s3) cv s2) cv s1) cv s)
  (n:Nat) (h:I n s):codeAny (model P w) A (.compLoop (.ListComp elt [⟨tg,iter,ifs,0⟩] sc pos) 0 it acc env) R s:=by
 refine codeAny_loop rfl I (fun n s hI=>?_) n h
 show wpAny (model P w) A ((compTurn (.ListComp elt [⟨tg,iter,ifs,0⟩] sc pos) 0 it acc env).onRaise (fun x=>do noteFrame x env;theTreesLotGoes x)) _ _ s
 refine wpAny_noted (zT ?_)
 rw [compTurn_list]
 refine wpAny_bind (wpAny_standAt (wpAny_bind (ay (turn n s hI) fun r s1 h1=>?_)))
 cases r with
 |none=>exact wpAny_pure h1
 |some v =>
  refine wpAny_bind (ay h1 fun _ s2 h2=>wpAny_bind (ay h2 fun _ s3 h3=>wpAny_bind (ay h3 fun ok s4 h4=>?_)))
  cases ok with
  |false=>exact wpAny_pure ⟨rfl,h4⟩
  |true=>exact wpAny_bind (wpAny_bind (ay h4 fun x s5 h5=>wpAny_bind (ay h5 fun _ s6 h6=>wpAny_pure (wpAny_pure ⟨rfl,h6⟩))))
theorem tD:∀ (names:List (Str×NameKind)) (n:Nat) (acc:List (Str×Addr)) (y:Str),(∃ c,acc.lookup y=some c)->∃ c,(cellsFrom n names acc).lookup y=some c
 |[],_,_,_,h=>h
 |(name,kind)::r,n,acc,y,⟨c,h⟩=>by
  unfold cellsFrom
  split
  ·refine tD r _ _ y ?_
   rw [List.lookup_cons]
   split
   ·exact ⟨_,rfl⟩
   ·exact ⟨c,h⟩
  ·exact tD r _ _ y ⟨c,h⟩
theorem xV:∀ (names:List (Str×NameKind)) (n:Nat) (acc:List (Str×Addr)) (y:Str),(y,NameKind.cell) ∈ names->∃ c,(cellsFrom n names acc).lookup y=some c
 |[],_,_,_,h=>nomatch h
 |(name,kind)::r,n,acc,y,h=>by
  unfold cellsFrom
  rcases List.mem_cons.mp h with e | h
  ·cases e
   rw [if_pos (by decide)]
   exact tD r _ _ _ ⟨n,by rw [List.lookup_cons_self]⟩
  ·split
   ·exact xV r _ _ y h
   ·exact xV r _ _ y h
theorem pN:∀ (names:List (Str×NameKind)) (n:Nat) (acc:List (Str×Addr)) (y:Str) (c:Addr),(cellsFrom n names acc).lookup y=some c->acc.lookup y=some c\/(n<=c/\(y,NameKind.cell) ∈ names)
 |[],_,_,_,_,h=>.inl h
 |(name,kind)::r,n,acc,y,c,h=>by
  unfold cellsFrom at h
  split at h
  ·rename_i hk
   rcases pN r _ _ y c h with q | ⟨q1,q2⟩
   ·rw [List.lookup_cons] at q
    split at q
    ·rename_i hy
     cases q
     rw [beq_iff_eq.mp hy,<- beq_iff_eq.mp hk]
     exact .inr ⟨Nat.le_refl _,.head _⟩
    ·exact .inl q
   ·exact .inr ⟨Nat.le_of_succ_le q1,.tail _ q2⟩
  ·rcases pN r _ _ y c h with q | ⟨q1,q2⟩
   ·exact .inl q
   ·exact .inr ⟨q1,.tail _ q2⟩
theorem xW:∀ (names:List (Str×NameKind)) (n:Nat) (acc:List (Str×Addr)) (y:Str),(y,NameKind.cell) ∉ names->(cellsFrom n names acc).lookup y=acc.lookup y
 |[],_,_,_,_=>rfl
 |(name,kind)::r,n,acc,y,h=>by
  unfold cellsFrom
  have hr:(y,NameKind.cell) ∉ r:=fun z=>h (.tail _ z)
  split
  ·rename_i hk
   rw [xW r _ _ y hr,List.lookup_cons]
   split
   ·rename_i hy
    exact absurd (show (y,NameKind.cell) ∈ (name,kind)::r by rw [beq_iff_eq.mp hy,<- beq_iff_eq.mp hk];exact .head _) h
   ·rfl
  ·exact xW r _ _ y hr
theorem xX:∀ (names:List (Str×NameKind)) (n:Nat) (acc:List (Str×Addr)),(∀ y c,acc.lookup y=some c->c<n)->(∀ y z c,acc.lookup y=some c->acc.lookup z=some c->y=z) ->
  ∀ y z c,(cellsFrom n names acc).lookup y=some c->(cellsFrom n names acc).lookup z=some c->y=z
 |[],_,_,_,h=>h
 |(name,kind)::r,n,acc,h1,h2=>by
  unfold cellsFrom
  split
  ·refine xX r _ _ (fun y c e=>?_) fun y z c e e'=>?_
   ·rw [List.lookup_cons] at e
    split at e
    ·cases e;exact Nat.lt_succ_self _
    ·exact Nat.lt_succ_of_lt (h1 y c e)
   ·rw [List.lookup_cons] at e e'
    split at e
    ·rename_i hy
     cases e
     split at e'
     ·rename_i hz
      rw [beq_iff_eq.mp hy,beq_iff_eq.mp hz]
     ·exact absurd (h1 z _ e') (Nat.lt_irrefl _)
    ·split at e'
     ·cases e'
      exact absurd (h1 y _ e) (Nat.lt_irrefl _)
     ·exact h2 y z c e e'
  ·exact xX r _ _ h1 h2
theorem tE:∀ (names:List (Str×NameKind)) (h:Heap) (acc:List (Str×Addr)) (y:Str) (c:Addr),(cellsFrom h.objs.size names acc).lookup y=some c->acc.lookup y=some c\/(pushCells h names).IsCell c none
 |[],_,_,_,_,e=>.inl e
 |(name,kind)::r,h,acc,y,c,e=>by
  unfold cellsFrom at e
  unfold pushCells
  split
  ·rename_i hk
   rw [if_pos hk] at e
   rw [show h.objs.size+1=(h.push { cls:=.type "cell",data:=.cell none }).objs.size from (Heap.size_push ..).symm] at e
   rcases tE r _ _ y c e with q | q
   ·rw [List.lookup_cons] at q
    split at q
    ·cases q
     exact .inr (Heap.IsCell.keeps ⟨_,Heap.get?_push_size _ rfl,rfl⟩ (pushCells_keeps r _))
    ·exact .inl q
   ·exact .inr q
  ·rename_i hk
   rw [if_neg hk] at e
   exact tE r _ _ y c e
theorem Dn {M:Model}{A:Around}{E:Value->Shared->Prop}{s:Shared}{scope:Scope}{globals:Addr}{cl:List (Str×Addr)}{qual:Str}{func:Option Addr}{code:Value}{env:Env}{builtins:Addr}{Q:Env->Shared->Prop}
  (hQ:Q (newEnv scope s.heap.objs.size globals (cellsFrom (s.heap.objs.size+1) scope.names cl) qual func code (some env) builtins) { s with heap:=pushCells (s.heap.push { cls:=.type "dict",data:=.dict #[] }) scope.names }) :
  wpAny M A (newFunctionEnv scope globals cl [] qual func code (some env) builtins) Q E s:=by
 simp only [newFunctionEnv,Option.isSome_some,if_true]
 refine wpAny_bind (wpAny_alloc ?_)
 refine wpAny_bind (wpAny_layCells _ (fun name kind cells=>by cases ZR:kind==NameKind.cell<;>simp [ZR]) _ _ _ _ ?_)
 rw [show ({ s with heap:=s.heap.push { cls:=.type "dict",data:=.dict #[] } }:Shared).heap.objs.size=s.heap.objs.size+1 from Heap.size_push ..]
 rw [List.forIn_nil]
 exact wpAny_bind (wpAny_pure (wpAny_pure hQ))
def cO (X:Cx)(own:List Str)(fr:List Nat)(sc:Scope)(cl:List (Str×Addr))(C:Addr)(s:Shared)(H:Hp)(ex:List Addr)(pn:List (Addr×Obj)):Cx where
 prog:=X.prog
 w:=X.w
 K:=X.K
 mg:=X.mg
 base:=X.base
 A:=X.A
 N:=own++fr.map fun j=>X.N.getD j ""
 cN:=s
 qI:=H
 env:=compEnvC sc (cellsFrom (C+1) sc.names cl) C X.env
 outer:=X.stack
 stack:=X.stack
 ex:=ex
 fn:=fun y=>(cl.lookup y).isNone
 calm:=X.calm
 pn:=pn
 xe:=cv
def pY (own:List Str)(fr:List Nat)(σ:St):St:=own.map (fun _=>none)++fr.map fun j=>(σ[j]?).join
structure jz (X:Cx) (sc:Scope) (cl:List (Str×Addr)) (fr:List Nat):Prop where
 Ja:closureFor sc X.env=pure cl
 kind:sc.kind=.function
 cells:∀ y,(y,NameKind.cell) ∈ sc.names->cl.lookup y=none
 names:∀ y ∈ sc.names,y.2=.local->sc.names.lookup y.1=some .local
 sub:∀ y c,cl.lookup y=some c->X.env.cells.lookup y=some c
 has:∀ y,((relabel sc X.env).names.lookup y=some .cell\/(relabel sc X.env).names.lookup y=some .free)->(∃ c,cl.lookup y=some c)\/(y,NameKind.cell) ∈ sc.names
 ZS:∀ j ∈ fr,∃ y,X.N[j]?=some y/\((relabel sc X.env).names.lookup y=some .cell\/(relabel sc X.env).names.lookup y=some .free)/\fU X.env.scope y/\X.env.scope.names.lookup y ≠ some .local/\∃ c,cl.lookup y=some c
def zU (wi:TI)(g:TG)(tt:TT)(te:TE)(own:List Str)(fr:List Nat):TE:=fun σ H Q=>wi σ H fun J H1=>∀ acc,H1 acc=none ->
 ∃ W:Nat->Nat->List V->St->Hp->Prop,(∃ m,W 0 m [] (pY own fr σ) (upd H1 acc (.lst [])))/\∀ i m ys aF H2,W i m ys aF H2->H2 acc=some (.lst ys)/\ys.length<sizeLine /\
  ((J.stop i H2/\Q (.ref acc) H2)\/(J.go i H2/\∃ N:List V->St->Hp->Prop,(∀ zs dR H3,N zs dR H3->∃ m',m'<m/\W (i+1) m' zs dR H3) /\
   ∀ x H3,J.uP i H2 x H3->g x aF H3 fun dR H4=>tt dR H4 fun b H5=>if b=true then te dR H5 (fun y H6=>H6 acc=some (.lst ys)/\N (ys++[y]) dR (upd H6 acc (.lst (ys++[y])))) else N ys dR H5))
theorem Rb {N:List Str} {j:Nat} {y:Str} (h:N[j]?=some y):N.getD j "" = y:=by rw [List.getD_eq_getElem?_getD,h];rfl
theorem lcInv {X:Cx}{pins:List (Addr×Obj)}{σ:St}{H:Hp}{s:Shared}{sc:Scope}{cl:List (Str×Addr)}{own:List Str}{fr:List Nat}{fp:List Addr}{h4:Heap}{tk:Nat}
  (L:jz X sc cl fr) (I:Inv X pins σ H s) (uZ:∀ b ∈ fp,gw X pins H b) (aX:∀ b ∈ fp,b<s.heap.objs.size) (iP:h4.Ns s.heap.objs.size fun _=>none)
  (kp:∀ b o,s.heap.get? b=some o->h4.get? b=some o) (mU:∀ y c,(cellsFrom (s.heap.objs.size+1) sc.names cl).lookup y=some c->cl.lookup y=some c\/h4.IsCell c none):Inv (cO X own fr sc cl s.heap.objs.size s H fp (X.pn++pins)) [] (pY own fr σ) H { s with heap:=h4,toks:=tk }:=by
 have ZT:∀ {b:Addr} {o:Obj},s.heap.get? b=some o->b ≠ s.heap.objs.size:=fun e=>Nat.ne_of_lt (Heap.lt_size e)
 have hex:∀ b ∈ (cO X own fr sc cl s.heap.objs.size s H fp (X.pn++pins)).ex,b ∈ fp:=fun b z=>z
 have mJ:∀ b,b ≠ X.env.locals->b ∉ X.fs->b ∉ dD X.stack:=fun b h1 h2 z=>(List.mem_cons.mp (I.qo b z)).elim h1 h2
 have Gn:∀ y c,cl.lookup y=some c->∃ v,s.heap.IsCell c v:=fun y c e=>I.cell y c (L.sub y c e)
 have split:∀ y c,(cellsFrom (s.heap.objs.size+1) sc.names cl).lookup y=some c->cl.lookup y=some c\/s.heap.objs.size+1<=c:=fun y c e=>(pN _ _ _ y c e).imp id And.left
 refine ⟨⟨I.ok.mod,L.kind,I.ok.glob,I.ok.blt,Nat.le_refl _,xX _ _ _ (fun y c e=>by obtain ⟨v,q⟩:=Gn y c e;exact Nat.lt_succ_of_lt q.lt) (fun y z c h1 h2=>I.ok.inj y z c (L.sub y c h1) (L.sub z c h2)),fun y hy=>(L.has y hy).elim (tD _ _ _ y) (xV _ _ _ y),fun y c hy e=>?_,I.ok.hd,I.ok.frames,.inl rfl,
   fun b hb=>⟨Nat.ne_of_lt (aX b (hex b hb)),fun y c e=>(split y c e).elim (fun q=>(uZ b (hex b hb)).2.2.2.2.1 y c (L.sub y c q)) fun q=>Nat.ne_of_gt (Nat.lt_of_lt_of_le (aX b (hex b hb)) (Nat.le_of_succ_le q))⟩,I.bs,Nat.le_trans I.ok.mK I.sz,fun b o e z=>?_,fun b z=>?_,I.stack,I.ER⟩,
  rfl,I.bare,Un.kept kp,⟨_,iP,fun i y v h1 h2 h3=>?_⟩,fun y c e=>?_,I.az.fresh (Nat.le_refl _),fun y c e=>(split y c e).elim (fun q=>I.jf y c (L.sub y c q)) fun q=>I.az.fresh (Nat.le_of_succ_le q),fun p hp=>?_,I.az.kept kp,?_⟩
 ·have cw:(cl.lookup y).isNone=true:=hy
  rcases split y c e with q | q
  ·rw [q] at cw
   cases cw
  ·exact Nat.le_of_succ_le q
 ·rcases (uZ b (hex b z)).2.2.2.1 with q | q
  ·exact I.ok.qJ b o e q
  ·exact absurd (Nat.lt_of_lt_of_le (Heap.lt_size (I.ok.bs b o e).1) q) (Nat.lt_irrefl _)
 ·exact mJ b (uZ b (hex b z)).2.1 (uZ b (hex b z)).2.2.1
 ·have jT:(own++fr.map fun j=>X.N.getD j "")[i]?=some y:=h1
  have jU:(own.map (fun _=>none)++fr.map fun j=>(σ[j]?).join)[i]?=some (some v):=h2
  by_cases hi:i<own.length
  ·rw [List.getElem?_append_left (by simpa using hi),List.getElem?_map] at jU
   cases q:own[i]? with
   |none=>rw [q] at jU;cases jU
   |some z=>rw [q] at jU;cases jU
  ·rw [List.getElem?_append_right (by omega),List.getElem?_map] at jT
   rw [List.getElem?_append_right (by simpa using hi),List.getElem?_map,List.length_map] at jU
   cases q:fr[i-own.length]? with
   |none=>rw [q] at jT;cases jT
   |some j =>
    rw [q] at jT jU
    obtain ⟨y',n1,n2,n3,n4,c',e'⟩:=L.ZS j (List.mem_of_getElem? q)
    have ey:y'=y:=by
     have this:X.N.getD j "" = y:=Option.some.inj jT
     rw [Rb n1] at this
     exact this
    subst ey
    have ev : σ[j]?=some (some v):=by
     have z:(σ[j]?).join=some v:=Option.some.inj jU
     cases q2 : σ[j]? with
     |none=>rw [q2] at z;cases z
     |some o=>rw [q2] at z;exact congrArg some z
    obtain ⟨m,_,hl⟩:=I.loc
    obtain ⟨u,r,l⟩:=hl j y' v n1 ev n3
    refine ⟨u,r,.inr ⟨n2,?_⟩⟩
    rcases l with ⟨k,_⟩ | ⟨_,c,e,z⟩
    ·exact absurd k n4
    ·have:=L.sub y' c' e'
     rw [e] at this
     cases this
     obtain ⟨o,ho,hd⟩:=z
     exact ⟨_,(xW _ _ _ y' fun z=>by rw [L.cells y' z] at e';cases e').trans e',o,kp _ o ho,hd⟩
 ·rcases mU y c e with q | q
  ·obtain ⟨v,o,ho,hd⟩:=Gn y c q
   exact ⟨v,o,kp c o ho,hd⟩
  ·exact ⟨none,q⟩
 ·have rC:p ∈ X.pn++pins:=by
   have z:p ∈ (X.pn++pins)++[]:=hp
   simpa using z
  obtain ⟨e,n,ne,nf,d⟩:=I.pin p rC
  exact ⟨kp _ _ e,n,ZT e,mJ _ ne nf,d⟩
 ·show (own.map (fun _=>(none:Option V))++fr.map fun j=>(σ[j]?).join).length=(own++fr.map fun j=>X.N.getD j "").length
  simp
theorem Ud {X:Cx}{elt tg iter:Expr}{ifs:List Expr}{sc:Scope}{cl:List (Str×Addr)}{own:List Str}{fr:List Nat}{pos:Pos}{wi:TI}{g:TG}{tt:TT}{te:TE}
  (L:jz X sc cl fr) (hc:X.calm=true) (hi:PI X tg iter wi)
  (hg:∀ C s H ex pn,PG (cO X own fr sc cl C s H ex pn) tg g)
  (ht:∀ C s H ex pn (pins:List (Addr×Obj)) (s1:Shared) (aF:St) (H1:Hp) (Q:Bool->Hp->Prop),Inv (cO X own fr sc cl C s H ex pn) pins aF H1 s1->tt aF H1 Q ->
   wpAny (model X.prog X.w) X.A (jy ifs (compEnvC sc (cellsFrom (C+1) sc.names cl) C X.env)) (TP (cO X own fr sc cl C s H ex pn) pins aF Q) cv s1)
  (he:∀ C s H ex pn,PE (cO X own fr sc cl C s H ex pn) elt te) (hs:∀ x,foldedSetIterable iter X.env x=pure x:=by intro _;rfl) :
  PE X (.ListComp elt [⟨tg,iter,ifs,0⟩] sc pos) (zU wi g tt te own fr):=by
 intro pins s σ H Q I h
 rw [eval_ListComp]
 refine wpAny_comprehension_free (use:=none) rfl hs L.Ja L.kind L.names (ay (hi pins s σ H _ I h) fun v s1 h1=>ay h1 fun uQ s2 h2=>?_)
 obtain ⟨it,fp,tn,J,H2,e,I2,T,aG,f2,h2⟩:=h2
 subst e
 refine wpAny_newObj_type ?_
 have I3:Inv X pins σ (upd H2 s2.heap.objs.size (.lst [])) { s2 with heap:=s2.heap.push { cls:=.type "list",data:=.seq ([]:List Value).toArray } }:=I2.zi (t':=s2.toks) .nil (Nat.zero_le _)
 have n2:H2 s2.heap.objs.size=none:=I2.fresh
 obtain ⟨W,⟨m0,w0⟩,turn⟩:=h2 _ n2
 have rD:∀ b ∈ fp,b<s2.heap.objs.size:=fun b hb=>by
  obtain ⟨o,eo,_⟩:=T.obj 0 _ aG b hb
  exact Heap.lt_size eo
 have cS:∀ b ∈ fp,gw X pins (upd H2 s2.heap.objs.size (.lst [])) b:=fun b hb=>⟨by rw [bF (Nat.ne_of_lt (rD b hb))];exact (f2 b hb).1,(f2 b hb).2⟩
 generalize eH:({ s2 with heap:=s2.heap.push { cls:=.type "list",data:=.seq ([]:List Value).toArray } }:Shared)=s3 at I3
 have dU:tn 0 s3.heap:=by
  rw [<- eH]
  exact T.keep 0 _ _ aG fun b hb o eo=>Heap.get?_push_of_some _ eo
 have mV:∀ b ∈ fp,b<s3.heap.objs.size:=fun b hb=>by
  obtain ⟨o,eo,_⟩:=T.obj 0 _ dU b hb
  exact Heap.lt_size eo
 generalize zV:upd H2 s2.heap.objs.size (.lst [])=H3 at I3 cS w0
 generalize s2.heap.objs.size=acc at turn w0 zV ⊢
 refine Dn ?_
 have iP:(pushCells (s3.heap.push { cls:=.type "dict",data:=.dict #[] }) sc.names).Ns s3.heap.objs.size fun _=>none:=(Heap.Ns.new s3.heap (.type "dict")).keeps (pushCells_keeps _ _)
 have kp:∀ b o,s3.heap.get? b=some o->(pushCells (s3.heap.push { cls:=.type "dict",data:=.dict #[] }) sc.names).get? b=some o:=fun b o eo=>pushCells_keeps _ _ b o (Heap.get?_push_of_some _ eo)
 have mU:∀ y c,(cellsFrom (s3.heap.objs.size+1) sc.names cl).lookup y=some c->cl.lookup y=some c\/(pushCells (s3.heap.push { cls:=.type "dict",data:=.dict #[] }) sc.names).IsCell c none:=fun y c e =>
  tE sc.names (s3.heap.push { cls:=.type "dict",data:=.dict #[] }) cl y c (by rw [Heap.size_push];exact e)
 generalize ZU:pushCells (s3.heap.push { cls:=.type "dict",data:=.dict #[] }) sc.names=h4 at iP kp mU
 have I4:=lcInv (own:=own) (tk:=s3.toks) L I3 cS mV iP kp mU
 have rE:tn 0 h4:=T.keep 0 _ _ dU fun b hb o eo=>kp b o eo
 have stat:∀ {H':Hp},(∀ b ∈ fp,H' b=none)->∀ b ∈ fp,gw (cO X own fr sc cl s3.heap.objs.size s3 H3 fp (X.pn++pins)) [] H' b:=fun {H'} hn b hb =>
  ⟨hn b hb,Nat.ne_of_lt (mV b hb),fun z=>(List.mem_cons.mp (I3.qo b z)).elim (cS b hb).2.1 (cS b hb).2.2.1,.inl hb,fun y c e=>(pN _ _ _ y c e).elim (fun q=>(cS b hb).2.2.2.2.1 y c (L.sub y c q)) fun q=>Nat.ne_of_gt (Nat.lt_of_lt_of_le (mV b hb) (Nat.le_of_succ_le q.1)),fun p hp=>(cS b hb).2.2.2.2.2 p (by
   have z:p ∈ (X.pn++pins)++[]:=hp
   simpa using z)⟩
 have loop:codeAny (model X.prog X.w) X.A (.compLoop (.ListComp elt [⟨tg,iter,ifs,0⟩] sc pos) 0 (.ref it) (.ref acc) (compEnvC sc (cellsFrom (s3.heap.objs.size+1) sc.names cl) s3.heap.objs.size X.env))
   (compPost (model X.prog X.w) X.A X.xe none (EP X pins σ Q) (.ref acc) s3.heap.objs.size) { s3 with heap:=h4,toks:=s3.toks }:=by
  refine Gm (fun n s'=>∃ i ys aF H1,Inv (cO X own fr sc cl s3.heap.objs.size s3 H3 fp (X.pn++pins)) [] aF H1 s'/\tn i s'.heap/\(∀ b ∈ fp,H1 b=none)/\W i n ys aF H1) ?_ m0 ⟨0,[],_,H3,I4,rE,fun b hb=>(cS b hb).1,w0⟩
  rintro n s5 ⟨i,ys,jV,H5,I5,jO,mP,w5⟩
  obtain ⟨dO,hlen,hh⟩:=turn i n ys jV H5 w5
  rcases hh with ⟨stop,qn⟩ | ⟨go,N,hN,step⟩
  ·refine ay (T.done (cO X own fr sc cl s3.heap.objs.size s3 H3 fp (X.pn++pins)) rfl rfl rfl hc i [] s5 jV H5 cv I5 (stat mP) jO stop) fun r s6 ⟨hr,I6⟩=>?_
   subst hr
   obtain ⟨m6,zW,_⟩:=id I6.loc
   refine ⟨m6,zW,fun h7 jW=>⟨.ref acc,H5,?_,rfl,qn⟩⟩
   have old:∀ b o,s3.heap.get? b=some o->b ≠ s3.heap.objs.size:=fun b o eo=>Nat.ne_of_lt (Heap.lt_size eo)
   have u6:Un (dD X.stack) fp H3 H5 s3.heap s6.heap:=I6.base
   have u7:Un (dD X.stack) fp H3 H5 s3.heap h7 :=
    ⟨fun b o eo nn hb hx=>(jW.2 b (old b o eo)).trans (u6.keep b o eo nn hb hx),fun b o eo nn hb hx=>by
     obtain ⟨sl,q⟩:=u6.slot b o eo nn hb hx
     exact ⟨sl,(jW.2 b (old b o eo)).trans q⟩,u6.free,fun b o eo hx=>by
     obtain ⟨o',q⟩:=u6.there b o eo hx
     exact ⟨o',(jW.2 b (old b o eo)).trans q⟩,u6.jg,u6.iB,u6.jh⟩
   have fC:H5 s3.heap.objs.size=none:=I6.free
   have zl:cz X.prog X.w H5 h7:=fun b ob eb=>by
    refine (I6.az b ob eb).jI (fun c w' g9 q=>(jW.2 c ?_).trans q) (fun _ q=>q) fun _ _ q=>q
    rintro rfl
    rcases g9 with z | z
    ·rw [<- z,fC] at eb;cases eb
    ·rw [fC] at z;cases z
   exact I3.HJ (s':={ s6 with heap:=h7 }) I6.os u7 zl I6.bare fun b hb=>⟨(cS b hb).2.2.2.1,(cS b hb).2.1,(cS b hb).2.2.2.2.1,(cS b hb).2.2.2.2.2⟩
  ·refine ay (T.item (cO X own fr sc cl s3.heap.objs.size s3 H3 fp (X.pn++pins)) rfl rfl rfl hc i [] s5 jV H5 cv I5 (stat mP) jO go) fun r s6 ⟨u,hr,h6⟩=>?_
   subst hr
   refine ay h6 fun _ s7 ⟨x,H7,I7,r7,y7,mW,zX⟩=>?_
   have zY:=I7.pinned (stat zX) (T.obj _ _ mW)
   refine ay (hg _ _ _ _ _ _ s7 jV H7 x u _ zY r7 (step x H7 y7)) fun _ s8 ⟨jX,H8,I8,q8⟩=>?_
   have again:∀ {zs:List V} {iQ:St} {H9:Hp} {s9:Shared},Inv (cO X own fr sc cl s3.heap.objs.size s3 H3 fp (X.pn++pins)) ([]++oE fp s7.heap) iQ H9 s9->N zs iQ H9 ->
     ∃ m,m<n/\∃ i ys aF H1,Inv (cO X own fr sc cl s3.heap.objs.size s3 H3 fp (X.pn++pins)) [] aF H1 s9/\tn i s9.heap/\(∀ b ∈ fp,H1 b=none)/\W i m ys aF H1:=fun {zs iQ H9 s9} I9 n9=>by
    obtain ⟨m',hm,w9⟩:=hN zs iQ H9 n9
    refine ⟨m',hm,i+1,zs,iQ,H9,I9.pR,T.keep _ _ _ mW fun b hb o e=>(I9.pin (b,o) (List.mem_append_right _ (List.mem_append_right _ (nZ hb e)))).1,fun b hb=>?_,w9⟩
    obtain ⟨o,e,d⟩:=T.obj _ _ mW b hb
    exact (I9.pin (b,o) (List.mem_append_right _ (List.mem_append_right _ (nZ hb e)))).2.1
   refine ay (ht _ _ _ _ _ _ s8 jX H8 _ I8 q8) fun ok s9 ⟨H9,I9,q9⟩=>?_
   cases ok with
   |false=>exact again I9 (by simpa using q9)
   |true =>
    refine ay (he _ _ _ _ _ _ s9 jX H9 _ I9 q9) fun z zZ ⟨y,z0,z4,z5,mX,z6⟩=>?_
    refine ay (pM _ zZ jX z0 (.ref acc) [y] (.ref acc) [z] (fun _ H'=>N (ys++[y]) jX H') z4 rfl (.cons z5 .nil) ⟨acc,ys,y,rfl,rfl,mX,hlen,z6⟩) fun _ ZV ⟨_,ZW,z7,_,z8⟩=>again z7 z8
 rw [<- eH] at loop ⊢
 exact codeAny_compStart_list loop (zT (T.self _ 0 _ _ _ rE (by rw [eH];rw [eH] at loop;exact loop)))
end L2
namespace L2
open PySem PySem.Spec PyProof.Rows
theorem Rc {n:Int}{k:Nat}(h:n.natAbs<2 ^ k)(hk : 0<k):n.natAbs.log2<k:=by
 by_cases z:n.natAbs=0
 ·rw [z]
  show Nat.log2 0<k
  rw [Nat.log2_zero]
  exact hk
 ·exact (Nat.log2_lt z).mpr h
section
variable {X:Cx}
def Ib (i j:Int):Prop:=i.natAbs<2 ^ 8000/\j.natAbs<2 ^ 8000
theorem Rf:cu X (binaryOp .Mult) (rI Ib fun i j=>.int (i*j)):=rh fun _ _ _ _ _ _ _ hc q =>
 mul_int q (IntMulOk.of_le (intBits_le_iff.mpr hc.1) (intBits_le_iff.mpr hc.2) (by decide))
def qA (_ j:Int):Prop:=0<j/\j.natAbs<2 ^ 8000
theorem Qi:cu X (binaryOp .FloorDiv) (rI qA fun i j=>.int (i / j)):=rh fun i j _ _ _ _ _ hc q=>by
 have h1:(0:Int)<j:=hc.1
 refine floordiv_int (by omega) (by rw [Int.fdiv_eq_ediv_of_nonneg i (by omega)];exact q) (.inl (PyProof.noPylong_of_log2 ?_))
 exact Nat.lt_trans (Rc hc.2 (by decide)) (by decide)
theorem Oz {hi c:Int}(h0 : 0<=hi)(h1:hi<2 ^ 30)(c0 : 0<c)(c1:c<2 ^ 30):Builtin.Range.small 0 hi c=true:=by
 unfold Builtin.Range.small
 rw [rangeSize_pos (by omega) h0]
 have a0 : 0<=(hi+c-1) / c:=Int.ediv_nonneg (by omega) (by omega)
 have a1:(hi+c-1) / c*c<=hi+c-1:=Int.ediv_mul_le _ (by omega)
 have a2:(hi+c-1) / c<=hi+c-1:=Int.ediv_le_self _ (by omega)
 have a3:(0:Int)<=(hi+c-1) / c*c:=Int.mul_nonneg a0 (by omega)
 have cc:c > 0:=c0
 simp only [Builtin.Range.rangeFitsLong,Bool.and_eq_true,Bool.or_eq_true,decide_eq_true_eq,beq_iff_eq,cc,if_true]
 generalize (hi+c-1) / c*c=p at *
 generalize (hi+c-1) / c=q at *
 omega
theorem Di:∀ {ns:List Int} {its:List Value},Vals (ns.map V.int) its->∃ xs:List (Int×Tok),its=xs.map (fun p=>Value.int p.1 p.2)/\xs.map (·.1)=ns
 |[],_,.nil=>⟨[],rfl,rfl⟩
 |n::ns,_,.cons r t=>by
  obtain ⟨tk,rfl⟩:=r
  obtain ⟨xs,rfl,rfl⟩:=Di t
  exact ⟨(n,tk)::xs,rfl,rfl⟩
def Jb (K:PySem.W.Frag):List V->Hp->VK->Prop:=fun xs H Q=>∃ (p:Addr) (ns:List Int),xs=[.ref p]/\aN K H p (ns.map V.int)/\Q (.int ns.sum) H
theorem Qj (hc:X.calm=true):du X (.builtin "sum") (Jb X.K):=by
 intro pins s σ H xs us Q I r h
 obtain ⟨p,ns,rfl,hq,q⟩:=h
 cases r with
 |cons r1 rr =>
  cases rr
  cases r1
  obtain ⟨its,rv,pl,hz⟩:=I.list hq
  obtain ⟨zs,rfl,rfl⟩:=Di rv
  refine PySem.sum_intListG (xs:=zs.toArray) (I.ok.hd hc) (by simpa [PySem.intItems] using pl.isList) fun h' tk t' hk=>⟨.int _,H,I.kept (t':=tk) hk,⟨t',rfl⟩,?_⟩
  rw [PySem.preSum_eq,List.take_of_length_le (by simp)]
  exact q
end
end L2
namespace L2
open PySem PySem.Spec PyProof.Rows
inductive Dv where
 |fl (v:V)
 |lst (ds:List Dv)
 |tup (ds:List Dv)
mutual
def bL:Dv->Dv->Bool
 | .fl x,.fl y=>fX x y
 | .lst a,.lst b=>eE a b
 | .tup a,.tup b=>eE a b
 |_,_=>false
def eE:List Dv->List Dv->Bool
 |[],[] => true
 |x::r,y::q=>bL x y&&eE r q
 |_,_=>false
end
mutual
def cF:Dv->Nat
 | .fl _=>0
 | .lst a=>cP a+1
 | .tup a=>cP a+1
def cP:List Dv->Nat
 |[] => 0
 |x::r=>max (cF x) (cP r)
end
mutual
def Hv (K:PySem.W.Frag)(H:Hp):Dv->V->Prop
 | .fl v,x=>x=v/\fQ v=true
 | .lst ds,x=>∃ a xs,x=.ref a/\aN K H a xs/\aD K H ds xs
 | .tup ds,x=>∃ a xs,x=.ref a/\bY K H a xs/\aD K H ds xs
def aD (K:PySem.W.Frag)(H:Hp):List Dv->List V->Prop
 |[],xs=>xs=[]
 |d::ds,xs=>∃ x r,xs=x::r/\Hv K H d x/\aD K H ds r
end
theorem D9 {v:V}(h:fQ v=true):fX v v=true:=by
 cases v<;>first | rfl | (simp [fX];done) | (exact absurd h (by decide)) | (cases h)
section
variable {X:Cx}{pins:List (Addr×Obj)}{σ:St}{H:Hp}{s:Shared}
theorem Ea (I:Inv X pins σ H s){a:Addr}{xs ys:List V}(h1:aN X.K H a xs)(h2:bY X.K H a ys):False:=by
 obtain ⟨i1,_,p1,_⟩:=I.list h1
 obtain ⟨i2,_,p2,_⟩:=I.tuple h2
 exact SeqAt.ne_of_list_tuple p1.isList p2 rfl
mutual
theorem tG (I:Inv X pins σ H s):∀ (d e:Dv) (x:V),Hv X.K H d x->Hv X.K H e x->bL d e=true
 | .fl v,.fl w,x,h1,h2=>by
  obtain ⟨rfl,f⟩:=h1
  obtain ⟨rfl,_⟩:=h2
  exact D9 f
 | .fl v,.lst es,x,h1,h2=>by
  obtain ⟨rfl,f⟩:=h1
  obtain ⟨a,xs,rfl,_⟩:=h2
  cases f
 | .fl v,.tup es,x,h1,h2=>by
  obtain ⟨rfl,f⟩:=h1
  obtain ⟨a,xs,rfl,_⟩:=h2
  cases f
 | .lst ds,.fl v,x,h2,h1=>by
  obtain ⟨rfl,f⟩:=h1
  obtain ⟨a,xs,rfl,_⟩:=h2
  cases f
 | .tup ds,.fl v,x,h2,h1=>by
  obtain ⟨rfl,f⟩:=h1
  obtain ⟨a,xs,rfl,_⟩:=h2
  cases f
 | .lst ds,.lst es,x,h1,h2=>by
  obtain ⟨a,xs,rfl,q,r⟩:=h1
  obtain ⟨b,ys,e,q',r'⟩:=h2
  cases e
  have:=I.D4 q q'
  subst this
  exact xi I ds es xs r r'
 | .tup ds,.tup es,x,h1,h2=>by
  obtain ⟨a,xs,rfl,q,r⟩:=h1
  obtain ⟨b,ys,e,q',r'⟩:=h2
  cases e
  have:=I.Pb q q'
  subst this
  exact xi I ds es xs r r'
 | .lst ds,.tup es,x,h1,h2=>by
  obtain ⟨a,xs,rfl,q,r⟩:=h1
  obtain ⟨b,ys,e,q',r'⟩:=h2
  cases e
  exact (Ea I q q').elim
 | .tup ds,.lst es,x,h1,h2=>by
  obtain ⟨a,xs,rfl,q,r⟩:=h1
  obtain ⟨b,ys,e,q',r'⟩:=h2
  cases e
  exact (Ea I q' q).elim
theorem xi (I:Inv X pins σ H s):∀ (ds es:List Dv) (xs:List V),aD X.K H ds xs->aD X.K H es xs->eE ds es=true
 |[],[],_,_,_=>rfl
 |[],e::es,xs,h1,h2=>by
  obtain rfl:xs=[]:=h1
  obtain ⟨x,r,z,_⟩:=h2
  cases z
 |d::ds,[],xs,h1,h2=>by
  obtain rfl:xs=[]:=h2
  obtain ⟨x,r,z,_⟩:=h1
  cases z
 |d::ds,e::es,xs,h1,h2=>by
  obtain ⟨x,r,rfl,a,b⟩:=h1
  obtain ⟨x',r',z,a',b'⟩:=h2
  cases z
  show (bL d e&&eE ds es)=true
  rw [tG I d e x a a',xi I ds es r b b']
  rfl
end
theorem aD.length {K:PySem.W.Frag}{H:Hp}:∀ {ds:List Dv} {xs:List V},aD K H ds xs->ds.length=xs.length
 |[],xs,h=>by
  obtain rfl:xs=[]:=h
  rfl
 |d::ds,xs,h=>by
  obtain ⟨x,r,rfl,_,b⟩:=h
  rw [List.length_cons,List.length_cons,aD.length b]
theorem lA:∀ {ds es:List Dv},ds.length ≠ es.length->eE ds es=false
 |[],[],h=>absurd rfl h
 |[],_::_,_=>rfl
 |_::_,[],_=>rfl
 |d::ds,e::es,h=>by
  show (bL d e&&eE ds es)=false
  rw [lA (ds:=ds) (es:=es) (by simpa using h),Bool.and_false]
def gR (ds es:List Dv)(j:Nat):Bool:=match ds[j]?,es[j]? with
 |some d,some e=>bL d e
 |_,_=>false
theorem lu:∀ {ds es:List Dv},ds.length=es.length->(List.range ds.length).all (gR ds es)=eE ds es
 |[],[],_=>rfl
 |[],_::_,h=>by cases h
 |_::_,[],h=>by cases h
 |d::ds,e::es,h=>by
  rw [List.length_cons,List.range_succ_eq_map,List.all_cons,List.all_map]
  show (bL d e&&(List.range ds.length).all (gR (d::ds) (e::es) ∘ Nat.succ))=(bL d e&&eE ds es)
  congr 1
  exact lu (ds:=ds) (es:=es) (by simpa using h)
mutual
theorem Gp (I:Inv X pins σ H s):∀ (d e:Dv) (A:Around) (x y:V) (u v:Value),A.units+cF d<cLine->Hv X.K H d x->Hv X.K H e y->RelV x u->RelV y v->SeqAt.EqAt A s u v (bL d e)
 | .fl a,.fl b,A,x,y,u,v,hu,h1,h2,rx,ry=>by
  obtain ⟨rfl,f1⟩:=h1
  obtain ⟨rfl,f2⟩:=h2
  exact Gg rx ry f1 f2
 | .fl a,.lst es,A,x,y,u,v,hu,h1,h2,rx,ry=>by
  obtain ⟨rfl,f1⟩:=h1
  obtain ⟨b,ys,rfl,q,r⟩:=h2
  cases ry
  obtain ⟨its,_,pl,_⟩:=I.list q
  have aJ:A.units<cLine:=hu
  cases x with
  |aS=>cases rx;exact SeqAt.EqAt.none_list pl.isList aJ
  |bl c=>cases rx;exact SeqAt.EqAt.bool_list c pl.isList aJ
  |int c=>obtain ⟨t,rfl⟩:=rx;exact SeqAt.EqAt.int_list c t pl.isList aJ
  |str c=>obtain ⟨t,rfl⟩:=rx;exact SeqAt.EqAt.str_list c t pl.isList aJ
  |_=>cases f1
 | .fl a,.tup es,A,x,y,u,v,hu,h1,h2,rx,ry=>by
  obtain ⟨rfl,f1⟩:=h1
  obtain ⟨b,ys,rfl,q,r⟩:=h2
  cases ry
  obtain ⟨its,_,pl,_⟩:=I.tuple q
  have aJ:A.units<cLine:=hu
  cases x with
  |aS=>cases rx;exact SeqAt.EqAt.none_tuple pl aJ
  |bl c=>cases rx;exact SeqAt.EqAt.bool_tuple c pl aJ
  |int c=>obtain ⟨t,rfl⟩:=rx;exact SeqAt.EqAt.int_tuple c t pl aJ
  |str c=>obtain ⟨t,rfl⟩:=rx;exact SeqAt.EqAt.str_tuple c t pl aJ
  |_=>cases f1
 | .lst ds,.fl b,A,x,y,u,v,hu,h1,h2,rx,ry=>by
  obtain ⟨rfl,f2⟩:=h2
  obtain ⟨a,xs,rfl,q,r⟩:=h1
  cases rx
  obtain ⟨its,_,pl,_⟩:=I.list q
  have aJ:A.units<cLine:=Nat.lt_of_le_of_lt (Nat.le_add_right _ _) hu
  cases y with
  |aS=>cases ry;exact SeqAt.EqAt.list_none pl.isList aJ
  |bl c=>cases ry;exact SeqAt.EqAt.list_bool c pl.isList aJ
  |int c=>obtain ⟨t,rfl⟩:=ry;exact SeqAt.EqAt.list_int c t pl.isList aJ
  |str c=>obtain ⟨t,rfl⟩:=ry;exact SeqAt.EqAt.list_str c t pl.isList aJ
  |_=>cases f2
 | .tup ds,.fl b,A,x,y,u,v,hu,h1,h2,rx,ry=>by
  obtain ⟨rfl,f2⟩:=h2
  obtain ⟨a,xs,rfl,q,r⟩:=h1
  cases rx
  obtain ⟨its,_,pl,_⟩:=I.tuple q
  have aJ:A.units<cLine:=Nat.lt_of_le_of_lt (Nat.le_add_right _ _) hu
  cases y with
  |aS=>cases ry;exact SeqAt.EqAt.tuple_none pl aJ
  |bl c=>cases ry;exact SeqAt.EqAt.tuple_bool c pl aJ
  |int c=>obtain ⟨t,rfl⟩:=ry;exact SeqAt.EqAt.tuple_int c t pl aJ
  |str c=>obtain ⟨t,rfl⟩:=ry;exact SeqAt.EqAt.tuple_str c t pl aJ
  |_=>cases f2
 | .lst ds,.tup es,A,x,y,u,v,hu,h1,h2,rx,ry=>by
  obtain ⟨a,xs,rfl,q,r⟩:=h1
  obtain ⟨b,ys,rfl,q',r'⟩:=h2
  cases rx
  cases ry
  obtain ⟨_,_,p1,_⟩:=I.list q
  obtain ⟨_,_,p2,_⟩:=I.tuple q'
  exact SeqAt.EqAt.list_tuple p1.isList p2 (Nat.lt_of_le_of_lt (Nat.le_add_right _ _) hu)
 | .tup ds,.lst es,A,x,y,u,v,hu,h1,h2,rx,ry=>by
  obtain ⟨a,xs,rfl,q,r⟩:=h1
  obtain ⟨b,ys,rfl,q',r'⟩:=h2
  cases rx
  cases ry
  obtain ⟨_,_,p1,_⟩:=I.tuple q
  obtain ⟨_,_,p2,_⟩:=I.list q'
  exact SeqAt.EqAt.tuple_list p1 p2.isList (Nat.lt_of_le_of_lt (Nat.le_add_right _ _) hu)
 | .lst ds,.lst es,A,x,y,u,v,hu,h1,h2,rx,ry=>by
  obtain ⟨a,xs,rfl,q,r⟩:=id h1
  obtain ⟨b,ys,rfl,q',r'⟩:=id h2
  cases rx
  cases ry
  by_cases bE:a=b
  ·subst bE
   rw [tG I _ _ _ h1 h2]
   exact SeqAt.EqAt.same _
  obtain ⟨i1,v1,p1,_⟩:=I.list q
  obtain ⟨i2,v2,p2,_⟩:=I.list q'
  have aJ:A.units<cLine:=Nat.lt_of_le_of_lt (Nat.le_add_right _ _) hu
  have l1:=r.length
  have l2:=r'.length
  have m1:=v1.length
  have m2:=v2.length
  refine .of_refs bE ?_
  show SeqAt.RcAt A s (.ref a) (.ref b) (eE ds es)
  by_cases hl:ds.length=es.length
  ·have z:=SeqAt.RcAt.lists (e:=gR ds es) p1.isList p2.isList (by simp;omega) aJ (fun j g1 g2=>lK I ds es A.in1 xs ys i1 i2 (by show A.units+1+cP ds<cLine;have:A.units+(cP ds+1)<cLine:=hu;omega) r r' v1 v2 j (by simpa using g1) (by simpa using g2))
   rw [List.size_toArray,<- m1,<- l1,lu hl] at z
   exact z
  ·rw [lA hl]
   exact .lists_lengths p1.isList p2.isList (by simp;omega) aJ
 | .tup ds,.tup es,A,x,y,u,v,hu,h1,h2,rx,ry=>by
  obtain ⟨a,xs,rfl,q,r⟩:=id h1
  obtain ⟨b,ys,rfl,q',r'⟩:=id h2
  cases rx
  cases ry
  by_cases bE:a=b
  ·subst bE
   rw [tG I _ _ _ h1 h2]
   exact SeqAt.EqAt.same _
  obtain ⟨i1,v1,p1,_⟩:=I.tuple q
  obtain ⟨i2,v2,p2,_⟩:=I.tuple q'
  have aJ:A.units<cLine:=Nat.lt_of_le_of_lt (Nat.le_add_right _ _) hu
  have l1:=r.length
  have l2:=r'.length
  have m1:=v1.length
  have m2:=v2.length
  refine .of_refs bE ?_
  show SeqAt.RcAt A s (.ref a) (.ref b) (eE ds es)
  have z:=SeqAt.RcAt.tuples (e:=gR ds es) p1 p2 aJ (fun j g1 g2=>lK I ds es A.in1 xs ys i1 i2 (by show A.units+1+cP ds<cLine;have:A.units+(cP ds+1)<cLine:=hu;omega) r r' v1 v2 j (by simpa using g1) (by simpa using g2))
  have zz:((List.range (min i1.toArray.size i2.toArray.size)).all (gR ds es)&&i1.toArray.size==i2.toArray.size)=eE ds es:=by
   rw [List.size_toArray,List.size_toArray,<- m1,<- m2,<- l1,<- l2]
   by_cases hl:ds.length=es.length
   ·rw [hl,Nat.min_self,<- hl,lu hl];simp [hl]
   ·rw [lA hl,beq_eq_false_iff_ne.mpr hl,Bool.and_false]
  rw [zz] at z
  exact z
theorem lK (I:Inv X pins σ H s):∀ (ds es:List Dv) (A:Around) (xs ys:List V) (us vs:List Value),A.units+cP ds<cLine->aD X.K H ds xs->aD X.K H es ys->Vals xs us->Vals ys vs ->
  ∀ (j:Nat) (h1:j<us.length) (h2:j<vs.length),SeqAt.EqAt A s us[j] vs[j] (gR ds es j)
 |[],es,A,xs,ys,us,vs,hu,h1,h2,r1,r2,j,g1,g2=>by
  obtain rfl:xs=[]:=h1
  cases r1
  exact absurd g1 (Nat.not_lt_zero _)
 |d::ds,[],A,xs,ys,us,vs,hu,h1,h2,r1,r2,j,g1,g2=>by
  obtain rfl:ys=[]:=h2
  cases r2
  exact absurd g2 (Nat.not_lt_zero _)
 |d::ds,e::es,A,xs,ys,us,vs,hu,h1,h2,r1,r2,j,g1,g2=>by
  obtain ⟨x,r,rfl,a,b⟩:=h1
  obtain ⟨y,q,rfl,a',b'⟩:=h2
  cases r1 with
  |cons c1 t1=>cases r2 with
   |cons c2 t2 =>
    have hm:cP (d::ds)=max (cF d) (cP ds):=rfl
    rw [hm] at hu
    cases j with
    |zero=>exact Gp I d e A x y _ _ (Nat.lt_of_le_of_lt (Nat.add_le_add_left (Nat.le_max_left _ _) _) hu) a a' c1 c2
    |succ j=>exact lK I ds es A r q _ _ (Nat.lt_of_le_of_lt (Nat.add_le_add_left (Nat.le_max_right _ _) _) hu) b b' t1 t2 j (by simpa using g1) (by simpa using g2)
end
def qN (K:PySem.W.Frag)(neg:Bool):R2:=fun x y H Q=>∃ d e,((∃ ds es,d=.lst ds/\e=.lst es)\/∃ ds es,d=.tup ds/\e=.tup es)/\Hv K H d x/\Hv K H e y/\cF d<=50/\Q (.bl (if neg then !bL d e else bL d e)) H
theorem Gq (hr:X.A.units+64<cLine):cu X (compareOp .Eq) (qN X.K false):=by
 intro pins s σ H x y v u Q I rx ry h
 obtain ⟨d,e,hk,h1,h2,hd,q⟩:=h
 have aJ:X.A.units<cLine:=by omega
 rcases hk with ⟨ds,es,rfl,rfl⟩ | ⟨ds,es,rfl,rfl⟩
 ·obtain ⟨a,xs,rfl,q1,r⟩:=h1
  obtain ⟨b,ys,rfl,q2,r'⟩:=h2
  cases rx
  cases ry
  obtain ⟨i1,v1,p1,_⟩:=I.list q1
  obtain ⟨i2,v2,p2,_⟩:=I.list q2
  have l1:=r.length
  have l2:=r'.length
  have m1:=v1.length
  have m2:=v2.length
  have ra:cP ds+1<=50:=hd
  by_cases hl:ds.length=es.length
  ·refine SeqAt.eq_listAt (e:=gR ds es) p1.isList p2.isList (by simp;omega) aJ (fun j g1 g2=>lK I ds es X.A.in1 xs ys i1 i2 (by show X.A.units+1+cP ds<cLine;omega) r r' v1 v2 j (by simpa using g1) (by simpa using g2)) ?_
   rw [List.size_toArray,<- m1,<- l1,lu hl]
   exact ⟨.bl _,H,I,rfl,q⟩
  ·refine SeqAt.eq_list_lengthsAt p1.isList p2.isList (by simp;omega) aJ ⟨.bl _,H,I,rfl,?_⟩
   have z:bL (.lst ds) (.lst es)=false:=lA hl
   rw [z] at q
   exact q
 ·obtain ⟨a,xs,rfl,q1,r⟩:=h1
  obtain ⟨b,ys,rfl,q2,r'⟩:=h2
  cases rx
  cases ry
  obtain ⟨i1,v1,p1,_⟩:=I.tuple q1
  obtain ⟨i2,v2,p2,_⟩:=I.tuple q2
  have l1:=r.length
  have l2:=r'.length
  have m1:=v1.length
  have m2:=v2.length
  have ra:cP ds+1<=50:=hd
  refine SeqAt.eq_tupleAt (e:=gR ds es) p1 p2 aJ (fun j g1 g2=>lK I ds es X.A.in1 xs ys i1 i2 (by show X.A.units+1+cP ds<cLine;omega) r r' v1 v2 j (by simpa using g1) (by simpa using g2)) ⟨.bl _,H,I,rfl,?_⟩
  have zz:((List.range (min i1.toArray.size i2.toArray.size)).all (gR ds es)&&i1.toArray.size==i2.toArray.size)=eE ds es:=by
   rw [List.size_toArray,List.size_toArray,<- m1,<- m2,<- l1,<- l2]
   by_cases hl:ds.length=es.length
   ·rw [hl,Nat.min_self,<- hl,lu hl];simp [hl]
   ·rw [lA hl,beq_eq_false_iff_ne.mpr hl,Bool.and_false]
  rw [zz]
  exact q
theorem Te (hr:X.A.units+64<cLine):cu X (compareOp .NotEq) (qN X.K true):=by
 intro pins s σ H x y v u Q I rx ry h
 obtain ⟨d,e,hk,h1,h2,hd,q⟩:=h
 have aJ:X.A.units<cLine:=by omega
 rcases hk with ⟨ds,es,rfl,rfl⟩ | ⟨ds,es,rfl,rfl⟩
 ·obtain ⟨a,xs,rfl,q1,r⟩:=h1
  obtain ⟨b,ys,rfl,q2,r'⟩:=h2
  cases rx
  cases ry
  obtain ⟨i1,v1,p1,_⟩:=I.list q1
  obtain ⟨i2,v2,p2,_⟩:=I.list q2
  have l1:=r.length
  have l2:=r'.length
  have m1:=v1.length
  have m2:=v2.length
  have ra:cP ds+1<=50:=hd
  by_cases hl:ds.length=es.length
  ·refine SeqAt.RcNeAt.lists (e:=gR ds es) p1.isList p2.isList (by simp;omega) aJ (fun j g1 g2=>lK I ds es X.A.in1 xs ys i1 i2 (by show X.A.units+1+cP ds<cLine;omega) r r' v1 v2 j (by simpa using g1) (by simpa using g2)) _ _ _ _ ?_
   rw [List.size_toArray,<- m1,<- l1,lu hl]
   exact ⟨.bl _,H,I,rfl,q⟩
  ·refine SeqAt.RcNeAt.lists_lengths p1.isList p2.isList (by simp;omega) aJ _ _ _ _ ⟨.bl _,H,I,rfl,?_⟩
   have z:bL (.lst ds) (.lst es)=false:=lA hl
   rw [z] at q
   exact q
 ·obtain ⟨a,xs,rfl,q1,r⟩:=h1
  obtain ⟨b,ys,rfl,q2,r'⟩:=h2
  cases rx
  cases ry
  obtain ⟨i1,v1,p1,_⟩:=I.tuple q1
  obtain ⟨i2,v2,p2,_⟩:=I.tuple q2
  have l1:=r.length
  have l2:=r'.length
  have m1:=v1.length
  have m2:=v2.length
  have ra:cP ds+1<=50:=hd
  refine SeqAt.RcNeAt.tuples (e:=gR ds es) p1 p2 aJ (fun j g1 g2=>lK I ds es X.A.in1 xs ys i1 i2 (by show X.A.units+1+cP ds<cLine;omega) r r' v1 v2 j (by simpa using g1) (by simpa using g2)) _ _ _ _ ⟨.bl _,H,I,rfl,?_⟩
  have zz:((List.range (min i1.toArray.size i2.toArray.size)).all (gR ds es)&&i1.toArray.size==i2.toArray.size)=eE ds es:=by
   rw [List.size_toArray,List.size_toArray,<- m1,<- m2,<- l1,<- l2]
   by_cases hl:ds.length=es.length
   ·rw [hl,Nat.min_self,<- hl,lu hl];simp [hl]
   ·rw [lA hl,beq_eq_false_iff_ne.mpr hl,Bool.and_false]
  rw [zz]
  exact q
end
end L2
namespace L2
open PySem PySem.Spec PyProof.Rows
structure oX (K:PySem.W.Frag) (x qual:Str) (st:Stmt) (dV:Value) (f:Addr) (fd:FuncData):Prop where
 ex:∃ (oc:Value) (od:Option Addr) (kV doc pm:Value) (an:Option Addr) (bI ct:Value) (gH:Array (Option Value)),
  fd=PySem.W.fnOf x qual (aW st) (aP st) (au st) dV kV doc pm an bI ct/\K.lookup f=some ⟨oc,od,.func fd,gH⟩/\PySem.W.codeIn K bI qual=true
 kp:PySem.W.keepIn K (.ref f)=true
structure Kn (P:Program) (w:World) (K:PySem.W.Frag) (mg:Str->Option Value) (base:Heap) (CX:fV) (k:Nat) (x:Str) (f:Addr) (fd:FuncData) (ps:List Str) (sp:Sp):Prop where
 ok:aR P w K mg base CX k f fd ps sp
 Kj:mg x=some (.ref f)
 kp:PySem.W.keepIn K (.ref f)=true
 bd:Binds K fd ps []
section
variable {P:Program}{w:World}{K:PySem.W.Frag}{mg:Str->Option Value}{base:Heap}
theorem oX.ok {x qual:Str}{st:Stmt}{dV:Value}{f:Addr}{fd:FuncData}{N ps:List Str}{k:Nat}{sp:Sp}(F:oX K x qual st dV f fd)(S:bh N ps (au st))(len:∀ vs H Q E,sp vs H Q E->vs.length=ps.length)
  (yr:∀ (bI:Value) (A:Around) (outer:List Env) (s:Shared) (H:Hp) (vs:List V) (Q:VK) (E:XK),dw k (A.deeper (envOfC qual (au st) s.heap.objs.size f bI))->sp vs H Q E ->
   ∃ t,eU (jK ao P w K mg base N qual (au st) f bI A outer s H E).rg (aP st) t/\t { nx:=fun _ H'=>Q .aS H',rt:=Q } (start N vs) H):aR P w K mg base ao (k+1) f fd ps sp:=by
 obtain ⟨oc,od,kV,doc,pm,an,bI,ct,gH,rfl,lk,iM⟩:=F.ex
 refine T7 lk iM S len fun A outer s H vs Q E hr kO=>?_
 obtain ⟨t,h,q⟩:=yr bI A outer s H vs Q E hr kO
 exact ⟨t,h.rg,q⟩
theorem Rg {x qual:Str}{st:Stmt}{dV:Value}{f:Addr}{oc:Value}{od an:Option Addr}{gH:Array (Option Value)}{kV doc pm bI ct:Value}(l:K.lookup f=some ⟨oc,od,.func (PySem.W.fnOf x qual (aW st) (aP st) (au st) dV kV doc pm an bI ct),gH⟩)
  (c:PySem.W.codeIn K bI qual=true) (k:PySem.W.keepIn K (.ref f)=true):oX K x qual st dV f (PySem.W.fnOf x qual (aW st) (aP st) (au st) dV kV doc pm an bI ct):=⟨⟨oc,od,kV,doc,pm,an,bI,ct,gH,rfl,l,c⟩,k⟩
end
section
variable {X:Cx}{CX:fV}{k:Nat}{f:Addr}{fd:FuncData}{ps:List Str}{sp:Sp}{E:XK}{x:Str}{p pos:Pos}{e:Expr}{es:List Expr}{t:TA}
theorem Ue (F:Kn X.prog X.w X.K X.mg X.base ao k x f fd ps sp) (hr:dw k X.A) (hg:Gl X x) (ha:PA X (e::es) t) (fI:(x==("__debug__" : Str))=false:=by decide)
  (he:starEach (e::es) X.env=(false,eval e X.env)::starEach es X.env:=by rfl) (eG:(backTo pos (starEach es X.env)).any (·.1)=false:=by rfl) :
  PE X (.Call (.Name x p) (e::es) [] pos) (uf sp [] E0 t):=E3 F.ok hr hg F.Kj F.kp F.bd .nil Ia ha fI he eG
end
def Ic (K:PySem.W.Frag):R2:=fun x y H Q=>∃ l b xs zs,x=.ref l/\y=.ref b/\aN K H l xs/\aN K H b zs/\xs.length+zs.length<=sizeLine/\∀ p,H p=none->Q (.ref p) (upd H p (.lst (xs++zs)))
end L2
namespace L2
open PySem PySem.Spec PyProof.Rows
section
variable {Y:Cx}{c:Expr}{tt:TT}
theorem Ug (pins:List (Addr×Obj))(s1:Shared)(aF:St)(H1:Hp)(Q:Bool->Hp->Prop)(I:Inv Y pins aF H1 s1)(h:Q true H1):wpAny (model Y.prog Y.w) Y.A (jy [] Y.env) (TP Y pins aF Q) cv s1 :=
 wpAny_pure ⟨H1,I,h⟩
theorem Uh (ht:PT Y c tt)(hx:Y.xe=cv)(pins:List (Addr×Obj))(s1:Shared)(aF:St)(H1:Hp)(Q:Bool->Hp->Prop)(I:Inv Y pins aF H1 s1)(h:tt aF H1 Q):wpAny (model Y.prog Y.w) Y.A (jy [c] Y.env) (TP Y pins aF Q) cv s1:=by
 have z:=ht pins s1 aF H1 Q I h
 rw [hx] at z
 unfold jy
 rw [List.forIn_cons]
 simp only [if_true]
 refine wpAny_bind (wpAny_bind (ay z fun b s2 q=>wpAny_pure ?_))
 exact wpAny_pure q
end
def Rh:TT:=fun _ H Q=>Q true H
section
variable {X:Cx}
theorem Ri:cu X (binaryOp .Add) (Ic X.K):=by
 intro pins s σ H x y v u Q I rx ry h
 obtain ⟨l,b,xs,zs,rfl,rfl,hH,hB,hz,q⟩:=h
 cases rx
 cases ry
 obtain ⟨its,r,⟨⟨cl,dd,da,sl⟩,n,e,c1,c2,d1⟩,z⟩:=I.list hH
 obtain ⟨fG,r2,⟨⟨cl2,rk,da2,mR⟩,n2,e2,c3,c4,d2⟩,z2⟩:=I.list hB
 simp only at c1 d1 c3 d2
 subst c1 d1 c3 d2
 have l1:=r.length
 have l2:=r2.length
 refine concat_meets ⟨_,e,rfl⟩ ⟨_,e2,rfl⟩ noFill_list_add seq_list_add PySem.F.slot_list_add PySem.F.entry_list_add (PySem.F.args_list_add_2 _ _) (list_addW l b its.toArray fG.toArray n n2 dd rk sl mR (by simp;omega)) ⟨e,e2,?_⟩
 have ea:its.toArray++fG.toArray=(its++fG).toArray:=by simp
 rw [ea]
 exact ⟨.ref _,_,I.zi (t':=s.toks) (r.append r2) (by rw [List.length_append];omega),rfl,q _ I.fresh⟩
end
end L2
namespace L2
open PySem
theorem MX:bootBuiltins "isinstance" = some (.builtin "isinstance"):=by decide +kernel
theorem Tf:bootBuiltins "abs" = some (.builtin "abs"):=by decide +kernel
theorem Gr:bootBuiltins "len" = some (.builtin "len"):=by decide +kernel
theorem Tg:bootBuiltins "sum" = some (.builtin "sum"):=by decide +kernel
theorem Th:bootBuiltins "min" = some (.builtin "min"):=by decide +kernel
theorem wN:bootBuiltins "sorted" = some (.builtin "sorted"):=by decide +kernel
theorem Ti:bootBuiltins "any" = some (.builtin "any"):=by decide +kernel
theorem xY:bootBuiltins "int" = some (.type "int"):=by decide +kernel
theorem E8:bootBuiltins "bool" = some (.type "bool"):=by decide +kernel
theorem xZ:bootBuiltins "str" = some (.type "str"):=by decide +kernel
theorem pZ:bootBuiltins "list" = some (.type "list"):=by decide +kernel
theorem sT:bootBuiltins "tuple" = some (.type "tuple"):=by decide +kernel
theorem Tj:bootBuiltins "zip" = some (.type "zip"):=by decide +kernel
theorem NC:bootBuiltins "enumerate" = some (.type "enumerate"):=by decide +kernel
end L2
namespace L2
open PySem PySem.Spec PyProof.Rows
def fB (cells:List (Str×Addr)):List (Str×NameKind)->List (Str×Addr)->List (Str×Addr)
 |[],cs=>cs
 |(n,k)::r,cs=>fB cells r (if k==.free then (n,(cells.lookup n).getD 0)::cs else cs)
theorem Rj {sc:Scope}{env:Env}(h:∀ p ∈ sc.names,p.2=.free->∃ c,env.cells.lookup p.1=some c):closureFor sc env=pure (fB env.cells sc.names []):=by
 have key:∀ (names:List (Str×NameKind)) (cs:List (Str×Addr)),(∀ p ∈ names,p.2=.free->∃ c,env.cells.lookup p.1=some c) ->
   (forIn names cs fun x t=>match x with
    |(name,kind)=>if (kind==NameKind.free)=true then do
       let a <- cellOf env name
       pure (ForInStep.yield ((name,a)::t))
      else pure (ForInStep.yield t))=(pure (fB env.cells names cs):Sem (List (Str×Addr))):=by
  intro names
  induction names with
  |nil=>intro cs _;rfl
  |cons p r ih =>
   intro cs hp
   obtain ⟨n,k⟩:=p
   rw [List.forIn_cons]
   cases hk:k==NameKind.free with
   |true =>
    obtain ⟨c,hc⟩:=hp (n,k) (.head _) (beq_iff_eq.mp hk)
    have g9:env.cells.lookup n=some c:=hc
    have e1:cellOf env n=pure c:=by unfold cellOf;rw [g9]
    have e2:fB env.cells ((n,k)::r) cs=fB env.cells r ((n,c)::cs):=by
     show fB env.cells r (if (k==NameKind.free)=true then _ else _)=_
     rw [hk,g9,if_pos rfl]
     rfl
    rw [e2,<- ih ((n,c)::cs) fun q hq=>hp q (.tail _ hq)]
    simp only [hk,if_true,e1]
    rfl
   |false =>
    have e2:fB env.cells ((n,k)::r) cs=fB env.cells r cs:=by
     show fB env.cells r (if (k==NameKind.free)=true then _ else _)=_
     rw [hk,if_neg (by decide)]
    rw [e2,<- ih cs fun q hq=>hp q (.tail _ hq)]
    simp only [hk,Bool.false_eq_true,if_false]
    rfl
 simp only [closureFor]
 rw [key sc.names [] h]
 rfl
theorem DM {cells:List (Str×Addr)}:∀ (names:List (Str×NameKind)) (cs:List (Str×Addr)),(∀ p ∈ names,p.2=.free->∃ c,cells.lookup p.1=some c)->(∀ y c,cs.lookup y=some c->cells.lookup y=some c) ->
  ∀ y c,(fB cells names cs).lookup y=some c->cells.lookup y=some c
 |[],_,_,h=>h
 |(n,k)::r,cs,hp,h=>by
  refine DM r _ (fun q hq=>hp q (.tail _ hq)) fun y c e=>?_
  split at e
  ·rename_i hk
   obtain ⟨c0,hc⟩:=hp (n,k) (.head _) (beq_iff_eq.mp hk)
   have g9:cells.lookup n=some c0:=hc
   rw [List.lookup_cons] at e
   split at e
   ·rename_i hy
    have:y=n:=beq_iff_eq.mp hy
    subst this
    rw [g9] at e
    cases e
    exact g9
   ·exact h y c e
  ·exact h y c e
theorem Dy {cells:List (Str×Addr)}:∀ (names:List (Str×NameKind)) (cs:List (Str×Addr)) (y:Str),(∃ c,cs.lookup y=some c)->∃ c,(fB cells names cs).lookup y=some c
 |[],_,_,h=>h
 |(n,k)::r,cs,y,⟨c,h⟩=>by
  refine Dy r _ y ?_
  split
  ·rw [List.lookup_cons]
   split
   ·exact ⟨_,rfl⟩
   ·exact ⟨c,h⟩
  ·exact ⟨c,h⟩
theorem wO {cells:List (Str×Addr)}:∀ (names:List (Str×NameKind)) (cs:List (Str×Addr)) (y:Str),(y,NameKind.free) ∈ names->∃ c,(fB cells names cs).lookup y=some c
 |[],_,_,h=>nomatch h
 |(n,k)::r,cs,y,h=>by
  rcases List.mem_cons.mp h with e | h
  ·have e1:y=n:=congrArg (·.1) e
   have e2:NameKind.free=k:=congrArg (·.2) e
   subst e1 e2
   refine Dy r _ _ ?_
   rw [if_pos (by decide),List.lookup_cons_self]
   exact ⟨_,rfl⟩
  ·exact wO r _ y h
theorem mem_of_lookup {κ β:Type} [BEq κ] [LawfulBEq κ]{l:List (κ × β)}{y : κ}{k : β}(h:l.lookup y=some k):(y,k) ∈ l:=by
 induction l with
 |nil=>cases h
 |cons p r ih =>
  obtain ⟨n,b⟩:=p
  rw [List.lookup_cons] at h
  split at h
  ·rename_i hy
   have:y=n:=beq_iff_eq.mp hy
   subst this
   cases h
   exact .head _
  ·exact .tail _ (ih h)
section
variable {CX:fV}{P:Program}{w:World}{K:PySem.W.Frag}{mg:Str->Option Value}{base:Heap}{N:List Str}{qual:Str}{fK:Scope}{f:Addr}{cd:Value}{A:Around}{outer:List Env}{s:Shared}{H:Hp}{E:XK}{XE:Value->Shared->Prop}
structure Rk (N:List Str) (fK sc:Scope) (fr:List Nat):Prop where
 kind:sc.kind=.function
 Ie:fK.kind=.function
 Tn:∀ y ∈ sc.names,y.2 ≠ .cell
 loc:∀ y ∈ sc.names,y.2=.local->sc.names.lookup y.1=some .local
 u0:∀ y ∈ sc.names,y.2=.free->fK.names.lookup y.1=some .cell
 dD:∀ j ∈ fr,sc.names.lookup (N.getD j "")=some .free/\j<N.length
theorem sE {env:Env}:∀ {names:List (Str×NameKind)} {y:Str} {k:NameKind},(names.map fun (n,k)=>if (k==NameKind.free&&env.scope.kind==.function&&env.kindOf n==some .cell) then (n,NameKind.cell) else (n,k)).lookup y=some k ->
  ∃ k0,names.lookup y=some k0/\(k=k0\/(k=.cell/\k0=.free))
 |[],_,_,h=>by cases h
 |(n,k0)::r,y,k,h=>by
  rw [List.map_cons] at h
  simp only at h
  split at h
  ·rename_i hc
   rw [List.lookup_cons] at h ⊢
   split at h
   ·cases h
    simp only [Bool.and_eq_true,beq_iff_eq] at hc
    exact ⟨k0,rfl,.inr ⟨rfl,hc.1.1⟩⟩
   ·exact sE h
  ·rw [List.lookup_cons] at h ⊢
   split at h
   ·cases h
    exact ⟨k0,rfl,.inl rfl⟩
   ·exact sE h
theorem wm {env:Env}:∀ {names:List (Str×NameKind)} {y:Str},names.lookup y=some .free ->
  (names.map fun (n,k)=>if (k==NameKind.free&&env.scope.kind==.function&&env.kindOf n==some .cell) then (n,NameKind.cell) else (n,k)).lookup y=some .cell \/
  (names.map fun (n,k)=>if (k==NameKind.free&&env.scope.kind==.function&&env.kindOf n==some .cell) then (n,NameKind.cell) else (n,k)).lookup y=some .free
 |[],_,h=>by cases h
 |(n,k0)::r,y,h=>by
  rw [List.map_cons]
  rw [List.lookup_cons] at h
  simp only
  split at h
  ·rename_i hy
   cases h
   split
   ·left;rw [List.lookup_cons,hy]
   ·right;rw [List.lookup_cons,hy]
  ·rename_i hy
   split
   ·rw [List.lookup_cons,hy];exact wm h
   ·rw [List.lookup_cons,hy];exact wm h
structure Qk (N:List Str) (fK sc:Scope) (fr:List Nat):Prop where
 kind:sc.kind=.function
 Ie:fK.kind=.function
 own:∀ y ∈ sc.names,y.2=.cell->∀ z ∈ sc.names,z.2=.free->z.1 ≠ y.1
 loc:∀ y ∈ sc.names,y.2=.local->sc.names.lookup y.1=some .local
 u0:∀ y ∈ sc.names,y.2=.free->fK.names.lookup y.1=some .cell
 dD:∀ j ∈ fr,sc.names.lookup (N.getD j "")=some .free/\j<N.length
theorem Dz {cells:List (Str×Addr)}:∀ (names:List (Str×NameKind)) (cs:List (Str×Addr)) (y:Str),(∀ z ∈ names,z.2=.free->z.1 ≠ y)->cs.lookup y=none->(fB cells names cs).lookup y=none
 |[],_,_,_,h=>h
 |(n,k)::r,cs,y,hn,h=>by
  refine Dz r _ y (fun z hz=>hn z (.tail _ hz)) ?_
  split
  ·rename_i hk
   have eI:n ≠ y:=hn (n,k) (.head _) (beq_iff_eq.mp hk)
   have hb:(y==n)=false:=beq_eq_false_iff_ne.mpr fun e=>eI e.symm
   rw [List.lookup_cons,hb]
   exact h
  ·exact h
theorem U1 {sc:Scope}{fr:List Nat}(L:Qk N fK sc fr):jz ((jK CX P w K mg base N qual fK f cd A outer s H E).gT XE) sc (fB (cellsFrom (s.heap.objs.size+1) fK.names []) sc.names []) fr:=by
 have qz:∀ p ∈ sc.names,p.2=.free->∃ c,(cellsFrom (s.heap.objs.size+1) fK.names []).lookup p.1=some c:=fun p hp e=>xh (L.u0 p hp e)
 refine ⟨Rj qz,L.kind,fun y hy=>Dz _ _ y (L.own _ hy rfl) rfl,L.loc,DM _ _ qz (fun _ _ e=>nomatch e),fun y hy=>?_,fun j hj=>?_⟩
 ·have hk:sc.names.lookup y=some .free\/sc.names.lookup y=some .cell:=by
   rcases hy with hy | hy
   ·obtain ⟨k0,h1,h2⟩:=sE hy
    rcases h2 with h2 | ⟨_,h2⟩
    ·rw [<- h2] at h1;exact .inr h1
    ·rw [h2] at h1;exact .inl h1
   ·obtain ⟨k0,h1,h2⟩:=sE hy
    rcases h2 with h2 | ⟨h2,_⟩
    ·rw [<- h2] at h1;exact .inl h1
    ·cases h2
  exact hk.imp (fun q=>wO _ _ y (mem_of_lookup q)) mem_of_lookup
 ·obtain ⟨h1,h2⟩:=L.dD j hj
  have hm:=mem_of_lookup h1
  have h3:=L.u0 _ hm rfl
  refine ⟨N.getD j "",?_,?_,.inr (.inl h3),?_,wO _ _ _ hm⟩
  ·show N[j]?=some (N.getD j "")
   rw [List.getD_eq_getElem?_getD,List.getElem?_eq_getElem h2]
   rfl
  ·exact wm h1
  ·intro z
   have z':fK.names.lookup (N.getD j "")=some .local:=z
   have rF:fK.names.lookup (N.getD j "")=some .cell:=h3
   rw [rF] at z'
   cases z'
theorem lcs {sc:Scope}{fr:List Nat}(L:Rk N fK sc fr):jz ((jK CX P w K mg base N qual fK f cd A outer s H E).gT XE) sc (fB (cellsFrom (s.heap.objs.size+1) fK.names []) sc.names []) fr :=
 U1 ⟨L.kind,L.Ie,fun y hy e=>absurd e (L.Tn y hy),L.loc,L.u0,L.dD⟩
end
section
variable {X:Cx}{K:PySem.W.Frag}
theorem Rl (h:X.K=K):rm X (uz K):=h ▸ xS
theorem Ql (h:X.K=K):rm X (zh K):=h ▸ Q8
theorem Pt (h:X.K=K):du X (.builtin "len") (fun xs H Q=>∃ p ys,xs=[.ref p]/\(aN K H p ys\/bY K H p ys)/\Q (.int ys.length) H):=h ▸ NA
end
end L2
namespace L2
open PySem PySem.Spec PyProof.Rows
theorem ak.tup {K:PySem.W.Frag}{H H':Hp}{a:Addr}{xs:List V}(e:ak H H')(h:bY K H a xs):bY K H' a xs:=by
 rcases h with (h | ⟨o,h⟩) | h
 ·exact .inl (.inl (e _ _ h))
 ·exact .inl (.inr ⟨o,e _ _ h⟩)
 ·exact .inr h
theorem ak.upd {H H':Hp}{p:Addr}{o:HO}(e:ak H H')(hp:H p=none):ak H (L2.upd H' p o):=fun b u h=>by
 rw [bF (ik h hp)];exact e b u h
theorem ak.new {H:Hp}{p:Addr}{o:HO}(hp:H p=none):ak H (L2.upd H p o):=(ak.refl H).upd hp
theorem i6 {a:Int}(h0 : 0<=a)(h:a<2 ^ 60):a.natAbs<2 ^ 8000:=by
 have big:(2:Nat) ^ 60<2 ^ 8000:=Nat.pow_lt_pow_right (by decide) (by decide)
 omega
section
variable {P:Program}{w:World}{K:PySem.W.Frag}{mg:Str->Option Value}{base:Heap}
theorem bj.d {x qual:Str}{st:Stmt}{f:Addr}{fd:FuncData}(F:bj K x qual st f fd):oX K x qual st .none f fd:=⟨F.ex,F.kp⟩
end
end L2
namespace L2
open PySem PySem.Spec PyProof.Rows
section
variable {X:Cx}{tg:Expr}
theorem Qm {bs:List Bool}{its:List Value}(r:Vals (bs.map V.bl) its):PyProof.Rows.LSm.BoolsAre its bs:=by
 induction bs generalizing its with
 |nil=>cases r;exact .nil
 |cons y ys ih =>
  cases r with
  |cons r1 rr =>
   cases r1
   exact .cons _ (ih rr)
end
end L2
namespace L2
open PySem PySem.Spec PyProof.Rows
inductive Tr where
 |fz (d:Dv)
 |ow (ts:List Tr)
 |tp (ts:List Tr)
mutual
def Ow (K:PySem.W.Frag)(G H:Hp):Tr->V->List Addr->Prop
 | .fz d,v,fp=>fp=[]/\Hv K G d v
 | .ow ts,v,fp=>∃ a vs fq,v=.ref a/\H a=some (.lst vs)/\aE K G H ts vs fq/\fp=a::fq
 | .tp ts,v,fp=>∃ a vs fq,v=.ref a/\H a=some (.tup vs)/\aE K G H ts vs fq/\fp=a::fq
def aE (K:PySem.W.Frag)(G H:Hp):List Tr->List V->List Addr->Prop
 |[],vs,fp=>vs=[]/\fp=[]
 |t::ts,vs,fp=>∃ v r f1 f2,vs=v::r/\fp=f1++f2/\Ow K G H t v f1/\aE K G H ts r f2
end
mutual
def er:Tr->Dv
 | .fz d=>d
 | .ow ts=>.lst (eJ ts)
 | .tp ts=>.tup (eJ ts)
def eJ:List Tr->List Dv
 |[] => []
 |t::ts=>er t::eJ ts
end
theorem lL:∀ ts:List Tr,eJ ts=ts.map er
 |[] => rfl
 |t::ts=>by rw [eJ,lL ts];rfl
mutual
theorem Hv.mono {K:PySem.W.Frag}{G G':Hp}(e:ak G G'):∀ {d:Dv} {v:V},Hv K G d v->Hv K G' d v
 | .fl _,_,h=>h
 | .lst ds,_,⟨a,xs,h1,h2,h3⟩=>⟨a,xs,h1,e.seq h2,aD.mono e h3⟩
 | .tup ds,_,⟨a,xs,h1,h2,h3⟩=>⟨a,xs,h1,e.tup h2,aD.mono e h3⟩
theorem aD.mono {K:PySem.W.Frag}{G G':Hp}(e:ak G G'):∀ {ds:List Dv} {vs:List V},aD K G ds vs->aD K G' ds vs
 |[],_,h=>h
 |_::_,_,⟨x,r,h1,h2,h3⟩=>⟨x,r,h1,h2.mono e,aD.mono e h3⟩
end
mutual
theorem Ow.mono {K:PySem.W.Frag}{G G' H H':Hp}(e:ak G G')(e':ak H H'):∀ {t:Tr} {v:V} {fp:List Addr},Ow K G H t v fp->Ow K G' H' t v fp
 | .fz _,_,_,⟨h1,h2⟩=>⟨h1,h2.mono e⟩
 | .ow _,_,_,⟨a,vs,fq,h1,h2,h3,h4⟩=>⟨a,vs,fq,h1,e' _ _ h2,aE.mono e e' h3,h4⟩
 | .tp _,_,_,⟨a,vs,fq,h1,h2,h3,h4⟩=>⟨a,vs,fq,h1,e' _ _ h2,aE.mono e e' h3,h4⟩
theorem aE.mono {K:PySem.W.Frag}{G G' H H':Hp}(e:ak G G')(e':ak H H'):∀ {ts:List Tr} {vs:List V} {fp:List Addr},aE K G H ts vs fp->aE K G' H' ts vs fp
 |[],_,_,h=>h
 |_::_,_,_,⟨v,r,f1,f2,h1,h2,h3,h4⟩=>⟨v,r,f1,f2,h1,h2,h3.mono e e',aE.mono e e' h4⟩
end
mutual
theorem Ow.frame {K:PySem.W.Frag}{G H:Hp}{a:Addr}{o:HO}:∀ {t:Tr} {v:V} {fp:List Addr},Ow K G H t v fp->a ∉ fp->Ow K G (upd H a o) t v fp
 | .fz _,_,_,h,_=>h
 | .ow _,_,_,⟨b,vs,fq,h1,h2,h3,h4⟩,n=>by
  subst h4
  refine ⟨b,vs,fq,h1,?_,aE.frame h3 fun z=>n (.tail _ z),rfl⟩
  rw [bF fun z=>n (by rw [z];exact .head _)]
  exact h2
 | .tp _,_,_,⟨b,vs,fq,h1,h2,h3,h4⟩,n=>by
  subst h4
  refine ⟨b,vs,fq,h1,?_,aE.frame h3 fun z=>n (.tail _ z),rfl⟩
  rw [bF fun z=>n (by rw [z];exact .head _)]
  exact h2
theorem aE.frame {K:PySem.W.Frag}{G H:Hp}{a:Addr}{o:HO}:∀ {ts:List Tr} {vs:List V} {fp:List Addr},aE K G H ts vs fp->a ∉ fp->aE K G (upd H a o) ts vs fp
 |[],_,_,h,_=>h
 |_::_,_,_,⟨v,r,f1,f2,h1,h2,h3,h4⟩,n=>by
  subst h2
  exact ⟨v,r,f1,f2,h1,rfl,h3.frame fun z=>n (List.mem_append_left _ z),aE.frame h4 fun z=>n (List.mem_append_right _ z)⟩
end
mutual
theorem Ow.there {K:PySem.W.Frag}{G H:Hp}:∀ {t:Tr} {v:V} {fp:List Addr},Ow K G H t v fp->∀ a ∈ fp,∃ o,H a=some o
 | .fz _,_,_,⟨h,_⟩,a,ha=>by subst h;cases ha
 | .ow _,_,_,⟨b,vs,fq,h1,h2,h3,h4⟩,a,ha=>by
  subst h4
  rcases List.mem_cons.mp ha with rfl | ha
  ·exact ⟨_,h2⟩
  ·exact aE.there h3 a ha
 | .tp _,_,_,⟨b,vs,fq,h1,h2,h3,h4⟩,a,ha=>by
  subst h4
  rcases List.mem_cons.mp ha with rfl | ha
  ·exact ⟨_,h2⟩
  ·exact aE.there h3 a ha
theorem aE.there {K:PySem.W.Frag}{G H:Hp}:∀ {ts:List Tr} {vs:List V} {fp:List Addr},aE K G H ts vs fp->∀ a ∈ fp,∃ o,H a=some o
 |[],_,_,⟨_,h⟩,a,ha=>by subst h;cases ha
 |_::_,_,_,⟨v,r,f1,f2,h1,h2,h3,h4⟩,a,ha=>by
  subst h2
  rcases List.mem_append.mp ha with ha | ha
  ·exact h3.there a ha
  ·exact aE.there h4 a ha
end
mutual
theorem Ow.hv {K:PySem.W.Frag}{G H G':Hp}(e:ak G G'):∀ {t:Tr} {v:V} {fp:List Addr},Ow K G H t v fp->(∀ a ∈ fp,G' a=H a)->Hv K G' (er t) v
 | .fz _,_,_,⟨_,h⟩,_=>h.mono e
 | .ow _,_,_,⟨b,vs,fq,h1,h2,h3,h4⟩,q=>by
  subst h4
  exact ⟨b,vs,h1,aN.of ((q b (.head _)).trans h2),aE.hv e h3 fun a ha=>q a (.tail _ ha)⟩
 | .tp _,_,_,⟨b,vs,fq,h1,h2,h3,h4⟩,q=>by
  subst h4
  exact ⟨b,vs,h1,bY.of ((q b (.head _)).trans h2),aE.hv e h3 fun a ha=>q a (.tail _ ha)⟩
theorem aE.hv {K:PySem.W.Frag}{G H G':Hp}(e:ak G G'):∀ {ts:List Tr} {vs:List V} {fp:List Addr},aE K G H ts vs fp->(∀ a ∈ fp,G' a=H a)->aD K G' (eJ ts) vs
 |[],_,_,⟨h,_⟩,_=>h
 |_::_,_,_,⟨v,r,f1,f2,h1,h2,h3,h4⟩,q=>by
  subst h2
  exact ⟨v,r,h1,h3.hv e fun a ha=>q a (List.mem_append_left _ ha),aE.hv e h4 fun a ha=>q a (List.mem_append_right _ ha)⟩
end
theorem aE.length {K:PySem.W.Frag}{G H:Hp}:∀ {ts:List Tr} {vs:List V} {fp:List Addr},aE K G H ts vs fp->ts.length=vs.length
 |[],_,_,⟨h,_⟩=>by subst h;rfl
 |_::_,_,_,⟨v,r,f1,f2,h1,h2,h3,h4⟩=>by subst h1;rw [List.length_cons,List.length_cons,aE.length h4]
theorem aE.append {K:PySem.W.Frag}{G H:Hp}:∀ {ts us:List Tr} {vs ws:List V} {f1 f2:List Addr},aE K G H ts vs f1->aE K G H us ws f2->aE K G H (ts++us) (vs++ws) (f1++f2)
 |[],us,_,ws,_,f2,⟨h,h'⟩,q=>by subst h h';exact q
 |_::_,us,_,ws,_,f2,⟨v,r,g1,g2,h1,h2,h3,h4⟩,q=>by
  subst h1 h2
  exact ⟨v,r++ws,g1,g2++f2,rfl,by rw [List.append_assoc],h3,aE.append h4 q⟩
theorem aD.hG {K:PySem.W.Frag}{G H:Hp}:∀ {ds:List Dv} {vs:List V},aD K G ds vs->aE K G H (ds.map .fz) vs []
 |[],_,h=>⟨h,rfl⟩
 |_::_,_,⟨x,r,h1,h2,h3⟩=>⟨x,r,[],[],h1,rfl,⟨rfl,h2⟩,aD.hG h3⟩
structure Step (G H G' H':Hp):Prop where
 g:ak G G'
 h:ak H H'
 s:ak G' H'
 n:∀ a,G a=none->G' a ≠ none->H a=none
theorem Step.refl {G H:Hp}(s:ak G H):Step G H G H:=⟨ak.refl _,ak.refl _,s,fun a h h'=>absurd h h'⟩
theorem Step.trans {G H G1 H1 G2 H2:Hp}(a:Step G H G1 H1)(b:Step G1 H1 G2 H2):Step G H G2 H2 :=
 ⟨a.g.trans b.g,a.h.trans b.h,b.s,fun x h h'=>by
  cases q:G1 x with
  |none=>exact a.h.free (b.n x q h')
  |some o=>exact a.n x h (by rw [q];exact fun z=>nomatch z)⟩
theorem ak.U2 {G H:Hp}{p:Addr}{o:HO}(s:ak G H):ak (L2.upd G p o) (L2.upd H p o):=fun b u h=>by
 unfold L2.upd at h ⊢
 split
 ·rename_i e;rw [if_pos e] at h;exact h
 ·rename_i e;rw [if_neg e] at h;exact s b u h
theorem Step.new {G H:Hp}{p:Addr}{o:HO}(s:ak G H)(hp:H p=none):Step G H (upd G p o) (upd H p o) :=
 ⟨ak.new (s.free hp),ak.new hp,s.U2,fun a h h'=>by
  by_cases e:a=p
  ·subst e;exact hp
  ·rw [bF e] at h';exact absurd h h'⟩
theorem Step.kG {G H:Hp}{p:Addr}{o:HO}(s:ak G H)(hp:H p=none):Step G H G (upd H p o) :=
 ⟨ak.refl _,ak.new hp,s.trans (ak.new hp),fun a h h'=>absurd h h'⟩
structure Nw (H G':Hp) (fq:List Addr):Prop where
 n:∀ a ∈ fq,H a=none
 g:∀ a ∈ fq,G' a=none
 d:fq.Nodup
theorem Nw.nil {H G:Hp}:Nw H G []:=⟨fun _ h=>(nomatch h),fun _ h=>(nomatch h),.nil⟩
def Kv (K:PySem.W.Frag)(G H:Hp)(t:Tr)(Q:VK):Prop:=∀ v G' H' fq,Step G H G' H'->Ow K G' H' t v fq->Nw H G' fq->Q v H'
theorem Kv.step {K:PySem.W.Frag}{G H G1 H1:Hp}{t:Tr}{Q:VK}(k:Kv K G H t Q)(e:Step G H G1 H1):Kv K G1 H1 t Q:=fun v G' H' fq st o w =>
 k v G' H' fq (e.trans st) o ⟨fun a ha=>e.h.free (w.n a ha),w.g,w.d⟩
def eF (G H:Hp)(fq:List Addr):Hp:=fun a=>if a ∈ fq then H a else G a
theorem jA {G H:Hp}{fq:List Addr}{a:Addr}(h:a ∈ fq):eF G H fq a=H a:=by unfold eF;rw [if_pos h]
theorem pT {G H:Hp}{fq:List Addr}{a:Addr}(h:a ∉ fq):eF G H fq a=G a:=by unfold eF;rw [if_neg h]
theorem jw {G H:Hp}{fq:List Addr}(h:∀ a ∈ fq,G a=none):ak G (eF G H fq):=fun b o e=>by
 by_cases q:b ∈ fq
 ·rw [h b q] at e;cases e
 ·rw [pT q];exact e
theorem oi {G H:Hp}{fq:List Addr}(s:ak G H):ak (eF G H fq) H:=fun b o e=>by
 by_cases q:b ∈ fq
 ·rw [jA q] at e;exact e
 ·rw [pT q] at e;exact s b o e
theorem Step.dh {G H G' H':Hp}{fq:List Addr}(e:Step G H G' H')(w:Nw H G' fq):Step G H (eF G' H' fq) H' :=
 ⟨e.g.trans (jw w.g),e.h,oi e.s,fun a h h'=>by
  by_cases q:a ∈ fq
  ·exact w.n a q
  ·rw [pT q] at h';exact e.n a h h'⟩
structure aO (ι:Type) where
 cx : ι->Cx
 P:Program
 w:World
 K:PySem.W.Frag
 mg:Str->Option Value
 base:Heap
 room:Nat
 hP:∀ i,(cx i).prog=P
 hw:∀ i,(cx i).w=w
 hK:∀ i,(cx i).K=K
 hm:∀ i,(cx i).mg=mg
 hb:∀ i,(cx i).base=base
 hr:∀ i,dw room (cx i).A
 calm:∀ i,(cx i).calm=true
abbrev En:=List (Option Tr)
def bZ (K:PySem.W.Frag)(G:Hp)(ρ:En)(σ:St):Prop:=∀ (j:Nat) (d:Dv),ρ[j]?=some (some (Tr.fz d))->∃ v,σ[j]?=some (some v)/\Hv K G d v
theorem bZ.mono {K:PySem.W.Frag}{G G':Hp}{ρ:En}{σ:St}(e:ak G G')(r:bZ K G ρ σ):bZ K G' ρ σ:=fun j d h=>by
 obtain ⟨v,h1,h2⟩:=r j d h
 exact ⟨v,h1,h2.mono e⟩
section
variable {ι:Type}
def Ev (F:aO ι)(e:Expr)(ρ:En)(t:Tr):Prop:=∃ τ:TE,(∀ i,PE (F.cx i) e τ)/\∀ σ G H Q,ak G H->bZ F.K G ρ σ->Kv F.K G H t Q -> τ σ H Q
def Et (F:aO ι)(e:Expr)(ρ:En)(b:Bool):Prop:=∃ τ:TT,(∀ i,PT (F.cx i) e τ)/\∀ σ G H Q,ak G H->bZ F.K G ρ σ->(∀ G' H',Step G H G' H'->Q b H') -> τ σ H Q
def gJ (F:aO ι)(es:List Expr)(ρ:En)(ts:List Tr):Prop:=∃ τ:TA,(∀ i,PA (F.cx i) es τ)/\∀ σ G H Q,ak G H->bZ F.K G ρ σ ->
 (∀ vs G' H' fq,Step G H G' H'->aE F.K G' H' ts vs fq->Nw H G' fq->Q vs H') -> τ σ H Q
variable {F:aO ι}{e a b:Expr}{es:List Expr}{ρ:En}{t ta tb:Tr}{ts:List Tr}
theorem Ev.use (h:Ev F e ρ t):∃ τ:TE,(∀ i,PE (F.cx i) e τ)/\∀ σ G H (Q:VK),ak G H->bZ F.K G ρ σ->(∀ v G' H',Step G H G' H'->Hv F.K G' (er t) v->Q v H') -> τ σ H Q:=by
 obtain ⟨τ,p,q⟩:=h
 refine ⟨τ,p,fun σ G H Q s r k=>q σ G H Q s r fun v G' H' fq st o w=>?_⟩
 exact k v (eF G' H' fq) H' (st.dh w) (o.hv (jw w.g) fun a ha=>jA ha)
theorem Ev.fz (h:Ev F e ρ t):Ev F e ρ (.fz (er t)):=by
 obtain ⟨τ,p,q⟩:=h.use
 exact ⟨τ,p,fun σ G H Q s r k=>q σ G H Q s r fun v G' H' st hv=>k v G' H' [] st ⟨rfl,hv⟩ .nil⟩
theorem Ev.as {d:Dv}(h:Ev F e ρ t)(ed:er t=d):Ev F e ρ (.fz d):=ed ▸ h.fz
theorem gJ.use (h:gJ F es ρ ts):∃ τ:TA,(∀ i,PA (F.cx i) es τ)/\∀ σ G H (Q:List V->Hp->Prop),ak G H->bZ F.K G ρ σ->(∀ vs G' H',Step G H G' H'->aD F.K G' (eJ ts) vs->Q vs H') -> τ σ H Q:=by
 obtain ⟨τ,p,q⟩:=h
 refine ⟨τ,p,fun σ G H Q s r k=>q σ G H Q s r fun v G' H' fq st o w=>?_⟩
 exact k v (eF G' H' fq) H' (st.dh w) (o.hv (jw w.g) fun a ha=>jA ha)
theorem aj:gJ F [] ρ []:=⟨eA,fun i=>dN,fun σ G H Q s r k=>k [] G H [] (.refl s) ⟨rfl,rfl⟩ .nil⟩
theorem Nw.app {H G1 H1 G2:Hp}{f1 f2:List Addr}(w1:Nw H G1 f1)(w2:Nw H1 G2 f2)(hh:ak H H1)(th:∀ a ∈ f1,∃ o,H1 a=some o)(hg:∀ a,G1 a=none->G2 a ≠ none->H1 a=none):Nw H G2 (f1++f2) :=
 ⟨fun a ha=>(List.mem_append.mp ha).elim (w1.n a) fun z=>hh.free (w2.n a z),fun a ha=>(List.mem_append.mp ha).elim (fun z=>by
   cases q:G2 a with
   |none=>rfl
   |some o =>
    obtain ⟨u,hu⟩:=th a z
    have:=hg a (w1.g a z) (by rw [q];exact fun z=>nomatch z)
    rw [hu] at this;cases this) (w2.g a),
  List.nodup_append.mpr ⟨w1.d,w2.d,fun a ha b hb e=>by
   subst e
   obtain ⟨u,hu⟩:=th a ha
   rw [w2.n a hb] at hu;cases hu⟩⟩
theorem ag (ha:Ev F e ρ t)(hr:gJ F es ρ ts)(hs:∀ i,starEach (e::es) (F.cx i).env=(false,eval e (F.cx i).env)::starEach es (F.cx i).env:=by intro _;rfl):gJ F (e::es) ρ (t::ts):=by
 obtain ⟨τ,p,q⟩:=ha
 obtain ⟨bV,p',q'⟩:=hr
 refine ⟨df τ bV,fun i=>cX (p i) (p' i) (hs i),fun σ G H Q s r k=>?_⟩
 refine q σ G H _ s r fun v G1 H1 f1 s1 o1 w1=>q' σ G1 H1 _ s1.s (r.mono s1.g) fun vs G2 H2 f2 s2 o2 w2=>?_
 exact k (v::vs) G2 H2 (f1++f2) (s1.trans s2) ⟨v,vs,f1,f2,rfl,rfl,o1.mono s2.g s2.h,o2⟩ (w1.app w2 s1.h (fun a ha=>o1.there a ha) s2.n)
end
end L2
namespace L2
open PySem PySem.Spec PyProof.Rows
abbrev di (n:Int):Dv:=.fl (.int n)
abbrev db (b:Bool):Dv:=.fl (.bl b)
abbrev dn:Dv:=.fl .aS
abbrev ds (x:Str):Dv:=.fl (.str x)
abbrev dis (ns:List Int):Dv:=.lst (ns.map di)
abbrev ti (n:Int):Tr:=.fz (di n)
abbrev tb (b:Bool):Tr:=.fz (db b)
abbrev tn:Tr:=.fz dn
abbrev tx (x:Str):Tr:=.fz (ds x)
theorem Kv.sc {K:PySem.W.Frag}{G H:Hp}{v:V}{Q:VK}(k:Kv K G H (.fz (.fl v)) Q)(s:ak G H)(f:fQ v=true):Q v H:=k v G H [] (.refl s) ⟨rfl,rfl,f⟩ .nil
theorem Kv.dat {K:PySem.W.Frag}{G H:Hp}{d:Dv}{v:V}{Q:VK}(k:Kv K G H (.fz d) Q)(s:ak G H)(h:Hv K G d v):Q v H:=k v G H [] (.refl s) ⟨rfl,h⟩ .nil
theorem Kv.lst {K:PySem.W.Frag}{G H:Hp}{ts:List Tr}{vs:List V}{Q:VK}(k:Kv K G H (.ow ts) Q)(s:ak G H)(h:aE K G H ts vs []){p:Addr}(hp:H p=none):Q (.ref p) (upd H p (.lst vs)) :=
 k (.ref p) G _ [p] (.kG s hp) ⟨p,vs,[],rfl,d8,h.mono (ak.refl _) (ak.new hp),rfl⟩ ⟨fun a ha=>by rw [List.mem_singleton.mp ha];exact hp,fun a ha=>by rw [List.mem_singleton.mp ha];exact s.free hp,by simp⟩
theorem Kv.tup {K:PySem.W.Frag}{G H:Hp}{ds:List Dv}{vs:List V}{Q:VK}(k:Kv K G H (.fz (.tup ds)) Q)(s:ak G H)(h:aD K G ds vs){p:Addr}(hp:H p=none):Q (.ref p) (upd H p (.tup vs)) :=
 k (.ref p) (upd G p (.tup vs)) _ [] (.new s hp) ⟨rfl,p,vs,rfl,bY.of d8,h.mono (ak.new (s.free hp))⟩ .nil
theorem aB {K:PySem.W.Frag}{G:Hp}{v x:V}(h:Hv K G (.fl v) x):x=v:=h.1
section
variable {ι:Type}{F:aO ι}{e a b c:Expr}{es:List Expr}{ρ:En}{t ta bA:Tr}{ts:List Tr}{pos:Pos}
theorem ae (j:Nat){d:Dv}{x:Str}(h : ρ[j]?=some (some (.fz d)))(hN:∀ i,(F.cx i).N[j]?=some x:=by intro _;rfl)
  (hv:∀ i,fU (F.cx i).env.scope x:=by intro _;first | exact Or.inl rfl | exact Or.inr (Or.inl rfl) | exact Or.inr (Or.inr rfl)) (hd:(x==("__debug__" : Str))=false:=by decide) (hc:(x==("__classdict__" : Str))=false:=by decide):Ev F (.Name x pos) ρ (.fz d) :=
 ⟨eQ j,fun i=>jb (hN i) (hv i) hd hc,fun σ G H Q s r k=>by
  obtain ⟨v,h1,h2⟩:=r j d h
  exact ⟨v,h1,k.dat s h2⟩⟩
theorem ah {n:Int}{j:Nat}:Ev F (.Constant (.int n) j pos) ρ (ti n):=⟨_,fun i=>xQ,fun σ G H Q s r k=>k.sc s rfl⟩
theorem Ui {n:Bool}{j:Nat}:Ev F (.Constant (.bool n) j pos) ρ (tb n):=⟨_,fun i=>T3,fun σ G H Q s r k=>k.sc s rfl⟩
theorem jE {n:Str}{j:Nat}:Ev F (.Constant (.str n) j pos) ρ (tx n):=⟨_,fun i=>FU,fun σ G H Q s r k=>k.sc s rfl⟩
theorem xE {x:Str} {v:V} {u:Value} (hm:F.mg x=some u) (r:RelV v u) (f:fQ v=true) (hg:∀ i,Gl (F.cx i) x:=by intro _;rfl) (hd:(x==("__debug__" : Str))=false:=by decide):Ev F (.Name x pos) ρ (.fz (.fl v)) :=
 ⟨tC v,fun i=>QW (hg i) ((F.hm i).symm ▸ hm) r hd,fun σ G H Q s _ k=>k.sc s f⟩
theorem kr {op:Operator}{r:R2}(ho:∀ i,cu (F.cx i) (binaryOp op) r)(ha:Ev F a ρ ta)(hb:Ev F b ρ bA)
  (h:∀ G H x y Q,ak G H->Hv F.K G (er ta) x->Hv F.K G (er bA) y->Kv F.K G H t Q->r x y H Q):Ev F (.BinOp a op b pos) ρ t:=by
 obtain ⟨τ,p,q⟩:=ha.use
 obtain ⟨bV,p',q'⟩:=hb.use
 refine ⟨jk r τ bV,fun i=>T4 (ho i) (p i) (p' i),fun σ G H Q s rr k=>?_⟩
 refine q σ G H _ s rr fun x G1 H1 s1 hx=>q' σ G1 H1 _ s1.s (rr.mono s1.g) fun y G2 H2 s2 hy=>?_
 exact h G2 H2 x y Q s2.s (hx.mono s2.g) hy (k.step (s1.trans s2))
theorem d9 {i j:Int}(ha:Ev F a ρ (ti i))(hb:Ev F b ρ (ti j)):Ev F (.BinOp a .Add b pos) ρ (ti (i+j)):=kr (fun _=>S1) ha hb fun G H x y Q s hx hy k=>⟨i,j,aB hx,aB hy,k.sc s rfl⟩
theorem tV {i j:Int}(ha:Ev F a ρ (ti i))(hb:Ev F b ρ (ti j)):Ev F (.BinOp a .Sub b pos) ρ (ti (i-j)):=kr (fun _=>S2) ha hb fun G H x y Q s hx hy k=>⟨i,j,aB hx,aB hy,k.sc s rfl⟩
theorem ku {i j:Int}(ha:Ev F a ρ (ti i))(hb:Ev F b ρ (ti j))(hc:Ib i j):Ev F (.BinOp a .Mult b pos) ρ (ti (i*j)):=kr (fun _=>Rf) ha hb fun G H x y Q s hx hy k=>⟨i,j,aB hx,aB hy,hc,k.sc s rfl⟩
theorem gg {i j:Int}(ha:Ev F a ρ (ti i))(hb:Ev F b ρ (ti j))(hc:qA i j):Ev F (.BinOp a .FloorDiv b pos) ρ (ti (i / j)):=kr (fun _=>Qi) ha hb fun G H x y Q s hx hy k=>⟨i,j,aB hx,aB hy,hc,k.sc s rfl⟩
theorem cH {i j:Int}(ha:Ev F a ρ (ti i))(hb:Ev F b ρ (ti j))(hc : 0<j):Ev F (.BinOp a .Mod b pos) ρ (ti (i % j)):=kr (fun _=>S4) ha hb fun G H x y Q s hx hy k=>⟨i,j,aB hx,aB hy,hc,k.sc s rfl⟩
theorem To {i j:Int}(ha:Ev F a ρ (ti i))(hb:Ev F b ρ (ti j))(hc:IV i j):Ev F (.BinOp a .Pow b pos) ρ (ti (i ^ j.toNat)):=kr (fun _=>S5) ha hb fun G H x y Q s hx hy k=>⟨i,j,aB hx,aB hy,hc,k.sc s rfl⟩
theorem Gs {i:Int}(ha:Ev F a ρ (ti i)):Ev F (.UnaryOp .USub a pos) ρ (ti (-i)):=by
 obtain ⟨τ,p,q⟩:=ha.use
 exact ⟨_,fun i=>T5 S6 (p i),fun σ G H Q s rr k=>q σ G H _ s rr fun x G1 H1 s1 hx=>⟨i,aB hx,(k.step s1).sc s1.s rfl⟩⟩
theorem qp {xs ys:List Dv}(ha:Ev F a ρ ta)(hb:Ev F b ρ bA)(ea:er ta=.lst xs)(eb:er bA=.lst ys)(hz:xs.length+ys.length<=sizeLine):Ev F (.BinOp a .Add b pos) ρ (.ow ((xs++ys).map .fz)) :=
 kr (r:=Ic F.K) (fun i=>F.hK i ▸ Ri) ha hb fun G H x y Q s hx hy k=>by
  rw [ea] at hx
  rw [eb] at hy
  obtain ⟨l,vs,rfl,h1,h2⟩:=hx
  obtain ⟨l',ws,rfl,h3,h4⟩:=hy
  refine ⟨l,l',vs,ws,rfl,rfl,s.seq h1,s.seq h3,by rw [<- h2.length,<- h4.length];exact hz,fun p hp=>?_⟩
  refine k.lst s ?_ hp
  rw [List.map_append]
  exact h2.hG.append h4.hG
theorem oG {op:CmpOp}{r:R2}{c:Bool}(ho:∀ i,cu (F.cx i) (compareOp op) r)(ha:Ev F a ρ ta)(hb:Ev F b ρ bA)
  (h:∀ G H x y (Q:VK),ak G H->Hv F.K G (er ta) x->Hv F.K G (er bA) y->Q (.bl c) H->r x y H Q) (hm:behindInMarks op b=false):Ev F (.Compare a [op] [b] pos) ρ (tb c):=by
 obtain ⟨τ,p,q⟩:=ha.use
 obtain ⟨bV,p',q'⟩:=hb.use
 refine ⟨jk r τ bV,fun i=>Q3 (ho i) (p i) (p' i) hm,fun σ G H Q s rr k=>?_⟩
 refine q σ G H _ s rr fun x G1 H1 s1 hx=>q' σ G1 H1 _ s1.s (rr.mono s1.g) fun y G2 H2 s2 hy=>?_
 exact h G2 H2 x y Q s2.s (hx.mono s2.g) hy ((k.step (s1.trans s2)).sc s2.s rfl)
theorem iq {op:CmpOp}{r:R2}{c:Bool}(ho:∀ i,cu (F.cx i) (compareOp op) r)(ha:Ev F a ρ ta)(hb:Ev F b ρ bA)
  (h:∀ G H x y (Q:VK),ak G H->Hv F.K G (er ta) x->Hv F.K G (er bA) y->Q (.bl c) H->r x y H Q) (hm:behindInMarks op b=false):Et F (.Compare a [op] [b] pos) ρ c:=by
 obtain ⟨τ,p,q⟩:=ha.use
 obtain ⟨bV,p',q'⟩:=hb.use
 refine ⟨HY (jk r τ bV),fun i=>Q4 (ho i) (p i) (p' i) hm,fun σ G H Q s rr k=>?_⟩
 refine q σ G H _ s rr fun x G1 H1 s1 hx=>q' σ G1 H1 _ s1.s (rr.mono s1.g) fun y G2 H2 s2 hy=>?_
 exact h G2 H2 x y _ s2.s (hx.mono s2.g) hy ⟨c,rfl,k G2 H2 (s1.trans s2)⟩
theorem jG {i j:Int}(ha:Ev F a ρ (ti i))(hb:Ev F b ρ (ti j)):Et F (.Compare a [.Lt] [b] pos) ρ (decide (i<j)):=iq (fun _=>HW) ha hb (fun G H x y Q s hx hy k=>⟨i,j,aB hx,aB hy,k⟩) (fN _)
theorem jH {i j:Int}(ha:Ev F a ρ (ti i))(hb:Ev F b ρ (ti j)):Et F (.Compare a [.Gt] [b] pos) ρ (decide (j<i)):=iq (fun _=>HX) ha hb (fun G H x y Q s hx hy k=>⟨i,j,aB hx,aB hy,k⟩) (fN _)
theorem fD {i j:Int}(ha:Ev F a ρ (ti i))(hb:Ev F b ρ (ti j)):Et F (.Compare a [.Eq] [b] pos) ρ (decide (i=j)):=iq (fun _=>ud) ha hb (fun G H x y Q s hx hy k=>by
 rw [aB hx,aB hy];exact ⟨rfl,by simpa using k⟩) (fN _)
theorem lY {i j:Int}(ha:Ev F a ρ (ti i))(hb:Ev F b ρ (ti j)):Et F (.Compare a [.NotEq] [b] pos) ρ (!decide (i=j)):=iq (fun _=>HV) ha hb (fun G H x y Q s hx hy k=>by
 rw [aB hx,aB hy];exact ⟨rfl,by simpa using k⟩) (fN _)
theorem yu {i j:Int}(ha:Ev F a ρ (ti i))(hb:Ev F b ρ (ti j)):Ev F (.Compare a [.Lt] [b] pos) ρ (tb (decide (i<j))):=oG (fun _=>HW) ha hb (fun G H x y Q s hx hy k=>⟨i,j,aB hx,aB hy,k⟩) (fN _)
theorem Uj {i j:Int}(ha:Ev F a ρ (ti i))(hb:Ev F b ρ (ti j)):Ev F (.Compare a [.Gt] [b] pos) ρ (tb (decide (j<i))):=oG (fun _=>HX) ha hb (fun G H x y Q s hx hy k=>⟨i,j,aB hx,aB hy,k⟩) (fN _)
theorem Uk {i j:Int}(ha:Ev F a ρ (ti i))(hb:Ev F b ρ (ti j)):Ev F (.Compare a [.GtE] [b] pos) ρ (tb (decide (j<=i))):=oG (fun _=>T6) ha hb (fun G H x y Q s hx hy k=>⟨i,j,aB hx,aB hy,k⟩) (fN _)
theorem Ig {i j:Int}(ha:Ev F a ρ (ti i))(hb:Ev F b ρ (ti j)):Ev F (.Compare a [.Eq] [b] pos) ρ (tb (decide (i=j))):=oG (fun _=>ud) ha hb (fun G H x y Q s hx hy k=>by
 rw [aB hx,aB hy];exact ⟨rfl,by simpa using k⟩) (fN _)
def x3 (d e:Dv):Prop:=(∃ xs ys,d=.lst xs/\e=.lst ys)\/∃ xs ys,d=.tup xs/\e=.tup ys
theorem x4 (ha:Ev F a ρ ta)(hb:Ev F b ρ bA)(hk:x3 (er ta) (er bA))(hd:cF (er ta)<=50):Et F (.Compare a [.Eq] [b] pos) ρ (bL (er ta) (er bA)) :=
 iq (r:=qN F.K false) (fun i=>F.hK i ▸ Gq (F.hr i).units) ha hb (fun G H x y Q s hx hy k=>⟨_,_,hk,hx.mono s,hy.mono s,hd,k⟩) (fN _)
theorem fO (ha:Ev F a ρ ta)(hb:Ev F b ρ bA)(hk:x3 (er ta) (er bA))(hd:cF (er ta)<=50):Et F (.Compare a [.NotEq] [b] pos) ρ (!bL (er ta) (er bA)) :=
 iq (r:=qN F.K true) (fun i=>F.hK i ▸ Te (F.hr i).units) ha hb (fun G H x y Q s hx hy k=>⟨_,_,hk,hx.mono s,hy.mono s,hd,k⟩) (fN _)
theorem Tp (ha:Ev F a ρ ta)(hb:Ev F b ρ bA)(hk:x3 (er ta) (er bA))(hd:cF (er ta)<=50):Ev F (.Compare a [.Eq] [b] pos) ρ (tb (bL (er ta) (er bA))) :=
 oG (r:=qN F.K false) (fun i=>F.hK i ▸ Gq (F.hr i).units) ha hb (fun G H x y Q s hx hy k=>⟨_,_,hk,hx.mono s,hy.mono s,hd,k⟩) (fN _)
theorem lC {K:PySem.W.Frag}{G:Hp}:∀ {ns:List Int} {vs:List V},aD K G (ns.map di) vs->vs=ns.map V.int
 |[],_,h=>h
 |_::_,_,⟨x,r,h1,h2,h3⟩=>by subst h1;rw [aB h2,lC h3];rfl
theorem lD {K:PySem.W.Frag}{G:Hp}:∀ {ns:List Int},aD K G (ns.map di) (ns.map V.int)
 |[] => rfl
 |_::_=>⟨_,_,rfl,⟨rfl,rfl⟩,lD⟩
theorem Eb (n:Int):∀ ns:List Int,uV (.int n) (ns.map V.int)=ns.any fun m=>m==n
 |[] => rfl
 |m::ms=>by
  show (fX (.int m) (.int n) || uV (.int n) (ms.map V.int))=_
  rw [Eb n ms];rfl
theorem Pu (ns:List Int):(ns.map V.int).all fQ=true:=by rw [List.all_map];exact List.all_eq_true.mpr fun _ _=>rfl
theorem ND (n:Int)(ns:List Int):(ns.any fun m=>m==n)=ns.contains n:=by
 induction ns with
 |nil=>rfl
 |cons m ms ih=>rw [List.any_cons,ih,List.contains_cons];congr 1;exact Bool.beq_comm
theorem Gu {n:Int}{ns:List Int}{neg:Bool}(eb:er bA=dis ns){G H:Hp}{x y:V}{Q:VK}(s:ak G H)(hx:Hv F.K G (er (ti n)) x)(hy:Hv F.K G (er bA) y)(k:Q (.bl (if neg then !ns.contains n else ns.contains n)) H):rp F.K neg x y H Q:=by
 rw [eb] at hy
 obtain ⟨l,vs,rfl,h1,h2⟩:=hy
 have:=lC h2
 subst this
 rw [aB hx]
 refine ⟨l,_,rfl,.inl (s.seq h1),rfl,Pu ns,?_⟩
 rw [Eb,ND]
 exact k
theorem yv {n:Int}{ns:List Int}(ha:Ev F a ρ (ti n))(hb:Ev F b ρ bA)(eb:er bA=dis ns)(hm:behindInMarks .In b=false):Et F (.Compare a [.In] [b] pos) ρ (ns.contains n) :=
 iq (r:=rp F.K false) (fun i=>F.hK i ▸ Pn) ha hb (fun G H x y Q s hx hy k=>Gu eb s hx hy k) hm
theorem oj {n:Int}{ns:List Int}(ha:Ev F a ρ (ti n))(hb:Ev F b ρ bA)(eb:er bA=dis ns)(hm:behindInMarks .NotIn b=false):Et F (.Compare a [.NotIn] [b] pos) ρ (!ns.contains n) :=
 iq (r:=rp F.K true) (fun i=>F.hK i ▸ Nz) ha hb (fun G H x y Q s hx hy k=>Gu eb s hx hy k) hm
theorem eK {c:Bool}(h:Ev F e ρ (tb c))(he:∀ i whole,isTrue e (F.cx i).env whole=(do let v <- whole;standAt e.pos;holding [v] (truthy v)):=by intro _ _;rfl):Et F e ρ c:=by
 obtain ⟨τ,p,q⟩:=h
 exact ⟨tB τ,fun i=>SR (p i) (he i),fun σ G H Q s r k=>q σ G H _ s r fun v G' H' fq st o w=>⟨c,aB o.2,k G' H' st⟩⟩
def Ew (F:aO ι)(e:Expr)(ρ:En)(b:Bool):Prop:=∃ τ:TT,(∀ i,PW (F.cx i) e τ)/\∀ σ G H Q,ak G H->bZ F.K G ρ σ->(∀ G' H',Step G H G' H'->Q b H') -> τ σ H Q
theorem Ew.et {p:Bool}(h:Ew F e ρ p):Et F e ρ p:=let ⟨τ,a,b⟩:=h;⟨τ,fun i=>(a i).pt,b⟩
theorem Ec {X:Cx}:PW X e (fun _ _ _=>False):=fun _ _ _ _ _ _ _ h=>h.elim
theorem lM {p:Bool}(h:Et F a ρ p):Ew F (.BoolOp .And [a] pos) ρ p:=let ⟨τ,x,y⟩:=h;⟨τ,fun i=>QY (x i),y⟩
theorem iu {p:Bool}(h:Et F a ρ p):Ew F (.BoolOp .Or [a] pos) ρ p:=let ⟨τ,x,y⟩:=h;⟨τ,fun i=>SU (x i),y⟩
theorem lQ {p q:Bool}{rest:List Expr}(h:Et F a ρ p)(h2:p=true->Ew F (.BoolOp .And (b::rest) pos) ρ q):Ew F (.BoolOp .And (a::b::rest) pos) ρ (p&&q):=by
 obtain ⟨τ,x,y⟩:=h
 cases p with
 |false=>exact ⟨yY τ _,fun i=>FV (x i) Ec,fun σ G H Q s r k=>y σ G H _ s r fun G' H' st=>mj (k G' H' st)⟩
 |true =>
  obtain ⟨bV,x',y'⟩:=h2 rfl
  exact ⟨yY τ bV,fun i=>FV (x i) (x' i),fun σ G H Q s r k=>y σ G H _ s r fun G1 H1 s1=>mn (y' σ G1 H1 _ s1.s (r.mono s1.g) fun G2 H2 s2=>k G2 H2 (s1.trans s2))⟩
theorem fE {p q:Bool}{rest:List Expr}(h:Et F a ρ p)(h2:p=false->Ew F (.BoolOp .Or (b::rest) pos) ρ q):Ew F (.BoolOp .Or (a::b::rest) pos) ρ (p || q):=by
 obtain ⟨τ,x,y⟩:=h
 cases p with
 |true=>exact ⟨zJ τ _,fun i=>HL (x i) Ec,fun σ G H Q s r k=>y σ G H _ s r fun G' H' st=>mn (k G' H' st)⟩
 |false =>
  obtain ⟨bV,x',y'⟩:=h2 rfl
  exact ⟨zJ τ bV,fun i=>HL (x i) (x' i),fun σ G H Q s r k=>y σ G H _ s r fun G1 H1 s1=>mj (y' σ G1 H1 _ s1.s (r.mono s1.g) fun G2 H2 s2=>k G2 H2 (s1.trans s2))⟩
theorem gh {p:Bool}(h:Et F a ρ p):Et F (.UnaryOp .Not a pos) ρ (!p):=by
 obtain ⟨τ,x,y⟩:=h
 exact ⟨IM τ,fun i=>SV (x i),fun σ G H Q s r k=>y σ G H _ s r k⟩
theorem Ed {X:Cx}:PE X e (fun _ _ _=>False):=fun _ _ _ _ _ _ h=>h.elim
theorem lR {op:BoolOp}{t:Tr}(h:Ev F a ρ t):Ev F (.BoolOp op [a] pos) ρ t:=let ⟨τ,x,y⟩:=h;⟨τ,fun i=>SW (x i),y⟩
theorem lS {p q:Bool}{rest:List Expr}(h:Ev F a ρ (tb p))(h2:p=true->Ev F (.BoolOp .And (b::rest) pos) ρ (tb q)):Ev F (.BoolOp .And (a::b::rest) pos) ρ (tb (p&&q)):=by
 obtain ⟨τ,x,y⟩:=h.use
 cases p with
 |false=>exact ⟨yq τ _,fun i=>FW (x i) Ed,fun σ G H Q s r k=>y σ G H _ s r fun v G' H' st hv=>⟨false,aB hv,mj ((k.step st).sc st.s rfl)⟩⟩
 |true =>
  obtain ⟨bV,x',y'⟩:=h2 rfl
  exact ⟨yq τ bV,fun i=>FW (x i) (x' i),fun σ G H Q s r k=>y σ G H _ s r fun v G1 H1 s1 hv=>⟨true,aB hv,mn (y' σ G1 H1 _ s1.s (r.mono s1.g) (k.step s1))⟩⟩
theorem Ih {p q:Bool}{rest:List Expr}(h:Ev F a ρ (tb p))(h2:p=false->Ev F (.BoolOp .Or (b::rest) pos) ρ (tb q)):Ev F (.BoolOp .Or (a::b::rest) pos) ρ (tb (p || q)):=by
 obtain ⟨τ,x,y⟩:=h.use
 cases p with
 |true=>exact ⟨yZ τ _,fun i=>HN (x i) Ed,fun σ G H Q s r k=>y σ G H _ s r fun v G' H' st hv=>⟨true,aB hv,mn ((k.step st).sc st.s rfl)⟩⟩
 |false =>
  obtain ⟨bV,x',y'⟩:=h2 rfl
  exact ⟨yZ τ bV,fun i=>HN (x i) (x' i),fun σ G H Q s r k=>y σ G H _ s r fun v G1 H1 s1 hv=>⟨false,aB hv,mj (y' σ G1 H1 _ s1.s (r.mono s1.g) (k.step s1))⟩⟩
theorem Gv {p:Bool}(h:Ev F a ρ (tb p)):Ev F (.UnaryOp .Not a pos) ρ (tb (!p)):=by
 obtain ⟨τ,x,y⟩:=h.use
 exact ⟨HM τ,fun i=>SX (x i),fun σ G H Q s r k=>y σ G H _ s r fun v G' H' st hv=>⟨p,aB hv,(k.step st).sc st.s rfl⟩⟩
theorem bT (h:gJ F es ρ ts)(hz:ts.length<=sizeLine):Ev F (.List es pos) ρ (.ow ts):=by
 obtain ⟨τ,x,y⟩:=h
 refine ⟨IW τ,fun i=>S7 (x i),fun σ G H Q s r k=>y σ G H _ s r fun vs G1 H1 fq s1 o w=>⟨by rw [<- o.length];exact hz,fun p hp=>?_⟩⟩
 have np:p ∉ fq:=fun z=>by
  obtain ⟨u,hu⟩:=o.there p z
  rw [hp] at hu;cases hu
 exact k (.ref p) G1 _ (p::fq) (s1.trans (.kG s1.s hp)) ⟨p,vs,fq,rfl,d8,o.mono (ak.refl _) (ak.new hp),rfl⟩
  ⟨fun a ha=>(List.mem_cons.mp ha).elim (fun z=>by rw [z];exact s1.h.free hp) (w.n a),fun a ha=>(List.mem_cons.mp ha).elim (fun z=>by rw [z];exact s1.s.free hp) (w.g a),List.nodup_cons.mpr ⟨np,w.d⟩⟩
theorem qq {x1}(h:gJ F es ρ ts)(hz:ts.length<=sizeLine):Ev F (.Tuple es x1 pos) ρ (.tp ts):=by
 obtain ⟨τ,x,y⟩:=h
 refine ⟨zg τ,fun i=>Gf (x i),fun σ G H Q s r k=>y σ G H _ s r fun vs G1 H1 fq s1 o w=>⟨by rw [<- o.length];exact hz,fun p hp=>?_⟩⟩
 have np:p ∉ fq:=fun z=>by
  obtain ⟨u,hu⟩:=o.there p z
  rw [hp] at hu;cases hu
 exact k (.ref p) G1 _ (p::fq) (s1.trans (.kG s1.s hp)) ⟨p,vs,fq,rfl,d8,o.mono (ak.refl _) (ak.new hp),rfl⟩
  ⟨fun a ha=>(List.mem_cons.mp ha).elim (fun z=>by rw [z];exact s1.h.free hp) (w.n a),fun a ha=>(List.mem_cons.mp ha).elim (fun z=>by rw [z];exact s1.s.free hp) (w.g a),List.nodup_cons.mpr ⟨np,w.d⟩⟩
theorem jB {x1}{dd:List Dv}(h:gJ F es ρ ts)(ed:eJ ts=dd)(hz:ts.length<=sizeLine):Ev F (.Tuple es x1 pos) ρ (.fz (.tup dd)):=ed ▸ (qq h hz).fz
theorem aD.get {K:PySem.W.Frag}{G:Hp}:∀ {ds:List Dv} {vs:List V} {j:Nat} {d:Dv},aD K G ds vs->ds[j]?=some d->∃ v,vs[j]?=some v/\Hv K G d v
 |_::_,_,0,_,⟨x,r,h1,h2,h3⟩,h=>by cases h;subst h1;exact ⟨x,rfl,h2⟩
 |_::_,_,j+1,d,⟨x,r,h1,h2,h3⟩,h=>by
  subst h1
  obtain ⟨v,q1,q2⟩:=aD.get (j:=j) h3 h
  exact ⟨v,q1,q2⟩
theorem aD.at {K:PySem.W.Frag}{G:Hp}{ds:List Dv}{vs:List V}{k:Int}{d:Dv}(h:aD K G ds vs)(hk:av ds k=some d):∃ v,av vs k=some v/\Hv K G d v:=by
 unfold av at hk ⊢
 rw [<- h.length]
 cases q:dW ds.length k with
 |none=>rw [q] at hk;cases hk
 |some j=>rw [q] at hk;exact h.get hk
theorem bu {xs:List Dv}{k:Int}{d:Dv}(ha:Ev F a ρ ta)(hb:Ev F b ρ (ti k))(ea:er ta=.lst xs)(hk:av xs k=some d)(hs:xC b:=by exact fun _ _=>rfl):Ev F (.Subscript a b pos) ρ (.fz d):=by
 obtain ⟨τ,p,q⟩:=ha.use
 obtain ⟨bV,p',q'⟩:=hb.use
 refine ⟨jk (zh F.K) τ bV,fun i=>uh (Ql (F.hK i)) (p i) (p' i) hs,fun σ G H Q s rr k=>?_⟩
 refine q σ G H _ s rr fun x G1 H1 s1 hx=>q' σ G1 H1 _ s1.s (rr.mono s1.g) fun y G2 H2 s2 hy=>?_
 rw [ea] at hx
 obtain ⟨l,vs,rfl,h1,h2⟩:=hx
 obtain ⟨v,h3,h4⟩:=h2.at hk
 exact ⟨l,vs,_,v,rfl,aB hy,(s2.g.trans s2.s).seq h1,h3,(k.step (s1.trans s2)).dat s2.s (h4.mono s2.g)⟩
theorem aY {xs:List Dv}{k:Int}{d:Dv}(ha:Ev F a ρ ta)(hb:Ev F b ρ (ti k))(ea:er ta=.tup xs)(hk:av xs k=some d)(hs:xC b:=by exact fun _ _=>rfl):Ev F (.Subscript a b pos) ρ (.fz d):=by
 obtain ⟨τ,p,q⟩:=ha.use
 obtain ⟨bV,p',q'⟩:=hb.use
 refine ⟨jk (uz F.K) τ bV,fun i=>uh (Rl (F.hK i)) (p i) (p' i) hs,fun σ G H Q s rr k=>?_⟩
 refine q σ G H _ s rr fun x G1 H1 s1 hx=>q' σ G1 H1 _ s1.s (rr.mono s1.g) fun y G2 H2 s2 hy=>?_
 rw [ea] at hx
 obtain ⟨l,vs,rfl,h1,h2⟩:=hx
 obtain ⟨v,h3,h4⟩:=h2.at hk
 exact ⟨l,vs,_,v,rfl,aB hy,(s2.g.trans s2.s).tup h1,h3,(k.step (s1.trans s2)).dat s2.s (h4.mono s2.g)⟩
def cutD {α:Type}(xs:List α)(lo hi:Option Int):List α:=(xs.drop (HT.aK xs.length 0 lo)).take (HT.aK xs.length xs.length hi-HT.aK xs.length 0 lo)
theorem aD.drop {K:PySem.W.Frag}{G:Hp}:∀ {ds:List Dv} {vs:List V} (n:Nat),aD K G ds vs->aD K G (ds.drop n) (vs.drop n)
 |ds,vs,0,h=>h
 |[],_,n+1,h=>by rw [show _=[] from h];exact rfl
 |_::_,_,n+1,⟨x,r,h1,h2,h3⟩=>by subst h1;exact aD.drop n h3
theorem aD.take {K:PySem.W.Frag}{G:Hp}:∀ {ds:List Dv} {vs:List V} (n:Nat),aD K G ds vs->aD K G (ds.take n) (vs.take n)
 |ds,vs,0,h=>by simp only [List.take_zero];exact rfl
 |[],_,n+1,h=>by rw [show _=[] from h];exact rfl
 |_::_,_,n+1,⟨x,r,h1,h2,h3⟩=>by subst h1;exact ⟨x,r.take n,rfl,h2,aD.take n h3⟩
theorem aD.cut {K:PySem.W.Frag}{G:Hp}{ds:List Dv}{vs:List V}(h:aD K G ds vs)(lo hi:Option Int):aD K G (cutD ds lo hi) (kF vs lo hi):=by
 unfold cutD kF
 rw [h.length]
 exact (h.drop _).take _
def Eo (F:aO ι)(e:Option Expr)(ρ:En)(o:Option Int):Prop:=∃ τ:TO,(∀ i,PO (F.cx i) e τ)/\∀ σ G H Q,ak G H->bZ F.K G ρ σ->(∀ G' H',Step G H G' H'->Q o H') -> τ σ H Q
theorem p7:Eo F none ρ none:=⟨E5,fun _=>Q6,fun σ G H Q s r k=>k G H (.refl s)⟩
theorem lN {n:Int}(h:Ev F e ρ (ti n)):Eo F (some e) ρ (some n):=by
 obtain ⟨τ,x,y⟩:=h.use
 exact ⟨HZ τ,fun i=>Q7 (x i),fun σ G H Q s r k=>y σ G H _ s r fun v G' H' st hv=>⟨n,aB hv,k G' H' st⟩⟩
theorem sU {lo hi:Option Expr}{l u:Option Int}{xs:List Dv}{p2:Pos}(ha:Ev F a ρ ta)(ea:er ta=.lst xs)(hl:Eo F lo ρ l)(hu:Eo F hi ρ u):Ev F (.Subscript a (.Slice lo hi none p2) pos) ρ (.ow ((cutD xs l u).map .fz)):=by
 obtain ⟨τ,p,q⟩:=ha.use
 obtain ⟨z9,p1,q1⟩:=hl
 obtain ⟨Aa,o8,q2⟩:=hu
 refine ⟨zO (IZ F.K) τ z9 Aa,fun i=>D6 (F.hK i ▸ Q9) (p i) (p1 i) (o8 i),fun σ G H Q s rr k=>?_⟩
 refine q σ G H _ s rr fun x G1 H1 s1 hx=>q1 σ G1 H1 _ s1.s (rr.mono s1.g) fun G2 H2 s2=>q2 σ G2 H2 _ s2.s (rr.mono (s1.trans s2).g) fun G3 H3 s3=>?_
 rw [ea] at hx
 obtain ⟨b,vs,rfl,h1,h2⟩:=hx
 have st:=s2.trans s3
 exact ⟨b,vs,rfl,(st.g.trans st.s).seq h1,fun p hp=>(k.step (s1.trans st)).lst st.s ((h2.mono st.g).cut l u).hG hp⟩
theorem lE {id:String}{x:Str}{r:List V->Hp->VK->Prop}(hc:∀ i,du (F.cx i) (.builtin id) r)(hm:F.mg x=none)(hv:bootBuiltins x=some (.builtin id))(ha:gJ F (e::es) ρ ts)
  (h:∀ G H xs Q,ak G H->aD F.K G (eJ ts) xs->Kv F.K G H t Q->r xs H Q) {p':Pos} (hg:∀ i,Gl (F.cx i) x:=by intro _;rfl) (hn:x ≠ "__name__" := by decide) (fI:(x==("__debug__" : Str))=false:=by decide)
  (he:∀ i,starEach (e::es) (F.cx i).env=(false,eval e (F.cx i).env)::starEach es (F.cx i).env:=by intro _;rfl) (eG:∀ i,(backTo pos (starEach es (F.cx i).env)).any (·.1)=false:=by intro _;rfl):Ev F (.Call (.Name x p') (e::es) [] pos) ρ t:=by
 obtain ⟨τ,y,z⟩:=ha.use
 refine ⟨jP r τ,fun i=>sS (hc i) (hg i) ((F.hm i).symm ▸ hm) hv (y i) hn fI (he i) (eG i),fun σ G H Q s rr k=>z σ G H _ s rr fun vs G1 H1 s1 hx=>?_⟩
 exact h G1 H1 vs Q s1.s hx (k.step s1)
theorem Ee {T:String}{x:Str}{r:List V->Hp->VK->Prop}(hc:∀ i,du (F.cx i) (.type T) r)(hm:F.mg x=none)(hv:bootBuiltins x=some (.type T))(ha:gJ F (e::es) ρ ts)
  (h:∀ G H xs Q,ak G H->aD F.K G (eJ ts) xs->Kv F.K G H t Q->r xs H Q) {p':Pos} (hg:∀ i,Gl (F.cx i) x:=by intro _;rfl) (hn:x ≠ "__name__" := by decide) (fI:(x==("__debug__" : Str))=false:=by decide)
  (he:∀ i,starEach (e::es) (F.cx i).env=(false,eval e (F.cx i).env)::starEach es (F.cx i).env:=by intro _;rfl) (eG:∀ i,(backTo pos (starEach es (F.cx i).env)).any (·.1)=false:=by intro _;rfl):Ev F (.Call (.Name x p') (e::es) [] pos) ρ t:=by
 obtain ⟨τ,y,z⟩:=ha.use
 refine ⟨jP r τ,fun i=>sO (hc i) (hg i) ((F.hm i).symm ▸ hm) hv (y i) hn fI (he i) (eG i),fun σ G H Q s rr k=>z σ G H _ s rr fun vs G1 H1 s1 hx=>?_⟩
 exact h G1 H1 vs Q s1.s hx (k.step s1)
theorem gV {K:PySem.W.Frag}{G:Hp}{d:Dv}{xs:List V}(h:aD K G [d] xs):∃ x,xs=[x]/\Hv K G d x:=by
 obtain ⟨x,r,h1,h2,h3⟩:=h
 exact ⟨x,by rw [h1,show r=[] from h3],h2⟩
theorem U3 {K:PySem.W.Frag}{G:Hp}{d d':Dv}{xs:List V}(h:aD K G [d,d'] xs):∃ x y,xs=[x,y]/\Hv K G d x/\Hv K G d' y:=by
 obtain ⟨x,r,h1,h2,h3⟩:=h
 obtain ⟨y,rfl,h4⟩:=gV h3
 exact ⟨x,y,h1,h2,h4⟩
theorem bq {xs:List Dv} (hm:F.mg "len" = none) (ha:Ev F e ρ ta) (ea:er ta=.lst xs\/er ta=.tup xs) {p':Pos} (hg:∀ i,Gl (F.cx i) "len" := by intro _;rfl)
  (hs:∀ i,starEach [e] (F.cx i).env=[(false,eval e (F.cx i).env)]:=by intro _;rfl):Ev F (.Call (.Name "len" p') [e] [] pos) ρ (ti xs.length) :=
 lE (r:=fun xs H Q=>∃ p ys,xs=[.ref p]/\(aN F.K H p ys\/bY F.K H p ys)/\Q (.int ys.length) H) (fun i=>Pt (F.hK i)) hm Gr (ag ha aj hs) (fun G H vs Q s hx k=>by
  obtain ⟨x,rfl,dm⟩:=gV hx
  replace hx:=dm
  rcases ea with ea | ea
  ·rw [ea] at hx
   obtain ⟨l,ys,rfl,h1,h2⟩:=hx
   exact ⟨l,ys,rfl,.inl (s.seq h1),by rw [<- h2.length];exact k.sc s rfl⟩
  ·rw [ea] at hx
   obtain ⟨l,ys,rfl,h1,h2⟩:=hx
   exact ⟨l,ys,rfl,.inr (s.tup h1),by rw [<- h2.length];exact k.sc s rfl⟩) hg (by decide) (by decide) hs (fun _=>rfl)
theorem km {xs:List Dv} (hm:F.mg "list" = none) (ha:Ev F e ρ ta) (ea:er ta=.lst xs\/er ta=.tup xs) {p':Pos} (hg:∀ i,Gl (F.cx i) "list" := by intro _;rfl)
  (hs:∀ i,starEach [e] (F.cx i).env=[(false,eval e (F.cx i).env)]:=by intro _;rfl):Ev F (.Call (.Name "list" p') [e] [] pos) ρ (.ow (xs.map .fz)) :=
 Ee (r:=fun xs H Q=>∃ p ys,xs=[.ref p]/\(aN F.K H p ys\/bY F.K H p ys)/\∀ l,H l=none->Q (.ref l) (upd H l (.lst ys))) (fun i=>F.hK i ▸ NB) hm pZ (ag ha aj hs) (fun G H vs Q s hx k=>by
  obtain ⟨x,rfl,dm⟩:=gV hx
  replace hx:=dm
  rcases ea with ea | ea
  ·rw [ea] at hx
   obtain ⟨l,ys,rfl,h1,h2⟩:=hx
   exact ⟨l,ys,rfl,.inl (s.seq h1),fun p hp=>k.lst s h2.hG hp⟩
  ·rw [ea] at hx
   obtain ⟨l,ys,rfl,h1,h2⟩:=hx
   exact ⟨l,ys,rfl,.inr (s.tup h1),fun p hp=>k.lst s h2.hG hp⟩) hg (by decide) (by decide) hs (fun _=>rfl)
theorem Gw {ns:List Int} (hm:F.mg "sum" = none) (ha:Ev F e ρ ta) (ea:er ta=dis ns) {p':Pos} (hg:∀ i,Gl (F.cx i) "sum" := by intro _;rfl)
  (hs:∀ i,starEach [e] (F.cx i).env=[(false,eval e (F.cx i).env)]:=by intro _;rfl):Ev F (.Call (.Name "sum" p') [e] [] pos) ρ (ti ns.sum) :=
 lE (r:=Jb F.K) (fun i=>F.hK i ▸ Qj (F.calm i)) hm Tg (ag ha aj hs) (fun G H vs Q s hx k=>by
  obtain ⟨x,rfl,dm⟩:=gV hx
  replace hx:=dm
  rw [ea] at hx
  obtain ⟨l,ys,rfl,h1,h2⟩:=hx
  have:=lC h2
  subst this
  exact ⟨l,ns,rfl,s.seq h1,k.sc s rfl⟩) hg (by decide) (by decide) hs (fun _=>rfl)
theorem x5 {n:Int} (hm:F.mg "abs" = none) (ha:Ev F e ρ (ti n)) {p':Pos} (hg:∀ i,Gl (F.cx i) "abs" := by intro _;rfl)
  (hs:∀ i,starEach [e] (F.cx i).env=[(false,eval e (F.cx i).env)]:=by intro _;rfl):Ev F (.Call (.Name "abs" p') [e] [] pos) ρ (ti (if n<0 then -n else n)) :=
 lE (fun i=>Qc) hm Tf (ag ha aj hs) (fun G H vs Q s hx k=>by
  obtain ⟨x,rfl,dm⟩:=gV hx
  replace hx:=dm
  exact ⟨n,by rw [aB hx],k.sc s rfl⟩) hg (by decide) (by decide) hs (fun _=>rfl)
def Kk:Dv->Value
 | .fl .aS=>.type "NoneType"
 | .fl (.bl _)=>.type "bool"
 | .fl (.int _)=>.type "int"
 | .fl (.str _)=>.type "str"
 | .fl _=>.none
 | .lst _=>.type "list"
 | .tup _=>.type "tuple"
def Jc (K:PySem.W.Frag)(d:Dv)(n:String)(b:Bool):List V->Hp->VK->Prop:=fun xs H Q=>∃ x,xs=[x,.ty n]/\Hv K H d x/\PySem.W.kitOne K (Kk d) (.type n)=some b/\Q (.bl b) H
theorem Qn {X:Cx} {d:Dv} {n:String} {b:Bool}:du X (.builtin "isinstance") (Jc X.K d n b):=by
 intro pins s σ H xs us Q I r h
 obtain ⟨x,rfl,hx,hb,q⟩:=h
 cases r with
 |cons r1 rr=>cases rr with
  |cons r2 rr =>
   cases rr
   cases (show _=Value.type n from r2)
   have fin:∀ tk,EP X pins σ Q (.bool b) { s with toks:=tk }:=fun tk=>⟨.bl b,H,I.tok tk,rfl,q⟩
   cases d with
   |fl v =>
    obtain ⟨rfl,f⟩:=hx
    cases x with
    |aS=>exact sN I r1 .aS hb fin
    |bl y=>exact sN I r1 (.bl y) hb fin
    |int y=>exact sN I r1 (.int y) hb fin
    |str y=>exact sN I r1 (.str y) hb fin
    |gZ y=>cases f
    |mG y=>cases f
    |ref y=>cases f
    |ty y=>cases f
   |lst ds =>
    obtain ⟨a,xs,rfl,h1,_⟩:=hx
    cases r1
    obtain ⟨its,_,⟨o,n,h2,h3,_⟩,_⟩:=I.list h1
    exact PySem.W.kia_one PySem.W.kitx_list I.dQ ⟨o,h2,h3⟩ hb (fun z=>nomatch z) fin
   |tup ds =>
    obtain ⟨a,xs,rfl,h1,_⟩:=hx
    cases r1
    obtain ⟨its,_,⟨o,h2,h3,_⟩,_⟩:=I.tuple h1
    exact PySem.W.kia_one PySem.W.kitx_tuple I.dQ ⟨o,h2,h3⟩ hb (fun z=>nomatch z) fin
theorem gk {x:Str} {n:String} {bo:Bool} (hm:F.mg "isinstance" = none) (iR:F.mg x=none) (hv:bootBuiltins x=some (.type n)) (ha:Ev F e ρ ta) (hk:PySem.W.kitOne F.K (Kk (er ta)) (.type n)=some bo) {p' p2:Pos} (hg:∀ i,Gl (F.cx i) "isinstance" := by intro _;rfl)
  (fY:∀ i,Gl (F.cx i) x:=by intro _;rfl) (hn:x ≠ "__name__" := by decide) (hd:(x==("__debug__" : Str))=false:=by decide)
  (hs:∀ i,starEach [e,.Name x p2] (F.cx i).env=[(false,eval e (F.cx i).env),(false,eval (.Name x p2) (F.cx i).env)]:=by intro _;rfl):Ev F (.Call (.Name "isinstance" p') [e,.Name x p2] [] pos) ρ (tb bo):=by
 obtain ⟨τ,y,z⟩:=ha.use
 refine ⟨jP (Jc F.K (er ta) n bo) (df τ (df (tC (.ty n)) eA)),fun i=>sS (F.hK i ▸ Qn) (hg i) ((F.hm i).symm ▸ hm) MX (cX (y i) (cX (QX (v:=.ty n) (fY i) ((F.hm i).symm ▸ iR) hv rfl hn hd) dN rfl) (hs i)) (by decide) (by decide) (hs i) rfl,fun σ G H Q s rr k=>z σ G H _ s rr fun vs G1 H1 s1 hx=>?_⟩
 exact ⟨vs,rfl,hx.mono s1.s,hk,(k.step s1).sc s1.s rfl⟩
def spT (K:PySem.W.Frag)(R:List Dv->Tr->Prop):Sp:=fun vs H Q _=>∃ G ds t,ak G H/\aD K G ds vs/\R ds t/\Kv K G H t Q
theorem aQ {k:Nat} {f:Addr} {fd:FuncData} {ps:List Str} {R:List Dv->Tr->Prop} {x:Str} (Fn:Kn F.P F.w F.K F.mg F.base ao k x f fd ps (spT F.K R)) (hk:k<=F.room) (ha:gJ F (e::es) ρ ts) (hR:R (eJ ts) t) {p':Pos} (hg:∀ i,Gl (F.cx i) x:=by intro _;rfl) (fI:(x==("__debug__" : Str))=false:=by decide)
  (he:∀ i,starEach (e::es) (F.cx i).env=(false,eval e (F.cx i).env)::starEach es (F.cx i).env:=by intro _;rfl) (eG:∀ i,(backTo pos (starEach es (F.cx i).env)).any (·.1)=false:=by intro _;rfl):Ev F (.Call (.Name x p') (e::es) [] pos) ρ t:=by
 obtain ⟨τ,y,z⟩:=ha.use
 refine ⟨uf (spT F.K R) [] E0 τ,fun i=>?_,fun σ G H Q s rr k=>z σ G H _ s rr fun vs G1 H1 s1 hx=>?_⟩
 ·have rG:Kn (F.cx i).prog (F.cx i).w (F.cx i).K (F.cx i).mg (F.cx i).base ao k x f fd ps (spT F.K R):=by
   rw [F.hP i,F.hw i,F.hK i,F.hm i,F.hb i]
   exact Fn
  exact Ue rG ((F.hr i).mono hk) (hg i) (y i) fI (he i) (eG i)
 ·show spT F.K R (vs++[]) H1 Q E0
  rw [List.append_nil]
  exact ⟨G1,_,t,s1.s,hx,hR,k.step s1⟩
end
end L2
namespace L2
open PySem PySem.Spec PyProof.Rows
def aL (K:PySem.W.Frag)(G H:Hp):En->St->List Addr->Prop
 |[],σ,fp=>σ=[]/\fp=[]
 |none :: ρ,σ,fp=>∃ o r,σ=o::r/\aL K G H ρ r fp
 |some t :: ρ,σ,fp=>∃ v r f1 f2,σ=some v::r/\fp=f1++f2/\Ow K G H t v f1/\aL K G H ρ r f2
theorem aL.mono {K:PySem.W.Frag}{G G' H H':Hp}(e:ak G G')(e':ak H H'):∀ {ρ:En} {σ:St} {fp:List Addr},aL K G H ρ σ fp->aL K G' H' ρ σ fp
 |[],_,_,h=>h
 |none::_,_,_,⟨o,r,h1,h2⟩=>⟨o,r,h1,aL.mono e e' h2⟩
 |some _::_,_,_,⟨v,r,f1,f2,h1,h2,h3,h4⟩=>⟨v,r,f1,f2,h1,h2,h3.mono e e',aL.mono e e' h4⟩
theorem aL.frame {K:PySem.W.Frag}{G H:Hp}{a:Addr}{o:HO}:∀ {ρ:En} {σ:St} {fp:List Addr},aL K G H ρ σ fp->a ∉ fp->aL K G (upd H a o) ρ σ fp
 |[],_,_,h,_=>h
 |none::_,_,_,⟨o,r,h1,h2⟩,n=>⟨o,r,h1,aL.frame h2 n⟩
 |some _::_,_,_,⟨v,r,f1,f2,h1,h2,h3,h4⟩,n=>by
  subst h2
  exact ⟨v,r,f1,f2,h1,rfl,h3.frame fun z=>n (List.mem_append_left _ z),aL.frame h4 fun z=>n (List.mem_append_right _ z)⟩
theorem aL.there {K:PySem.W.Frag}{G H:Hp}:∀ {ρ:En} {σ:St} {fp:List Addr},aL K G H ρ σ fp->∀ a ∈ fp,∃ o,H a=some o
 |[],_,_,⟨_,h⟩,a,ha=>by subst h;cases ha
 |none::_,_,_,⟨o,r,h1,h2⟩,a,ha=>aL.there h2 a ha
 |some _::_,_,_,⟨v,r,f1,f2,h1,h2,h3,h4⟩,a,ha=>by
  subst h2
  rcases List.mem_append.mp ha with ha | ha
  ·exact h3.there a ha
  ·exact aL.there h4 a ha
theorem aL.off {K:PySem.W.Frag}{G H G1 H1:Hp}{ρ:En}{σ:St}{fp:List Addr}(r:aL K G H ρ σ fp)(s1:Step G H G1 H1)(g:∀ a ∈ fp,G a=none):∀ a ∈ fp,G1 a=none:=fun a ha=>by
 cases q:G1 a with
 |none=>rfl
 |some u =>
  obtain ⟨u',aJ⟩:=r.there a ha
  have:=s1.n a (g a ha) (by rw [q];exact fun z=>nomatch z)
  rw [aJ] at this
  cases this
theorem aL.o9 {K:PySem.W.Frag}{G H:Hp}:∀ {ρ:En} {σ:St} {fp:List Addr},aL K G H ρ σ fp->bZ K G ρ σ
 |[],_,_,_,j,d,h=>by cases j<;>cases h
 |none::_,_,_,⟨o,r,h1,h2⟩,0,d,h=>by cases h
 |none::_,_,_,⟨o,r,h1,h2⟩,j+1,d,h=>by subst h1;exact aL.o9 h2 j d h
 |some _::_,_,_,⟨v,r,f1,f2,h1,h2,h3,h4⟩,0,d,h=>by cases h;subst h1;exact ⟨v,rfl,h3.2⟩
 |some _::_,_,_,⟨v,r,f1,f2,h1,h2,h3,h4⟩,j+1,d,h=>by subst h1;exact aL.o9 h4 j d h
def pk (ρ:En):En:=ρ.map (Option.map fun t=>.fz (er t))
theorem aL.pk {K:PySem.W.Frag}{G H G':Hp}(e:ak G G'):∀ {ρ:En} {σ:St} {fp:List Addr},aL K G H ρ σ fp->(∀ a ∈ fp,G' a=H a)->bZ K G' (pk ρ) σ
 |[],_,_,_,_,j,d,h=>by cases j<;>cases h
 |none::_,_,_,⟨o,r,h1,h2⟩,_,0,d,h=>by cases h
 |none::_,_,_,⟨o,r,h1,h2⟩,q,j+1,d,h=>by subst h1;exact aL.pk e h2 q j d h
 |some _::_,_,_,⟨v,r,f1,f2,h1,h2,h3,h4⟩,q,0,d,h=>by
  cases h;subst h1 h2;exact ⟨v,rfl,h3.hv e fun a ha=>q a (List.mem_append_left _ ha)⟩
 |some _::_,_,_,⟨v,r,f1,f2,h1,h2,h3,h4⟩,q,j+1,d,h=>by
  subst h1 h2;exact aL.pk e h4 (fun a ha=>q a (List.mem_append_right _ ha)) j d h
theorem aL.split {K:PySem.W.Frag}{G H:Hp}:∀ {ρ:En} {σ:St} {fp:List Addr} {j:Nat} {t:Tr},aL K G H ρ σ fp -> ρ[j]?=some (some t) ->
  ∃ v f fr,σ[j]?=some (some v)/\Ow K G H t v f/\aL K G H (ρ.set j none) σ fr/\fp.Perm (f++fr)
 |none::_,_,_,0,_,_,h=>by cases h
 |none::_,_,_,j+1,t,⟨o,r,h1,h2⟩,h=>by
  subst h1
  obtain ⟨v,f,fr,q1,q2,q3,q4⟩:=aL.split (j:=j) h2 h
  exact ⟨v,f,fr,q1,q2,⟨o,r,rfl,q3⟩,q4⟩
 |some _::_,_,_,0,t,⟨v,r,f1,f2,h1,h2,h3,h4⟩,h=>by
  cases h;subst h1 h2
  exact ⟨v,f1,f2,rfl,h3,⟨some v,r,rfl,h4⟩,.refl _⟩
 |some _::_,_,_,j+1,t,⟨v,r,f1,f2,h1,h2,h3,h4⟩,h=>by
  subst h1 h2
  obtain ⟨v',f,fr,q1,q2,q3,q4⟩:=aL.split (j:=j) h4 h
  refine ⟨v',f,f1++fr,q1,q2,⟨v,r,f1,fr,rfl,rfl,h3,q3⟩,?_⟩
  refine (List.Perm.append_left f1 q4).trans ?_
  rw [<- List.append_assoc,<- List.append_assoc]
  exact List.Perm.append_right fr List.perm_append_comm
theorem aL.forget {K:PySem.W.Frag}{G H:Hp}:∀ {ρ:En} {σ:St} {fp:List Addr} (j:Nat),aL K G H ρ σ fp->∃ fr,aL K G H (ρ.set j none) σ fr/\fr.Sublist fp
 |[],_,_,_,h=>⟨_,h,.refl _⟩
 |none::_,_,_,0,⟨o,r,h1,h2⟩=>⟨_,⟨o,r,h1,h2⟩,.refl _⟩
 |none::_,_,_,j+1,⟨o,r,h1,h2⟩=>by
  obtain ⟨fr,q1,q2⟩:=aL.forget j h2
  exact ⟨fr,⟨o,r,h1,q1⟩,q2⟩
 |some _::_,_,_,0,⟨v,r,f1,f2,h1,h2,h3,h4⟩=>⟨f2,⟨some v,r,h1,h4⟩,h2 ▸ List.sublist_append_right _ _⟩
 |some _::_,_,_,j+1,⟨v,r,f1,f2,h1,h2,h3,h4⟩=>by
  obtain ⟨fr,q1,q2⟩:=aL.forget j h4
  exact ⟨f1++fr,⟨v,r,f1,fr,h1,rfl,h3,q1⟩,h2 ▸ List.Sublist.append (.refl _) q2⟩
theorem aL.put {K:PySem.W.Frag}{G H:Hp}:∀ {ρ:En} {σ:St} {fr:List Addr} {j:Nat} {t:Tr} {v:V} {f:List Addr},aL K G H ρ σ fr -> ρ[j]?=some none->Ow K G H t v f ->
  ∃ fp,aL K G H (ρ.set j (some t)) (σ.set j (some v)) fp/\fp.Perm (f++fr)
 |none::_,_,fr,0,t,v,f,⟨o,r,h1,h2⟩,_,w=>by subst h1;exact ⟨_,⟨v,r,f,fr,rfl,rfl,w,h2⟩,.refl _⟩
 |none::_,_,_,j+1,t,v,f,⟨o,r,h1,h2⟩,h,w=>by
  subst h1
  obtain ⟨fp,q1,q2⟩:=aL.put (j:=j) h2 h w
  exact ⟨fp,⟨o,_,rfl,q1⟩,q2⟩
 |some _::_,_,_,0,_,_,_,_,h,_=>by cases h
 |some _::_,_,_,j+1,t,v,f,⟨v',r,f1,f2,h1,h2,h3,h4⟩,h,w=>by
  subst h1 h2
  obtain ⟨fp,q1,q2⟩:=aL.put (j:=j) h4 h w
  refine ⟨f1++fp,⟨v',_,f1,fp,rfl,rfl,h3,q1⟩,?_⟩
  refine (List.Perm.append_left f1 q2).trans ?_
  rw [<- List.append_assoc,<- List.append_assoc]
  exact List.Perm.append_right f2 List.perm_append_comm
structure cT (K:PySem.W.Frag) (G0 H0 G H:Hp) (ρ:En) (σ:St) (fp:List Addr):Prop where
 st:Step G0 H0 G H
 own:aL K G H ρ σ fp
 g:∀ a ∈ fp,G a=none
 n:∀ a ∈ fp,H0 a=none
 d:fp.Nodup
def RS (K:PySem.W.Frag)(G0 H0 G H:Hp)(ρ:En)(σ:St):Prop:=∃ fp,cT K G0 H0 G H ρ σ fp
theorem pH {α:Type}{ρ:List (Option α)}{j:Nat}(h:j < ρ.length):(ρ.set j none)[j]?=some none:=by rw [List.getElem?_set];simp [h]
theorem cT.forget {K:PySem.W.Frag}{G0 H0 G H:Hp}{ρ:En}{σ:St}{fp:List Addr}(r:cT K G0 H0 G H ρ σ fp)(j:Nat):∃ fr,cT K G0 H0 G H (ρ.set j none) σ fr/\fr.Sublist fp:=by
 obtain ⟨fr,q1,q2⟩:=r.own.forget j
 exact ⟨fr,⟨r.st,q1,fun a ha=>r.g a (q2.subset ha),fun a ha=>r.n a (q2.subset ha),r.d.sublist q2⟩,q2⟩
theorem RS.forget {K:PySem.W.Frag}{G0 H0 G H:Hp}{ρ:En}{σ:St}(r:RS K G0 H0 G H ρ σ)(j:Nat):RS K G0 H0 G H (ρ.set j none) σ:=by
 obtain ⟨fp,r⟩:=r
 obtain ⟨fr,q,_⟩:=r.forget j
 exact ⟨fr,q⟩
theorem cT.set {K:PySem.W.Frag}{G0 H0 G H G1 H1:Hp}{ρ:En}{σ:St}{fp fq:List Addr}{j:Nat}{t:Tr}{v:V}(r:cT K G0 H0 G H ρ σ fp)(hj:j < ρ.length)(e:Step G H G1 H1)(o:Ow K G1 H1 t v fq)(w:Nw H G1 fq) :
  RS K G0 H0 G1 H1 (ρ.set j (some t)) (σ.set j (some v)):=by
 obtain ⟨fr,r1,sub⟩:=r.forget j
 have U4:=r1.own.mono e.g e.h
 obtain ⟨gK,q1,q2⟩:=U4.put (pH hj) o
 rw [List.set_set] at q1
 have dis:∀ a ∈ fq,∀ b ∈ fr,a ≠ b:=fun a ha b hb z=>by
  subst z
  obtain ⟨u,hu⟩:=r1.own.there a hb
  rw [w.n a ha] at hu;cases hu
 refine ⟨gK,r.st.trans e,q1,fun a ha=>?_,fun a ha=>?_,q2.nodup_iff.mpr (List.nodup_append.mpr ⟨w.d,r1.d,dis⟩)⟩
 ·rcases List.mem_append.mp (q2.mem_iff.mp ha) with z | z
  ·exact w.g a z
  ·cases q:G1 a with
   |none=>rfl
   |some u =>
    obtain ⟨u',aJ⟩:=r1.own.there a z
    have:=e.n a (r1.g a z) (by rw [q];exact fun z=>nomatch z)
    rw [aJ] at this;cases this
 ·rcases List.mem_append.mp (q2.mem_iff.mp ha) with z | z
  ·exact r.st.h.free (w.n a z)
  ·exact r1.n a z
def less (H:Hp)(fp:List Addr):Hp:=fun a=>if a ∈ fp then none else H a
theorem E9 {H:Hp}{fp:List Addr}{a:Addr}(h:a ∈ fp):less H fp a=none:=by unfold less;rw [if_pos h]
theorem Ef {H:Hp}{fp:List Addr}{a:Addr}(h:a ∉ fp):less H fp a=H a:=by unfold less;rw [if_neg h]
theorem Qo {H:Hp}{fp:List Addr}:ak (less H fp) H:=fun b o e=>by
 by_cases q:b ∈ fp
 ·rw [E9 q] at e;cases e
 ·rw [Ef q] at e;exact e
theorem DN {G H:Hp}{fp:List Addr}(s:ak G H)(h:∀ a ∈ fp,G a=none):ak G (less H fp):=fun b o e=>by
 by_cases q:b ∈ fp
 ·rw [h b q] at e;cases e
 ·rw [Ef q];exact s b o e
theorem cT.rebase {K:PySem.W.Frag}{G0 H0 G H:Hp}{ρ:En}{σ:St}{fp:List Addr}(r:cT K G0 H0 G H ρ σ fp):cT K G (less H fp) G H ρ σ fp :=
 ⟨⟨ak.refl _,Qo,r.st.s,fun a h h'=>absurd h h'⟩,r.own,r.g,fun a ha=>E9 ha,r.d⟩
theorem cT.base {K:PySem.W.Frag}{G0 H0 G H:Hp}{ρ:En}{σ:St}{fp:List Addr}(r:cT K G0 H0 G H ρ σ fp):Step G0 H0 G (less H fp) :=
 ⟨r.st.g,DN r.st.h r.n,DN r.st.s r.g,r.st.n⟩
theorem RS.under {K:PySem.W.Frag}{G0 H0 G1 H1 G H:Hp}{ρ:En}{σ:St}(e:Step G0 H0 G1 H1)(r:RS K G1 H1 G H ρ σ):RS K G0 H0 G H ρ σ:=by
 obtain ⟨fp,r⟩:=r
 exact ⟨fp,e.trans r.st,r.own,r.g,fun a ha=>e.h.free (r.n a ha),r.d⟩
inductive Out where
 |nx (ρ:En)
 |rt (t:Tr)
def uC (K:PySem.W.Frag)(G0 H0:Hp)(D:Ends):Out->Prop
 | .nx ρ => ∀ σ G H,RS K G0 H0 G H ρ σ->D.nx σ H
 | .rt t=>∀ v G H fq,Step G0 H0 G H->Ow K G H t v fq->Nw H0 G fq->D.rt v H
theorem uC.under {K:PySem.W.Frag}{G0 H0 G1 H1:Hp}{D:Ends}{o:Out}(e:Step G0 H0 G1 H1)(p:uC K G0 H0 D o):uC K G1 H1 D o:=by
 cases o with
 |nx ρ => exact fun σ G H r=>p σ G H (r.under e)
 |rt t=>exact fun v G H fq s o w=>p v G H fq (e.trans s) o ⟨fun a ha=>e.h.free (w.n a ha),w.g,w.d⟩
def Kl (K:PySem.W.Frag)(τ:TS)(ρ:En)(o:Out):Prop:=∀ D σ G0 H0 G H,RS K G0 H0 G H ρ σ->uC K G0 H0 D o -> τ D σ H
section
variable {ι:Type}
def Rn (F:aO ι)(st:Stmt)(ρ:En)(o:Out):Prop:=∃ τ:TS,(∀ i,PS (F.cx i) st τ)/\Kl F.K τ ρ o
def aV (F:aO ι)(cA:List Stmt)(ρ:En)(o:Out):Prop:=∃ τ:TS,(∀ i,eU (F.cx i) cA τ)/\Kl F.K τ ρ o
def bp (F:aO ι)(e:Expr)(ρ:En)(t:Tr):Prop:=∃ τ:TE,(∀ i,PE (F.cx i) e τ)/\∀ σ G H fp Q,ak G H->aL F.K G H ρ σ fp->(∀ a ∈ fp,G a=none)->Kv F.K G H t Q -> τ σ H Q
def cU (F:aO ι)(e:Expr)(ρ:En)(b:Bool):Prop:=∃ τ:TT,(∀ i,PT (F.cx i) e τ)/\∀ σ G H fp Q,ak G H->aL F.K G H ρ σ fp->(∀ a ∈ fp,G a=none)->(∀ G' H',Step G H G' H'->Q b H') -> τ σ H Q
variable {F:aO ι}{e a b c:Expr}{es:List Expr}{ρ ρ1:En}{t:Tr}{ts:List Tr}{pos:Pos}{o:Out}{st:Stmt}{cA A B:List Stmt}
theorem Ev.s (h:Ev F e ρ t):bp F e ρ t:=let ⟨τ,x,y⟩:=h;⟨τ,x,fun σ G H fp Q s r _ k=>y σ G H Q s r.o9 k⟩
theorem Et.s {p:Bool}(h:Et F e ρ p):cU F e ρ p:=let ⟨τ,x,y⟩:=h;⟨τ,x,fun σ G H fp Q s r _ k=>y σ G H Q s r.o9 k⟩
mutual
def Cl:Tr->Prop
 | .fz (.fl _)=>True
 | .fz _=>False
 | .ow ts=>qO ts
 | .tp ts=>qO ts
def qO:List Tr->Prop
 |[] => True
 |t::ts=>Cl t/\qO ts
end
mutual
theorem Ow.cl {K:PySem.W.Frag}{G G' H:Hp}:∀ {t:Tr} {v:V} {fp:List Addr},Cl t->Ow K G H t v fp->Ow K G' H t v fp
 | .fz (.fl _),_,_,_,h=>h
 | .fz (.lst _),_,_,c,_=>c.elim
 | .fz (.tup _),_,_,c,_=>c.elim
 | .ow _,_,_,c,⟨b,vs,fq,h1,h2,h3,h4⟩=>⟨b,vs,fq,h1,h2,aE.cl c h3,h4⟩
 | .tp _,_,_,c,⟨b,vs,fq,h1,h2,h3,h4⟩=>⟨b,vs,fq,h1,h2,aE.cl c h3,h4⟩
theorem aE.cl {K:PySem.W.Frag}{G G' H:Hp}:∀ {ts:List Tr} {vs:List V} {fp:List Addr},qO ts->aE K G H ts vs fp->aE K G' H ts vs fp
 |[],_,_,_,h=>h
 |_::_,_,_,⟨c1,c2⟩,⟨v,r,f1,f2,h1,h2,h3,h4⟩=>⟨v,r,f1,f2,h1,h2,h3.cl c1,aE.cl c2 h4⟩
end
theorem tH:∀ ns:List Int,qO (ns.map fun n=>Tr.fz (di n))
 |[] => True.intro
 |_::ns=>⟨True.intro,tH ns⟩
theorem Ev.pk (h:Ev F e (pk ρ) t)(c:Cl t):bp F e ρ t:=by
 obtain ⟨τ,x,y⟩:=h
 refine ⟨τ,x,fun σ G H fp Q s r hg k=>?_⟩
 refine y σ (eF G H fp) H Q (oi s) (r.pk (jw hg) fun a ha=>jA ha) fun v G' H' fq st o w=>?_
 refine k v G H' fq ⟨ak.refl _,st.h,s.trans st.h,fun a h h'=>absurd h h'⟩ (o.cl c) ⟨w.n,fun a ha=>s.free (w.n a ha),w.d⟩
theorem Et.pk {p:Bool}(h:Et F e (pk ρ) p):cU F e ρ p:=by
 obtain ⟨τ,x,y⟩:=h
 refine ⟨τ,x,fun σ G H fp Q s r hg k=>?_⟩
 refine y σ (eF G H fp) H Q (oi s) (r.pk (jw hg) fun a ha=>jA ha) fun G' H' st=>?_
 exact k G H' ⟨ak.refl _,st.h,s.trans st.h,fun a h h'=>absurd h h'⟩
theorem kn:aV F [] ρ (.nx ρ):=⟨HP,fun _=>QZ,fun D σ G0 H0 G H r k=>k σ G H r⟩
theorem ai (h1:Rn F st ρ (.nx ρ1))(h2:aV F cA ρ1 o):aV F (st::cA) ρ o:=by
 obtain ⟨τ,x,y⟩:=h1
 obtain ⟨bV,x',y'⟩:=h2
 exact ⟨y3 τ bV,fun i=>D5 (x i) (x' i),fun D σ G0 H0 G H r k=>y _ σ G0 H0 G H r fun aF G1 H1 r1=>y' D aF G0 H0 G1 H1 r1 k⟩
theorem p8 (h1:Rn F st ρ (.rt t)):aV F (st::cA) ρ (.rt t):=by
 obtain ⟨τ,x,y⟩:=h1
 exact ⟨y3 τ tS,fun i=>D5 (x i) wL,fun D σ G0 H0 G H r k=>y _ σ G0 H0 G H r k⟩
theorem aw (h1:Rn F st ρ o):aV F [st] ρ o:=by
 obtain ⟨τ,x,y⟩:=h1
 exact ⟨τ,fun i=>Q0 (x i),y⟩
theorem aH (j:Nat){x:Str}{pos':Pos}(he:bp F e ρ t)(hN:∀ i,(F.cx i).N.Nodup)(hj:Nat.blt j ρ.length=true:=by rfl)(hi:∀ i,(F.cx i).N[j]?=some x:=by intro _;rfl)(hx:∀ i,Loc (F.cx i).env.scope x:=by intro _;first | exact Or.inl rfl | exact Or.inr rfl)
  (hs:∀ i,swapsWith e (some (.Name x pos')) pos.line (F.cx i).env=pure false:=by intro _;rfl) (hf:∀ i,(F.cx i).fn x=true\/(F.cx i).env.scope.names.lookup x=some .local:=by intro _;first | exact .inl rfl | exact .inr rfl) :
  Rn F (.Assign [.Name x pos'] e pos) ρ (.nx (ρ.set j (some t))):=by
 obtain ⟨τ,y,z⟩:=he
 refine ⟨mh τ (iA j),fun i=>FZ (hN i) (hi i) (hx i) (y i) (hs i) (hf i),fun D σ G0 H0 G H r k=>?_⟩
 obtain ⟨fp,r⟩:=r
 exact z σ G H fp _ r.st.s r.own r.g fun v G1 H1 fq s1 o w=>k _ G1 H1 (r.set (Nat.le_of_ble_eq_true hj) s1 o w)
theorem bS (he:bp F e ρ t):Rn F (.Return (some e) pos) ρ (.rt t):=by
 obtain ⟨τ,y,z⟩:=he
 refine ⟨uw τ,fun i=>xR (y i),fun D σ G0 H0 G H r k=>?_⟩
 obtain ⟨fp,r⟩:=r
 exact z σ G H fp _ r.st.s r.own r.g fun v G1 H1 fq s1 o w=>k v G1 H1 fq (r.st.trans s1) o ⟨fun a ha=>r.st.h.free (w.n a ha),w.g,w.d⟩
theorem i7 (j:Nat){x:Str}{p':Pos}(h : ρ[j]?=some (some t))(hN:∀ i,(F.cx i).N[j]?=some x:=by intro _;rfl)
  (hv:∀ i,fU (F.cx i).env.scope x:=by intro _;first | exact Or.inl rfl | exact Or.inr (Or.inl rfl) | exact Or.inr (Or.inr rfl)) (hd:(x==("__debug__" : Str))=false:=by decide) (hc:(x==("__classdict__" : Str))=false:=by decide):Rn F (.Return (some (.Name x p')) pos) ρ (.rt t):=by
 refine ⟨uw (eQ j),fun i=>xR (jb (hN i) (hv i) hd hc),fun D σ G0 H0 G H r k=>?_⟩
 obtain ⟨fp,r⟩:=r
 obtain ⟨v,f,fr,q1,q2,q3,q4⟩:=r.own.split h
 have sub:∀ a ∈ f,a ∈ fp:=fun a ha=>q4.mem_iff.mpr (List.mem_append_left _ ha)
 exact ⟨v,q1,k v G H f r.st q2 ⟨fun a ha=>r.n a (sub a ha),fun a ha=>r.g a (sub a ha),(List.nodup_append.mp (q4.nodup_iff.mp r.d)).1⟩⟩
theorem Rm (he:bp F e ρ t)(hs:∀ i,swapsWith e none pos.line (F.cx i).env=pure false:=by intro _;rfl):Rn F (.Expr e pos) ρ (.nx ρ):=by
 obtain ⟨τ,y,z⟩:=he
 refine ⟨kB τ,fun i=>kj (y i) (hs i),fun D σ G0 H0 G H r k=>?_⟩
 obtain ⟨fp,r⟩:=r
 refine z σ G H fp _ r.st.s r.own r.g fun v G1 H1 fq s1 o w=>k σ G1 H1 ⟨fp,r.st.trans s1,r.own.mono s1.g s1.h,r.own.off s1 r.g,r.n,r.d⟩
theorem qB {p:Bool}(hc:cU F c ρ p)(h1:p=true->aV F A ρ o)(h2:p=false->aV F B ρ o):Rn F (.If c A B pos) ρ o:=by
 obtain ⟨τ,y,z⟩:=hc
 have key:∀ {G0 H0 G H G1 H1:Hp} {σ:St} {fp:List Addr},cT F.K G0 H0 G H ρ σ fp->Step G H G1 H1->RS F.K G0 H0 G1 H1 ρ σ:=fun {G0 H0 G H G1 H1 σ fp} r s1=>⟨fp,r.st.trans s1,r.own.mono s1.g s1.h,r.own.off s1 r.g,r.n,r.d⟩
 cases p with
 |true =>
  obtain ⟨bV,x',y'⟩:=h1 rfl
  refine ⟨y4 τ bV tS,fun i=>HQ (y i) (x' i) wL,fun D σ G0 H0 G H r k=>?_⟩
  obtain ⟨fp,r⟩:=r
  exact z σ G H fp _ r.st.s r.own r.g fun G1 H1 s1=>mn (y' D σ G0 H0 G1 H1 (key r s1) k)
 |false =>
  obtain ⟨bV,x',y'⟩:=h2 rfl
  refine ⟨y4 τ tS bV,fun i=>HQ (y i) wL (x' i),fun D σ G0 H0 G H r k=>?_⟩
  obtain ⟨fp,r⟩:=r
  exact z σ G H fp _ r.st.s r.own r.g fun G1 H1 s1=>mj (y' D σ G0 H0 G1 H1 (key r s1) k)
theorem pU {α:Type}:∀ {l:List α} {j:Nat} {v : α},l[j]?=some v->l.set j v=l
 |_::_,0,_,h=>by cases h;rfl
 |_::_,j+1,_,h=>by rw [List.set_cons_succ,pU (l:=_) (j:=j) h]
theorem OA (j:Nat)(hj : ρ[j]?=some (some t))(h:aV F cA (ρ.set j (some (.fz (er t)))) o):aV F cA ρ o:=by
 obtain ⟨τ,x,y⟩:=h
 refine ⟨τ,x,fun D σ G0 H0 G H r k=>?_⟩
 obtain ⟨fp,r⟩:=r
 obtain ⟨v,f,fr,q1,q2,q3,q4⟩:=r.own.split hj
 have nd:=List.nodup_append.mp (q4.nodup_iff.mp r.d)
 have sub:∀ a ∈ f,a ∈ fp:=fun a ha=>q4.mem_iff.mpr (List.mem_append_left _ ha)
 have Jd:∀ a ∈ fr,a ∈ fp:=fun a ha=>q4.mem_iff.mpr (List.mem_append_right _ ha)
 have sm:ak G (eF G H f):=jw fun a ha=>r.g a (sub a ha)
 have lt:j < ρ.length:=by
  rcases Nat.lt_or_ge j ρ.length with z | z
  ·exact z
  ·rw [List.getElem?_eq_none z] at hj;cases hj
 obtain ⟨gK,p1,p2⟩:=(q3.mono sm (ak.refl _)).put (f:=[]) (t:=.fz (er t)) (pH lt) ⟨rfl,q2.hv sm fun a ha=>jA ha⟩
 rw [List.set_set,pU q1] at p1
 refine y D σ G0 H0 (eF G H f) H ⟨gK,⟨r.st.g.trans sm,r.st.h,oi r.st.s,fun a h h'=>?_⟩,p1,fun a ha=>?_,fun a ha=>r.n a (Jd a (p2.mem_iff.mp ha)),p2.nodup_iff.mpr nd.2.1⟩ k
 ·by_cases z:a ∈ f
  ·exact r.n a (sub a z)
  ·rw [pT z] at h';exact r.st.n a h h'
 ·have z:=p2.mem_iff.mp ha
  rw [pT fun z'=>nd.2.2 a z' a z rfl]
  exact r.g a (Jd a z)
theorem cT.chg {K:PySem.W.Frag}{G0 H0 G H G1 H1:Hp}{ρ:En}{σ:St}{fp:List Addr}{j:Nat}{t:Tr}(r:cT K G0 H0 G H ρ σ fp)(hj : ρ[j]?=some (some t))(s1:Step G H G1 H1) :
  ∃ v f,σ[j]?=some (some v)/\Ow K G H t v f/\Ow K G1 H1 t v f/\f.Nodup/\(∀ a ∈ f,a ∈ fp)/\∀ l o t' f',l ∈ f->Ow K G1 (upd H1 l o) t' v f'->f'.Nodup->(∀ a ∈ f',a ∈ f\/(H a=none/\G1 a=none))->RS K G0 H0 G1 (upd H1 l o) (ρ.set j (some t')) σ:=by
 obtain ⟨v,f,fr,q1,q2,q3,q4⟩:=r.own.split hj
 have cZ:=List.nodup_append.mp (q4.nodup_iff.mp r.d)
 have jY:∀ a ∈ f,a ∈ fp:=fun a ha=>q4.mem_iff.mpr (List.mem_append_left _ ha)
 have Km:∀ a ∈ fr,a ∈ fp:=fun a ha=>q4.mem_iff.mpr (List.mem_append_right _ ha)
 have lt:j < ρ.length:=by
  rcases Nat.lt_or_ge j ρ.length with z | z
  ·exact z
  ·rw [List.getElem?_eq_none z] at hj;cases hj
 have lG:∀ a ∈ fp,G1 a=none:=fun a ha=>by
  cases q:G1 a with
  |none=>rfl
  |some u =>
   obtain ⟨u',aJ⟩:=r.own.there a ha
   have:=s1.n a (r.g a ha) (by rw [q];exact fun z=>nomatch z)
   rw [aJ] at this;cases this
 refine ⟨v,f,q1,q2,q2.mono s1.g s1.h,cZ.1,jY,fun l o t' f' hl ow nw hw=>?_⟩
 have new:∀ a,H a=none->a ∉ fp:=fun a ha hb=>by
  obtain ⟨u,hu⟩:=r.own.there a hb
  rw [ha] at hu;cases hu
 have ZX:aL K G1 (upd H1 l o) (ρ.set j none) σ fr:=(q3.mono s1.g s1.h).frame fun z=>cZ.2.2 l hl l z rfl
 obtain ⟨gK,Ko,o8⟩:=ZX.put (pH lt) ow
 rw [List.set_set,pU q1] at Ko
 have Je:∀ a ∈ gK,a ∈ fp\/(H a=none/\G1 a=none):=fun a ha=>by
  rcases List.mem_append.mp (o8.mem_iff.mp ha) with z | z
  ·exact (hw a z).imp (jY a) id
  ·exact .inl (Km a z)
 refine ⟨gK,⟨(r.st.trans s1).g,fun b u hb=>?_,fun b u hb=>?_,(r.st.trans s1).n⟩,Ko,fun a ha=>?_,fun a ha=>?_,?_⟩
 ·have eV:=(r.st.trans s1).h b u hb
  rw [bF fun z=>?_]
  ·exact eV
  ·subst z;rw [r.n _ (jY _ hl)] at hb;cases hb
 ·have eV:=s1.s b u hb
  rw [bF fun z=>?_]
  ·exact eV
  ·subst z;rw [lG _ (jY _ hl)] at hb;cases hb
 ·exact (Je a ha).elim (lG a) fun z=>z.2
 ·exact (Je a ha).elim (r.n a) fun z=>r.st.h.free z.1
 ·refine o8.nodup_iff.mpr (List.nodup_append.mpr ⟨nw,cZ.2.1,fun a ha b hb z=>?_⟩)
  subst z
  rcases hw a ha with z | z
  ·exact cZ.2.2 a z a hb rfl
  ·exact new a z.1 (Km a hb)
theorem cT.mut {K:PySem.W.Frag}{G0 H0 G H G1 H1:Hp}{ρ:En}{σ:St}{fp:List Addr}{j:Nat}{us:List Tr}(r:cT K G0 H0 G H ρ σ fp)(hj : ρ[j]?=some (some (.ow us)))(s1:Step G H G1 H1) :
  ∃ l vs fq,σ[j]?=some (some (.ref l))/\H l=some (.lst vs)/\H1 l=some (.lst vs)/\aE K G1 H1 us vs fq/\fq.Nodup/\(∀ a ∈ fq,a ∈ fp)/\∀ u3 ws fw,aE K G1 H1 u3 ws fw->fw.Nodup->(∀ a ∈ fw,a ∈ fq\/(H a=none/\G1 a=none))->RS K G0 H0 G1 (upd H1 l (.lst ws)) (ρ.set j (some (.ow u3))) σ:=by
 obtain ⟨v,f,q1,q2,q3,nd,jY,q⟩:=r.chg hj s1
 obtain ⟨l,vs,fq,rfl,hl,ol,rfl⟩:=q3
 obtain ⟨l',mY,ZY,e1,u5,_,e2⟩:=q2
 cases e1
 have ev:mY=vs:=by
  have:=s1.h _ _ u5
  rw [hl] at this
  cases this;rfl
 subst ev
 have Kp:=List.nodup_cons.mp nd
 refine ⟨l,mY,fq,q1,u5,hl,ol,Kp.2,fun a ha=>jY a (.tail _ ha),fun u3 ws fw ow nw hw=>?_⟩
 have Kq:l ∉ fw:=fun z=>(hw l z).elim Kp.1 fun z=>by rw [z.1] at u5;cases u5
 exact q l (.lst ws) (.ow u3) (l::fw) (.head _) ⟨l,ws,fw,rfl,d8,ow.frame Kq,rfl⟩ (List.nodup_cons.mpr ⟨Kq,nw⟩) fun a ha=>(List.mem_cons.mp ha).elim (fun z=>.inl (z ▸ .head _)) fun z=>(hw a z).imp (fun z=>.tail _ z) id
theorem ip (j:Nat){x:Str}{us:List Tr}{p1 p2 p3:Pos}(h : ρ[j]?=some (some (.ow us)))(he:bp F e ρ t)(hz:us.length<sizeLine)(hN:∀ i,(F.cx i).N[j]?=some x:=by intro _;rfl)
  (hv:∀ i,fU (F.cx i).env.scope x:=by intro _;first | exact Or.inl rfl | exact Or.inr (Or.inl rfl) | exact Or.inr (Or.inr rfl)) (hd:(x==("__debug__" : Str))=false:=by decide) (hc:(x==("__classdict__" : Str))=false:=by decide)
  (fA:∀ i,attributeBase (.Name x p1) "append" (F.cx i).env (eval (.Name x p1) (F.cx i).env)=eval (.Name x p1) (F.cx i).env:=by intro _;rfl)
  (gx:∀ i,((backTo p3 (starEach [e] (F.cx i).env)).all (fun x=>!x.1)&&(backToKw p3 (keywordEach [] (F.cx i).env)).all (fun x=>x.1.isSome)&&decide (([e]:List Expr).length+([]:List Keyword).length+(if ([]:List Keyword).isEmpty then 0 else 1)<30))=true:=by intro _;rfl)
  (hline:(p2.endLine==p3.line)=true:=by rfl) (hs:∀ i,starEach [e] (F.cx i).env=[(false,eval e (F.cx i).env)]:=by intro _;rfl) (iS:∀ i,swapsWith (.Call (.Attribute (.Name x p1) "append" p2) [e] [] p3) none pos.line (F.cx i).env=pure false:=by intro _;rfl) :
  Rn F (.Expr (.Call (.Attribute (.Name x p1) "append" p2) [e] [] p3) pos) ρ (.nx (ρ.set j (some (.ow (us++[t]))))):=by
 obtain ⟨τ,y,z⟩:=he
 refine ⟨kB (jS F.K "list" tv (eQ j) (df τ eA)),fun i=>kj (F.hK i ▸ kC PySem.F.plainAttrs_list PySem.F.slot_list_append PySem.F.type_list_append pM (jb (hN i) (hv i) hd hc) (cX (y i) dN (hs i)) (fA i) (gx i) hline (hs i) rfl) (iS i),fun D σ G0 H0 G H r k=>?_⟩
 obtain ⟨fp,r⟩:=r
 obtain ⟨l0,u9,vd,c1,c2,_⟩:=r.mut h (.refl r.st.s)
 refine ⟨_,c1,.inl ⟨rfl,_,aN.of c2⟩,?_⟩
 refine z σ G H fp _ r.st.s r.own r.g fun v1 G1 H1 f1 s1 o1 w1=>?_
 obtain ⟨l,vs,fq,d1,d2,d3,d4,d5,d6,d7⟩:=r.mut h s1
 rw [c1] at d1
 cases d1
 refine ⟨l0,vs,v1,rfl,rfl,d3,by rw [<- d4.length];exact hz,k σ G1 _ (d7 (us++[t]) (vs++[v1]) (fq++(f1++[])) (d4.append ⟨v1,[],f1,[],rfl,rfl,o1,rfl,rfl⟩) ?_ fun a ha=>?_)⟩
 ·rw [List.append_nil]
  refine List.nodup_append.mpr ⟨d5,w1.d,fun a ha b hb e=>?_⟩
  subst e
  obtain ⟨u,hu⟩:=r.own.there a (d6 a ha)
  rw [w1.n a hb] at hu;cases hu
 ·rw [List.append_nil] at ha
  exact (List.mem_append.mp ha).imp id fun z=>⟨w1.n a z,w1.g a z⟩
theorem Pw (j:Nat){x:Str}{us:List Tr}{p1 p2 p3:Pos}(h : ρ[j]?=some (some (.ow us))){mY:List Tr}(he:bp F e ρ (.ow mY))(hz:us.length+mY.length<=sizeLine)(hN:∀ i,(F.cx i).N[j]?=some x:=by intro _;rfl)
  (hv:∀ i,fU (F.cx i).env.scope x:=by intro _;first | exact Or.inl rfl | exact Or.inr (Or.inl rfl) | exact Or.inr (Or.inr rfl)) (hd:(x==("__debug__" : Str))=false:=by decide) (hc:(x==("__classdict__" : Str))=false:=by decide)
  (fA:∀ i,attributeBase (.Name x p1) "extend" (F.cx i).env (eval (.Name x p1) (F.cx i).env)=eval (.Name x p1) (F.cx i).env:=by intro _;rfl)
  (gx:∀ i,((backTo p3 (starEach [e] (F.cx i).env)).all (fun x=>!x.1)&&(backToKw p3 (keywordEach [] (F.cx i).env)).all (fun x=>x.1.isSome)&&decide (([e]:List Expr).length+([]:List Keyword).length+(if ([]:List Keyword).isEmpty then 0 else 1)<30))=true:=by intro _;rfl)
  (hline:(p2.endLine==p3.line)=true:=by rfl) (hs:∀ i,starEach [e] (F.cx i).env=[(false,eval e (F.cx i).env)]:=by intro _;rfl) (iS:∀ i,swapsWith (.Call (.Attribute (.Name x p1) "extend" p2) [e] [] p3) none pos.line (F.cx i).env=pure false:=by intro _;rfl) :
  Rn F (.Expr (.Call (.Attribute (.Name x p1) "extend" p2) [e] [] p3) pos) ρ (.nx (ρ.set j (some (.ow (us++mY))))):=by
 obtain ⟨τ,y,z⟩:=he
 refine ⟨kB (jS F.K "list" xD (eQ j) (df τ eA)),fun i=>kj (F.hK i ▸ kC PySem.F.plainAttrs_list PySem.F.slot_list_extend PySem.F.type_list_extend DL (jb (hN i) (hv i) hd hc) (cX (y i) dN (hs i)) (fA i) (gx i) hline (hs i) rfl) (iS i),fun D σ G0 H0 G H r k=>?_⟩
 obtain ⟨fp,r⟩:=r
 obtain ⟨l0,u9,vd,c1,c2,_⟩:=r.mut h (.refl r.st.s)
 refine ⟨_,c1,.inl ⟨rfl,_,aN.of c2⟩,?_⟩
 refine z σ G H fp _ r.st.s r.own r.g fun v1 G1 H1 f1 s1 o1 w1=>?_
 obtain ⟨l,vs,fq,d1,d2,d3,d4,d5,d6,d7⟩:=r.mut h s1
 rw [c1] at d1
 cases d1
 obtain ⟨b,zs,ZZ,rfl,hb,ob,rfl⟩:=o1
 have wd:=List.nodup_cons.mp w1.d
 refine ⟨l0,b,vs,zs,rfl,rfl,d3,hb,by rw [<- d4.length,<- ob.length];exact hz,k σ G1 _ (d7 (us++mY) (vs++zs) (fq++ZZ) (d4.append ob) ?_ fun a ha=>?_)⟩
 ·refine List.nodup_append.mpr ⟨d5,wd.2,fun a ha b hb e=>?_⟩
  subst e
  obtain ⟨u,hu⟩:=r.own.there a (d6 a ha)
  rw [w1.n a (.tail _ hb)] at hu;cases hu
 ·exact (List.mem_append.mp ha).imp id fun z=>⟨w1.n a (.tail _ z),w1.g a (.tail _ z)⟩
end
end L2
namespace L2
open PySem PySem.Spec PyProof.Rows
def Ab (K:PySem.W.Frag)(G:Hp)(J:It)(its:List Dv):Prop:=∀ k G1 H1,ak G G1->ak G1 H1 ->
 (∀ d,its[k]?=some d->J.go k H1/\∀ x H3,J.uP k H1 x H3->∃ G3,Step G1 H1 G3 H3/\Hv K G3 d x)/\(k=its.length->J.stop k H1)
def bB {α:Type}:List Nat->List α->List (Option α)->List (Option α)
 |j::js,v::vs,σ => bB js vs (σ.set j (some v))
 |_,_,σ => σ
def gf {α:Type}:List Nat->List (Option α)->List (Option α)
 |[],ρ => ρ
 |j::js,ρ => gf js (ρ.set j none)
theorem RS.gf {K:PySem.W.Frag}{G0 H0 G H:Hp}:∀ {ρ:En} {σ:St} (js:List Nat),RS K G0 H0 G H ρ σ->RS K G0 H0 G H (L2.gf js ρ) σ
 |_,_,[],r=>r
 |_,_,j::js,r=>RS.gf js (r.forget j)
def Fg (ρ ρ':En):Prop:=∃ fs,L2.gf fs ρ = ρ'
theorem Fg.rs {K:PySem.W.Frag}{G0 H0 G H:Hp}{ρ ρ':En}{σ:St}(f:Fg ρ ρ')(r:RS K G0 H0 G H ρ σ):RS K G0 H0 G H ρ' σ:=by
 obtain ⟨fs,rfl⟩:=f
 exact r.gf fs
theorem RS.bB {K:PySem.W.Frag}{G0 H0 G H:Hp}:∀ {js:List Nat} {ds:List Dv} {vs:List V} {ρ:En} {σ:St},(∀ j ∈ js,j < ρ.length)->aD K G ds vs->RS K G0 H0 G H ρ σ->RS K G0 H0 G H (L2.bB js (ds.map .fz) ρ) (L2.bB js vs σ)
 |[],_,_,_,_,_,_,r=>r
 |_::_,[],_,_,_,_,h,r=>by rw [show _=[] from h];exact r
 |j::js,d::ds,_,ρ,σ,hj,⟨x,q,h1,h2,h3⟩,⟨fp,r⟩=>by
  subst h1
  have r':RS K G0 H0 G H (ρ.set j (some (.fz d))) (σ.set j (some x)):=r.set (t:=.fz d) (v:=x) (fq:=[]) (hj j (.head _)) (.refl r.st.s) ⟨rfl,h2⟩ .nil
  exact RS.bB (js:=js) (ds:=ds) (fun i hi=>by rw [List.length_set];exact hj i (.tail _ hi)) h3 r'
theorem bZ.set {K:PySem.W.Frag}{G:Hp}{ρ:En}{σ:St}{j:Nat}{d:Dv}{v:V}(r:bZ K G ρ σ)(hj:j < σ.length)(h:Hv K G d v):bZ K G (ρ.set j (some (.fz d))) (σ.set j (some v)):=fun i e hi=>by
 by_cases q:i=j
 ·subst q
  rw [List.getElem?_set_self (by
   rcases Nat.lt_or_ge i ρ.length with z | z
   ·exact z
   ·rw [List.getElem?_eq_none (by rw [List.length_set];exact z)] at hi;cases hi)] at hi
  cases hi
  exact ⟨v,by rw [List.getElem?_set_self hj],h⟩
 ·rw [List.getElem?_set_ne (Ne.symm q)] at hi
  obtain ⟨u,h1,h2⟩:=r i e hi
  exact ⟨u,by rw [List.getElem?_set_ne (Ne.symm q)];exact h1,h2⟩
theorem wI {α:Type}:∀ (js:List Nat) (vs:List α) (σ:List (Option α)),(bB js vs σ).length = σ.length
 |[],_,_=>rfl
 |_::_,[],_=>rfl
 |j::js,v::vs,σ => by
  show (bB js vs (σ.set j (some v))).length=_
  rw [wI js vs,List.length_set]
theorem bZ.bB {K:PySem.W.Frag}{G:Hp}:∀ {js:List Nat} {ds:List Dv} {vs:List V} {ρ:En} {σ:St},(∀ j ∈ js,j < σ.length)->aD K G ds vs->bZ K G ρ σ->bZ K G (L2.bB js (ds.map .fz) ρ) (L2.bB js vs σ)
 |[],_,_,_,_,_,_,r=>r
 |_::_,[],_,_,_,_,h,r=>by rw [show _=[] from h];exact r
 |j::js,d::ds,_,ρ,σ,hj,⟨x,q,h1,h2,h3⟩,r=>by
  subst h1
  exact bZ.bB (js:=js) (ds:=ds) (ρ:=ρ.set j (some (.fz d))) (fun i hi=>by rw [List.length_set];exact hj i (.tail _ hi)) h3 (r.set (hj j (.head _)) h2)
section
variable {ι:Type}
def aZ (F:aO ι)(tg iter:Expr)(ρ:En)(its:List Dv):Prop:=∃ wi:TI,(∀ i,PI (F.cx i) tg iter wi)/\∀ σ G H (R:It->Hp->Prop),ak G H->bZ F.K G ρ σ->(∀ J G' H',Step G H G' H'->Ab F.K G' J its->R J H')->wi σ H R
def zm (F:aO ι)(tg iter:Expr)(ρ:En)(its:List Dv):Prop:=∃ wi:TI,(∀ i,PI (F.cx i) tg iter wi)/\∀ σ G H fp (R:It->Hp->Prop),ak G H->aL F.K G H ρ σ fp->(∀ a ∈ fp,G a=none)->(∀ J G' H',Step G H G' H'->Ab F.K G' J its->R J H')->wi σ H R
def hU (F:aO ι)(tg:Expr)(js:List Nat)(sp:Dv->Option (List Dv)):Prop:=∃ g:TG,(∀ i,PG (F.cx i) tg g)/\∀ d dd v σ G H Q,sp d=some dd->ak G H->Hv F.K G d v->(∀ vs,aD F.K G dd vs->Q (bB js vs σ) H)->g v σ H Q
def uS (F:aO ι)(cA:List Stmt):TS:=fun D σ H=>∃ τ:TS,(∀ i,eU (F.cx i) cA τ) /\ τ D σ H
theorem Ii {F:aO ι}{cA:List Stmt}(i : ι):eU (F.cx i) cA (uS F cA):=fun pins s σ H D I ⟨τ,h,q⟩=>h i pins s σ H D I q
def uT (F:aO ι)(e:Expr):TT:=fun σ H Q=>∃ τ:TT,(∀ i,PT (F.cx i) e τ) /\ τ σ H Q
theorem Ul {F:aO ι}{e:Expr}(i : ι):PT (F.cx i) e (uT F e):=fun pins s σ H D I ⟨τ,h,q⟩=>h i pins s σ H D I q
def uE (F:aO ι)(e:Expr):TE:=fun σ H Q=>∃ τ:TE,(∀ i,PE (F.cx i) e τ) /\ τ σ H Q
theorem qC {F:aO ι}{e:Expr}(i : ι):PE (F.cx i) e (uE F e):=fun pins s σ H D I ⟨τ,h,q⟩=>h i pins s σ H D I q
variable {F:aO ι}{e a b c tg iter elt:Expr}{es:List Expr}{ρ ρ1:En}{t ta:Tr}{ts:List Tr}{pos:Pos}{o:Out}{body:List Stmt}{its:List Dv}{js:List Nat}{sp:Dv->Option (List Dv)}
theorem aZ.s (h:aZ F tg iter ρ its):zm F tg iter ρ its:=let ⟨w,x,y⟩:=h;⟨w,x,fun σ G H fp R s r _ k=>y σ G H R s r.o9 k⟩
theorem bK (j:Nat){x:Str}(hN:∀ i,(F.cx i).N.Nodup)(hi:∀ i,(F.cx i).N[j]?=some x:=by intro _;rfl)(hx:∀ i,Loc (F.cx i).env.scope x:=by intro _;first | exact Or.inl rfl | exact Or.inr rfl)
  (hf:∀ i,(F.cx i).fn x=true\/(F.cx i).env.scope.names.lookup x=some .local:=by intro _;first | exact .inl rfl | exact .inr rfl):hU F (.Name x pos) [j] (fun d=>some [d]) :=
 ⟨iA j,fun i=>ox (hN i) (hi i) (hx i) (hf i),fun d dd v σ G H Q e s h k=>by
  cases e
  exact k [v] ⟨v,[],rfl,h,rfl⟩⟩
def yw (n:Nat):Dv->Option (List Dv)
 | .tup ds=>if ds.length=n then some ds else none
 |_=>none
theorem cB {xs:List Dv}(ha:Ev F e ρ ta)(ea:er ta=.lst xs):aZ F tg e ρ xs:=by
 obtain ⟨τ,p,q⟩:=ha.use
 refine ⟨HS F.K τ,fun i=>F.hK i ▸ Q2 (p i),fun σ G H R s r k=>q σ G H _ s r fun x G1 H1 s1 hx=>?_⟩
 rw [ea] at hx
 obtain ⟨l,vs,rfl,h1,h2⟩:=hx
 refine ⟨l,rfl,⟨vs,s1.s.seq h1⟩,k _ G1 H1 s1 fun j G2 H2 sg sh=>⟨fun d hd=>?_,fun hz=>⟨vs,(sg.trans sh).seq h1,by rw [<- h2.length,hz];exact Nat.le_refl _⟩⟩⟩
 obtain ⟨v,q1,q2⟩:=h2.get hd
 refine ⟨⟨vs,v,(sg.trans sh).seq h1,q1⟩,?_⟩
 rintro x H3 ⟨rfl,hx⟩
 have:=hx vs ((sg.trans sh).seq h1)
 rw [q1] at this
 cases this
 exact ⟨G2,.refl sh,q2.mono sg⟩
abbrev fR (lo:Int)(n:Nat):List Dv:=(List.range n).map fun k=>di (lo+(k:Nat))
theorem Ro {K:PySem.W.Frag}{G:Hp}(lo:Int)(n:Nat):Ab K G (uR lo n) (fR lo n):=fun k G1 H1 sg sh=>by
 refine ⟨fun d hd=>?_,fun hz=>by show n<=k;rw [hz];simp⟩
 rw [List.getElem?_map] at hd
 rcases Nat.lt_or_ge k n with hk | hk
 ·rw [List.getElem?_range hk] at hd
  cases hd
  refine ⟨hk,?_⟩
  rintro x H3 ⟨rfl,rfl⟩
  exact ⟨G1,.refl sh,rfl,rfl⟩
 ·rw [List.getElem?_eq_none (by simpa using hk)] at hd;cases hd
theorem ft {n:Int} (hm:F.mg "range" = none) (ha:Ev F a ρ (ti n)) (hb : -(2 ^ 62)<=n/\n<2 ^ 62) {p:Pos} (hg:∀ i,Gl (F.cx i) "range" := by intro _;rfl) (hs:∀ i,starEach [a] (F.cx i).env=[(false,eval a (F.cx i).env)]:=by intro _;rfl):aZ F tg (.Call (.Name "range" p) [a] [] pos) ρ (fR 0 n.toNat):=by
 obtain ⟨τ,p,q⟩:=ha.use
 refine ⟨HU (df τ eA),fun i=>Ph (hg i) ((F.hm i).symm ▸ hm) (cX (p i) dN (hs i)) (hs i),fun σ G H R s r k=>q σ G H _ s r fun x G1 H1 s1 hx=>?_⟩
 exact ⟨n,by rw [aB hx],hb.1,hb.2,k _ G1 H1 s1 (Ro 0 n.toNat)⟩
theorem zo {js:List Nat}{n:Nat}(h:js.all (fun j=>Nat.blt j n)=true):∀ j ∈ js,j<n:=fun j hj=>Nat.le_of_ble_eq_true (List.all_eq_true.mp h j hj)
theorem Jf {i : ι}(hx:(F.cx i).xe=cv):PassesOwn (model (F.cx i).prog (F.cx i).w) (F.cx i).A (F.cx i).env (F.cx i).xe:=by rw [hx];exact PassesOwn.never
theorem OB (hi:zm F tg iter ρ its)(hg:hU F tg js sp)(inv:Nat->En)(m:Nat)(hm:m<=its.length)(h0:inv 0 = ρ)(hlen:∀ k,js.all (fun j=>Nat.blt j (inv k).length)=true)
  (step:∀ k d,k<m->its[k]?=some d->∃ dd mZ,sp d=some dd/\aV F body (bB js (dd.map .fz) (inv k)) (.nx mZ)/\Fg mZ (inv (k+1)))
  (fin:(m=its.length/\o=.nx (inv m))\/∃ d dd t,its[m]?=some d/\sp d=some dd/\aV F body (bB js (dd.map .fz) (inv m)) (.rt t)/\o=.rt t)
  (hx:∀ i,(F.cx i).xe=cv:=by intro _;rfl) (hs:∀ i x,foldedSetIterable iter (F.cx i).env x=pure x:=by intro _ _;rfl):Rn F (.For tg iter body [] pos) ρ o:=by
 obtain ⟨wi,p,q⟩:=hi
 obtain ⟨g,pg,qg⟩:=hg
 subst h0
 refine ⟨IT wi g (uS F body),fun i=>S0 (Jf (hx i)) (F.calm i) (p i) (pg i) (Ii i) (hs i),fun D σ G0 H0 G H r k=>?_⟩
 obtain ⟨fp,r⟩:=r
 refine q σ G H fp _ r.st.s r.own r.g fun J G1 H1 s1 it=>?_
 have r1:cT F.K G0 H0 G1 H1 (inv 0) σ fp:=⟨r.st.trans s1,r.own.mono s1.g s1.h,r.own.off s1 r.g,r.n,r.d⟩
 have kb:=k.under r1.base
 refine ⟨fun k m' aA H'=>m'=its.length-k/\k<=m/\∃ G',RS F.K G1 (less H1 fp) G' H' (inv k) aA,⟨_,rfl,Nat.zero_le _,G1,fp,r1.rebase⟩,?_⟩
 rintro n m' aA H' ⟨rfl,hn,G',r'⟩
 obtain ⟨gK,r'⟩:=r'
 obtain ⟨i1,i2⟩:=it n G' H' r'.st.g r'.st.s
 by_cases aX:n<m
 ·have hd:its[n]?=some its[n]:=List.getElem?_eq_getElem (by omega)
  obtain ⟨j1,j2⟩:=i1 _ hd
  refine .inr ⟨j1,fun dR H2=>∃ G2,RS F.K G1 (less H1 fp) G2 H2 (inv (n+1)) dR,fun dR H2 z=>⟨its.length-(n+1),by omega,rfl,aX,z⟩,fun x H3 y=>?_⟩
  obtain ⟨G3,s3,h3⟩:=j2 x H3 y
  obtain ⟨dd,mZ,e1,⟨τ,pb,qb⟩,e2⟩:=step n _ aX hd
  refine qg _ dd x aA G3 H3 _ e1 s3.s h3 fun vs m3=>⟨τ,pb,qb _ _ G1 (less H1 fp) G3 H3 (RS.bB (zo (hlen n)) m3 ⟨gK,r'.st.trans s3,r'.own.mono s3.g s3.h,fun a ha=>?_,r'.n,r'.d⟩) fun Z0 G4 H4 r4=>⟨G4,e2.rs r4⟩⟩
  cases q:G3 a with
  |none=>rfl
  |some u =>
   obtain ⟨u',aJ⟩:=r'.own.there a ha
   have:=s3.n a (r'.g a ha) (by rw [q];exact fun z=>nomatch z)
   rw [aJ] at this;cases this
 ·have en:n=m:=by omega
  subst en
  rcases fin with ⟨e,rfl⟩ | ⟨d,dd,t,hd,e1,⟨τ,pb,qb⟩,rfl⟩
  ·refine .inl ⟨i2 e,kb aA G' H' ⟨gK,r'⟩⟩
  ·obtain ⟨j1,j2⟩:=i1 d hd
   refine .inr ⟨j1,fun _ _=>False,fun _ _ z=>z.elim,fun x H3 y=>?_⟩
   obtain ⟨G3,s3,h3⟩:=j2 x H3 y
   refine qg d dd x aA G3 H3 _ e1 s3.s h3 fun vs m3=>⟨τ,pb,qb _ _ G1 (less H1 fp) G3 H3 (RS.bB (zo (hlen n)) m3 ⟨gK,r'.st.trans s3,r'.own.mono s3.g s3.h,fun a ha=>?_,r'.n,r'.d⟩) kb⟩
   cases q:G3 a with
   |none=>rfl
   |some u =>
    obtain ⟨u',aJ⟩:=r'.own.there a ha
    have:=s3.n a (r'.g a ha) (by rw [q];exact fun z=>nomatch z)
    rw [aJ] at this;cases this
theorem cY (hi:zm F tg iter ρ its)(hg:hU F tg js sp)(inv:Nat->En)(h0:inv 0 = ρ)(hlen:∀ k,js.all (fun j=>Nat.blt j (inv k).length)=true)
  (step:∀ k d,its[k]?=some d->∃ dd mZ,sp d=some dd/\aV F body (bB js (dd.map .fz) (inv k)) (.nx mZ)/\Fg mZ (inv (k+1)))
  (hx:∀ i,(F.cx i).xe=cv:=by intro _;rfl) (hs:∀ i x,foldedSetIterable iter (F.cx i).env x=pure x:=by intro _ _;rfl):Rn F (.For tg iter body [] pos) ρ (.nx (inv its.length)) :=
 OB hi hg inv its.length (Nat.le_refl _) h0 hlen (fun k d _ h=>step k d h) (.inl ⟨rfl,rfl⟩) hx hs
theorem Qp (inv:Nat->En)(n:Nat)(h0:inv 0 = ρ)(turn:∀ k,k<n->cU F c (inv k) true/\aV F body (inv k) (.nx (inv (k+1))))(stop:cU F c (inv n) false)
  (hx:∀ i,(F.cx i).xe=cv:=by intro _;rfl):Rn F (.While c body [] pos) ρ (.nx (inv n)):=by
 subst h0
 refine ⟨F0 (uT F c) (uS F body),fun i=>Qa (Jf (hx i)) (Ul i) (Ii i),fun D σ G0 H0 G H r k=>?_⟩
 refine ⟨fun m' aA H'=>∃ j G',j<=n/\m'=n-j/\RS F.K G0 H0 G' H' (inv j) aA,⟨_,0,G,Nat.zero_le _,rfl,r⟩,?_⟩
 rintro m' aA H' ⟨j,G',hj,rfl,fp,r'⟩
 have key:∀ {G1 H1:Hp},Step G' H' G1 H1->RS F.K G0 H0 G1 H1 (inv j) aA:=fun {G1 H1} s1=>⟨fp,r'.st.trans s1,r'.own.mono s1.g s1.h,r'.own.off s1 r'.g,r'.n,r'.d⟩
 by_cases aX:j<n
 ·obtain ⟨⟨τ,x,y⟩,⟨bV,x',y'⟩⟩:=turn j aX
  refine ⟨τ,x,y aA G' H' fp _ r'.st.s r'.own r'.g fun G1 H1 s1=>mn ⟨fun dR H2=>∃ G2,RS F.K G0 H0 G2 H2 (inv (j+1)) dR,fun dR H2 ⟨G2,z⟩=>⟨n-(j+1),by omega,j+1,G2,aX,rfl,z⟩,bV,x',?_⟩⟩
  exact y' _ aA G0 H0 G1 H1 (key s1) fun Z0 G4 H4 r4=>⟨G4,r4⟩
 ·have e:j=n:=by omega
  subst e
  obtain ⟨τ,x,y⟩:=stop
  exact ⟨τ,x,y aA G' H' fp _ r'.st.s r'.own r'.g fun G1 H1 s1=>mj (k aA G1 H1 (key s1))⟩
theorem N2 {α:Type}(S : α->En)(Pp : α->Prop)(p : α->Bool)(μ : α->Nat)(hc:∀ a,Pp a->cU F c (S a) (p a))(hb:∀ a,Pp a->p a=true->∃ a',Pp a' /\ μ a' < μ a/\aV F body (S a) (.nx (S a')))(a0 : α)(h0:Pp a0)
  (hx:∀ i,(F.cx i).xe=cv:=by intro _;rfl):∃ a',Pp a'/\p a'=false/\Rn F (.While c body [] pos) (S a0) (.nx (S a')):=by
 have:∀ (m:Nat) (a : α),μ a<=m->Pp a->∃ (n:Nat) (f:Nat -> α),f 0=a/\(∀ k,k<n->Pp (f k)/\p (f k)=true/\aV F body (S (f k)) (.nx (S (f (k+1)))))/\Pp (f n)/\p (f n)=false:=by
  intro m
  induction m with
  |zero =>
   intro a hm ha
   cases hp:p a with
   |false=>exact ⟨0,fun _=>a,rfl,fun k hk=>absurd hk (Nat.not_lt_zero _),ha,hp⟩
   |true =>
    obtain ⟨a',_,h2,_⟩:=hb a ha hp
    omega
  |succ m ih =>
   intro a hm ha
   cases hp:p a with
   |false=>exact ⟨0,fun _=>a,rfl,fun k hk=>absurd hk (Nat.not_lt_zero _),ha,hp⟩
   |true =>
    obtain ⟨a',h1,h2,h3⟩:=hb a ha hp
    obtain ⟨n,f,f0,f1,f2,f3⟩:=ih a' (by omega) h1
    refine ⟨n+1,fun k=>match k with | 0=>a | k+1=>f k,rfl,fun k hk=>?_,f2,f3⟩
    cases k with
    |zero=>exact ⟨ha,hp,by show aV F body (S a) (.nx (S (f 0)));rw [f0];exact h3⟩
    |succ k=>exact f1 k (by omega)
 obtain ⟨n,f,f0,f1,f2,f3⟩:=this (μ a0) a0 (Nat.le_refl _) h0
 refine ⟨f n,f2,f3,Qp (fun k=>S (f k)) n (by rw [f0]) (fun k hk=>?_) (by have:=hc _ f2;rw [f3] at this;exact this) hx⟩
 obtain ⟨g1,g2,g3⟩:=f1 k hk
 exact ⟨by have:=hc _ g1;rw [g2] at this;exact this,g3⟩
structure U5 where
 C:Addr
 s:Shared
 H:Hp
 ex:List Addr
 pn:List (Addr×Obj)
def cy (F:aO ι)(own:List Str)(fr:List Nat)(sc:Scope)(cl : ι->List (Str×Addr)):aO (ι×U5) where
 cx i:=cO (F.cx i.1) own fr sc (cl i.1) i.2.C i.2.s i.2.H i.2.ex i.2.pn
 P:=F.P
 w:=F.w
 K:=F.K
 mg:=F.mg
 base:=F.base
 room:=F.room
 hP i:=F.hP i.1
 hw i:=F.hw i.1
 hK i:=F.hK i.1
 hm i:=F.hm i.1
 hb i:=F.hb i.1
 hr i:=F.hr i.1
 calm i:=F.calm i.1
def cq (own:List Str)(fr:List Nat)(ρ:En):En:=own.map (fun _=>none)++fr.map fun j=>(ρ[j]?).join
theorem Tq {K:PySem.W.Frag}{G:Hp}{own:List Str}{fr:List Nat}{ρ:En}{σ:St}(r:bZ K G ρ σ):bZ K G (cq own fr ρ) (pY own fr σ):=fun i d h=>by
 unfold cq at h
 unfold pY
 by_cases hi:i<own.length
 ·rw [List.getElem?_append_left (by simpa using hi),List.getElem?_map] at h
  cases q:own[i]? with
  |none=>rw [q] at h;cases h
  |some z=>rw [q] at h;cases h
 ·rw [List.getElem?_append_right (by simpa using hi),List.getElem?_map,List.length_map] at h
  rw [List.getElem?_append_right (by simpa using hi),List.getElem?_map,List.length_map]
  cases q:fr[i-own.length]? with
  |none=>rw [q] at h;cases h
  |some j =>
   rw [q] at h
   have h':(ρ[j]?).join=some (.fz d):=Option.some.inj h
   have hj : ρ[j]?=some (some (.fz d)):=by
    cases q2 : ρ[j]? with
    |none=>rw [q2] at h';cases h'
    |some o=>rw [q2] at h';exact congrArg some h'
   obtain ⟨v,h1,h2⟩:=r j d hj
   refine ⟨v,?_,h2⟩
   show some ((σ[j]?).join)=_
   rw [h1]
   rfl
def El {κ:Type}(F:aO κ)(ifs:List Expr)(ρ:En)(b:Bool):Prop:=∃ tt:TT,(∀ i (pins:List (Addr×Obj)) (s1:Shared) (aF:St) (H1:Hp) (Q:Bool->Hp->Prop),Inv (F.cx i) pins aF H1 s1->tt aF H1 Q ->
   wpAny (model (F.cx i).prog (F.cx i).w) (F.cx i).A (jy ifs (F.cx i).env) (TP (F.cx i) pins aF Q) cv s1)/\∀ σ G H Q,ak G H->bZ F.K G ρ σ->(∀ G' H',Step G H G' H'->Q b H')->tt σ H Q
theorem Gx:El F [] ρ true:=⟨Rh,fun i pins s1 aF H1 Q I h=>Ug pins s1 aF H1 Q I h,fun σ G H Q s r k=>k G H (.refl s)⟩
theorem iw {p:Bool}(h:Et F c ρ p)(hx:∀ i,(F.cx i).xe=cv:=by intro _;rfl):El F [c] ρ p:=let ⟨τ,x,y⟩:=h;⟨τ,fun i pins s1 aF H1 Q I h=>Uh (x i) (hx i) pins s1 aF H1 Q I h,y⟩
def uL {κ:Type}(F:aO κ)(ifs:List Expr):TT:=fun σ H Q=>∃ tt:TT,(∀ i (pins:List (Addr×Obj)) (s1:Shared) (aF:St) (H1:Hp) (Q:Bool->Hp->Prop),Inv (F.cx i) pins aF H1 s1->tt aF H1 Q ->
   wpAny (model (F.cx i).prog (F.cx i).w) (F.cx i).A (jy ifs (F.cx i).env) (TP (F.cx i) pins aF Q) cv s1)/\tt σ H Q
def ve (F:aO ι)(own:List Str)(fr:List Nat)(sc:Scope)(cl : ι->List (Str×Addr))(elt tg iter:Expr)(ifs:List Expr)(τ:TE):Prop:=∃ wi g tt te,τ=zU wi g tt te own fr/\(∀ i,PI (F.cx i) tg iter wi)/\(∀ i,PG ((cy F own fr sc cl).cx i) tg g) /\
 (∀ i (pins:List (Addr×Obj)) (s1:Shared) (aF:St) (H1:Hp) (Q:Bool->Hp->Prop),Inv ((cy F own fr sc cl).cx i) pins aF H1 s1->tt aF H1 Q->wpAny (model ((cy F own fr sc cl).cx i).prog ((cy F own fr sc cl).cx i).w) ((cy F own fr sc cl).cx i).A (jy ifs ((cy F own fr sc cl).cx i).env) (TP ((cy F own fr sc cl).cx i) pins aF Q) cv s1) /\
 ∀ i,PE ((cy F own fr sc cl).cx i) elt te
def eX (F:aO ι)(own:List Str)(fr:List Nat)(sc:Scope)(cl : ι->List (Str×Addr))(elt tg iter:Expr)(ifs:List Expr)(ρ:En)(t:Tr):Prop:=∃ τ,ve F own fr sc cl elt tg iter ifs τ/\∀ σ G H Q,ak G H->bZ F.K G ρ σ->Kv F.K G H t Q -> τ σ H Q
theorem Kr {ifs:List Expr}{sc:Scope}{own:List Str}{fr:List Nat}{cl : ι->List (Str×Addr)}(hi:aZ F tg iter ρ its)(hg:hU (cy F own fr sc cl) tg js sp)(gL:∀ j ∈ js,j<own.length)
  (p:Nat->Bool) (f:Nat->Tr) (hz:its.length<sizeLine)
  (step:∀ k d,its[k]?=some d->∃ dd,sp d=some dd/\El (cy F own fr sc cl) ifs (bB js (dd.map .fz) (cq own fr ρ)) (p k)/\(p k=true->Ev (cy F own fr sc cl) elt (bB js (dd.map .fz) (cq own fr ρ)) (f k)))
  (gS:∀ dd:List Dv,gf js (bB js (dd.map .fz) (cq own fr ρ))=cq own fr ρ):eX F own fr sc cl elt tg iter ifs ρ (.ow (((List.range its.length).filter p).map f)):=by
 obtain ⟨wi,pi,qi⟩:=hi
 obtain ⟨g,pg,qg⟩:=hg
 refine ⟨_,⟨wi,g,uL (cy F own fr sc cl) ifs,uE (cy F own fr sc cl) elt,rfl,pi,pg,fun i pins s1 aF H1 Q I h=>by
   obtain ⟨tt,h1,h2⟩:=h
   exact h1 i pins s1 aF H1 Q I h2,fun i=>qC i⟩,fun σ G H Q s r k=>?_⟩
 refine qi σ G H _ s r fun J G1 H1 s1 it acc dO=>?_
 have k1:=k.step s1
 have Gy:∀ {G':Hp} {js':List Nat} {ρ':En} {aA:St},bZ F.K G' ρ' aA->bZ F.K G' (gf js' ρ') aA:=by
  intro G' js'
  induction js' with
  |nil=>intro ρ' aA z;exact z
  |cons j js' ih =>
   intro ρ' aA z
   refine ih (ρ':=ρ'.set j none) fun i d hd=>?_
   by_cases q:j=i
   ·subst q
    rw [List.getElem?_set] at hd
    simp at hd
   ·rw [List.getElem?_set_ne q] at hd
    exact z i d hd
 refine ⟨fun i m ys aF H2=>m=its.length-i/\i<=its.length/\aF.length=own.length+fr.length/\H2 acc=some (.lst ys)/\∃ G2 fq,Step G1 H1 G2 H2/\aE F.K G2 H2 (((List.range i).filter p).map f) ys fq/\Nw H1 G2 (acc::fq)/\bZ F.K G2 (cq own fr ρ) aF,
  ⟨_,rfl,Nat.zero_le _,by simp [pY],d8,G1,[],.kG s1.s dO,⟨rfl,rfl⟩,⟨fun a ha=>by rw [List.mem_singleton.mp ha];exact dO,fun a ha=>by rw [List.mem_singleton.mp ha];exact s1.s.free dO,by simp⟩,(Tq r).mono s1.g⟩,?_⟩
 rintro i m ys aF H2 ⟨rfl,hi,Ks,rH,G2,fq,s2,o2,w2,r2⟩
 have hlen:ys.length<sizeLine:=by
  rw [<- o2.length,List.length_map]
  have:=List.length_filter_le p (List.range i)
  rw [List.length_range] at this
  omega
 refine ⟨rH,hlen,?_⟩
 obtain ⟨i1,i2⟩:=it i G2 H2 s2.g s2.s
 by_cases aX:i<its.length
 ·have hd:its[i]?=some its[i]:=List.getElem?_eq_getElem aX
  obtain ⟨j1,j2⟩:=i1 _ hd
  obtain ⟨dd,e1,el,ev⟩:=step i _ hd
  refine .inr ⟨j1,fun zs dR H3=>dR.length=own.length+fr.length/\H3 acc=some (.lst zs)/\∃ G3 fq,Step G1 H1 G3 H3/\aE F.K G3 H3 (((List.range (i+1)).filter p).map f) zs fq/\Nw H1 G3 (acc::fq)/\bZ F.K G3 (cq own fr ρ) dR,
   fun zs dR H3 z=>⟨its.length-(i+1),by omega,rfl,aX,z⟩,fun x H3 y=>?_⟩
  obtain ⟨G3,s3,h3⟩:=j2 x H3 y
  refine qg _ dd x aF G3 H3 _ e1 s3.s h3 fun vs m3=>?_
  have Z1:∀ j ∈ js,j<aF.length:=fun j hj=>by have:=gL j hj;omega
  have rr:bZ F.K G3 (bB js (dd.map .fz) (cq own fr ρ)) (bB js vs aF):=bZ.bB Z1 m3 (r2.mono s3.g)
  have Ij:∀ {Ga Ha Gb Hb:Hp} {fs:List Addr},Step Ga Ha Gb Hb->(∀ a ∈ fs,Ga a=none)->(∀ a ∈ fs,∃ o,Ha a=some o)->∀ a ∈ fs,Gb a=none:=fun {Ga Ha Gb Hb fs} st h1 h2 a ha=>by
   cases q:Gb a with
   |none=>rfl
   |some u =>
    obtain ⟨u',aJ⟩:=h2 a ha
    have:=st.n a (h1 a ha) (by rw [q];exact fun z=>nomatch z)
    rw [aJ] at this;cases this
  have Ac:∀ a ∈ acc::fq,∃ o,H2 a=some o:=fun a ha=>(List.mem_cons.mp ha).elim (fun z=>⟨_,z ▸ rH⟩) (o2.there a)
  have er:(List.range (i+1)).filter p=(List.range i).filter p++if p i=true then [i] else []:=by
   rw [List.range_succ,List.filter_append]
   congr 1
   simp only [List.filter_cons,List.filter_nil]
  obtain ⟨tt,pt,qt⟩:=el
  refine ⟨tt,pt,qt _ G3 H3 _ s3.s rr fun G5 H5 s5=>?_⟩
  have kS:=s3.trans s5
  cases hp:p i with
  |false =>
   refine mj ⟨by rw [wI];exact Ks,kS.h _ _ rH,G5,fq,s2.trans kS,?_,⟨w2.n,Ij kS w2.g Ac,w2.d⟩,?_⟩
   ·rw [er,hp,if_neg (by decide),List.append_nil]
    exact o2.mono kS.g kS.h
   ·have:=Gy (js':=js) (rr.mono s5.g)
    rwa [gS dd] at this
  |true =>
   obtain ⟨te,pe,qe⟩:=ev hp
   refine mn ⟨te,pe,qe _ G5 H5 _ s5.s (rr.mono s5.g) fun v G6 H6 f6 s6 o6 w6=>?_⟩
   have m4:=kS.trans s6
   have Z2:=m4.h _ _ rH
   have Ad:∀ a ∈ f6,a ∉ acc::fq:=fun a ha hb=>by
    obtain ⟨u,hu⟩:=Ac a hb
    have:=kS.h _ _ hu
    rw [w6.n a ha] at this;cases this
   have Ae:=List.nodup_cons.mp w2.d
   have g6:=Ij m4 w2.g Ac
   refine ⟨Z2,by rw [wI];exact Ks,d8,G6,fq++(f6++[]),⟨(s2.trans m4).g,fun b u hb=>?_,fun b u hb=>?_,(s2.trans m4).n⟩,?_,⟨fun a ha=>?_,fun a ha=>?_,?_⟩,?_⟩
   ·rw [bF fun z=>by subst z;rw [dO] at hb;cases hb]
    exact (s2.trans m4).h b u hb
   ·rw [bF fun z=>by subst z;rw [g6 _ (.head _)] at hb;cases hb]
    exact s6.s b u hb
   ·rw [er,hp,if_pos rfl,List.map_append]
    refine aE.append ((o2.mono m4.g m4.h).frame Ae.1) ⟨v,[],f6,[],rfl,rfl,o6.frame fun z=>Ad _ z (.head _),rfl,rfl⟩
   ·rw [List.append_nil] at ha
    rcases List.mem_cons.mp ha with z | z
    ·exact w2.n a (z ▸ .head _)
    ·rcases List.mem_append.mp z with z | z
     ·exact w2.n a (.tail _ z)
     ·exact (s2.trans kS).h.free (w6.n a z)
   ·rw [List.append_nil] at ha
    rcases List.mem_cons.mp ha with z | z
    ·exact g6 a (z ▸ .head _)
    ·rcases List.mem_append.mp z with z | z
     ·exact g6 a (.tail _ z)
     ·exact w6.g a z
   ·rw [List.append_nil]
    refine List.nodup_cons.mpr ⟨fun z=>?_,List.nodup_append.mpr ⟨Ae.2,w6.d,fun a ha b hb z=>?_⟩⟩
    ·rcases List.mem_append.mp z with z | z
     ·exact Ae.1 z
     ·exact Ad _ z (.head _)
    ·subst z;exact Ad a hb (.tail _ ha)
   ·have:=Gy (js':=js) (rr.mono (s5.trans s6).g)
    rwa [gS dd] at this
 ·have e:i=its.length:=by omega
  subst e
  refine .inl ⟨i2 rfl,k1 (.ref acc) G2 H2 (acc::fq) s2 ⟨acc,ys,fq,rfl,rH,o2,rfl⟩ w2⟩
theorem yx {ifs:List Expr}{sc:Scope}{own:List Str}{fr:List Nat}{cl : ι->List (Str×Addr)}(L:∀ i,jz (F.cx i) sc (cl i) fr)(hi:aZ F tg iter ρ its)(hg:hU (cy F own fr sc cl) tg js sp)(gL:∀ j ∈ js,j<own.length)
  (p:Nat->Bool) (f:Nat->Tr) (hz:its.length<sizeLine)
  (step:∀ k d,its[k]?=some d->∃ dd,sp d=some dd/\El (cy F own fr sc cl) ifs (bB js (dd.map .fz) (cq own fr ρ)) (p k)/\(p k=true->Ev (cy F own fr sc cl) elt (bB js (dd.map .fz) (cq own fr ρ)) (f k)))
  (gS:∀ dd:List Dv,gf js (bB js (dd.map .fz) (cq own fr ρ))=cq own fr ρ)
  (hs:∀ i x,foldedSetIterable iter (F.cx i).env x=pure x:=by intro _ _;rfl) :
  Ev F (.ListComp elt [⟨tg,iter,ifs,0⟩] sc pos) ρ (.ow (((List.range its.length).filter p).map f)):=by
 obtain ⟨τ,⟨wi,g,tt,te,rfl,h1,h2,h3,h4⟩,h5⟩:=Kr (ifs:=ifs) hi hg gL p f hz step gS
 exact ⟨_,fun i=>Ud (cl:=cl i) (L i) (F.calm i) (h1 i) (fun C s H ex pn=>h2 (i,⟨C,s,H,ex,pn⟩)) (fun C s H ex pn=>h3 (i,⟨C,s,H,ex,pn⟩)) (fun C s H ex pn=>h4 (i,⟨C,s,H,ex,pn⟩)) (hs i),h5⟩
end
structure Z3 (k:Nat) (qual:Str) (sc:Scope) (f:Addr) where
 bI:Value
 A:Around
 outer:List Env
 s:Shared
 H:Hp
 E:XK
 hr:dw k (A.deeper (envOfC qual sc s.heap.objs.size f bI))
def uD (P:Program)(w:World)(K:PySem.W.Frag)(mg:Str->Option Value)(base:Heap)(N:List Str)(qual:Str)(sc:Scope)(f:Addr)(k:Nat):aO (Z3 k qual sc f) where
 cx i:=(jK ao P w K mg base N qual sc f i.bI i.A i.outer i.s i.H i.E).rg
 P:=P
 w:=w
 K:=K
 mg:=mg
 base:=base
 room:=k
 hP _:=rfl
 hw _:=rfl
 hK _:=rfl
 hm _:=rfl
 hb _:=rfl
 hr i:=i.hr
 calm _:=rfl
def Kt (N:List Str)(dd:List Dv):En:=dd.map (fun d=>some (.fz d))++List.replicate (N.length-dd.length) none
theorem Eg {K:PySem.W.Frag}{G H:Hp}:∀ n:Nat,aL K G H (List.replicate n none) (List.replicate n none) []
 |0=>⟨rfl,rfl⟩
 |n+1=>⟨none,List.replicate n none,rfl,Eg n⟩
theorem DP {K:PySem.W.Frag}{G H:Hp}{n:Nat}:∀ {dd:List Dv} {vs:List V},aD K G dd vs->aL K G H (dd.map (fun d=>some (.fz d))++List.replicate n none) (vs.map some++List.replicate n none) []
 |[],_,h=>by rw [show _=[] from h];exact Eg n
 |_::_,_,⟨x,r,h1,h2,h3⟩=>by subst h1;exact ⟨x,_,[],[],rfl,rfl,⟨rfl,h2⟩,DP h3⟩
theorem bC {P:Program}{w:World}{K:PySem.W.Frag}{mg:Str->Option Value}{base:Heap}{x qual:Str}{st:Stmt}{dV:Value}{f:Addr}{fd:FuncData}{N ps:List Str}{k:Nat}{R:List Dv->Tr->Prop}(Fd:oX K x qual st dV f fd)(S:bh N ps (au st))
  (hl:∀ dd t,R dd t->dd.length=ps.length)
  (hb:∀ dd t,R dd t->∃ o,(o=.rt t\/(t=tn/\∃ ρ',o=.nx ρ'))/\aV (uD P w K mg base N qual (au st) f k) (aP st) (Kt N dd) o):aR P w K mg base ao (k+1) f fd ps (spT K R):=by
 refine Fd.ok S (fun vs H Q E ⟨G,dd,t,s,h1,h2,h3⟩=>by rw [<- h1.length];exact hl dd t h2) fun bI A outer s H vs Q E hr h=>?_
 obtain ⟨G,dd,t,s',h1,h2,h3⟩:=h
 obtain ⟨o,ho,τ,x,y⟩:=hb dd t h2
 refine ⟨τ,x ⟨bI,A,outer,s,H,E,hr⟩,y _ (start N vs) G H G H ⟨[],.refl s',?_,fun _ z=>(nomatch z),fun _ z=>(nomatch z),.nil⟩ ?_⟩
 ·unfold start Kt
  rw [<- h1.length]
  exact DP h1
 ·rcases ho with rfl | ⟨rfl,ρ',rfl⟩
  ·exact fun v G1 H1 fq s1 o1 w1=>h3 v G1 H1 fq s1 o1 w1
  ·exact fun σ G1 H1 ⟨fp,r⟩=>h3 .aS G1 H1 [] r.st ⟨rfl,rfl,rfl⟩ .nil
end L2
namespace L2
open PySem PySem.Spec PyProof.Rows
def Ku (K:PySem.W.Frag)(l1 l2:Addr)(xs ys:List V):It :=
 ⟨fun i H=>aN K H l1 xs/\aN K H l2 ys/\i<min xs.length ys.length,fun i H x H'=>∃ T vx vy,H T=none/\xs[i]?=some vx/\ys[i]?=some vy/\x=.ref T/\H'=upd H T (.tup [vx,vy]),fun i H=>aN K H l1 xs/\aN K H l2 ys/\i=min xs.length ys.length⟩
def Kw (K:PySem.W.Frag)(l:Addr)(xs:List V):It :=
 ⟨fun i H=>aN K H l xs/\i<xs.length,fun i H x H'=>∃ T v,H T=none/\xs[i]?=some v/\x=.ref T/\H'=upd H T (.tup [.int (i:Nat),v]),fun i H=>aN K H l xs/\i=xs.length⟩
section
variable {X:Cx}{pins:List (Addr×Obj)}{σ:St}{H:Hp}{s:Shared}
theorem Inv.xF {t':Nat}{fs:List Addr}{h':Heap}(I:Inv X pins σ H s)(k:∀ b o,b ∉ fs->s.heap.get? b=some o->h'.get? b=some o)(hf:∀ b ∈ fs,gw X pins H b):Inv X pins σ H { s with heap:=h',toks:=t' }:=by
 have kL:∀ b u,H b=some u->b ∉ fs:=fun b u e z=>by rw [(hf b z).1] at e;cases e
 refine I.step (g':=s.gens) (d':=s.drawn) (ch:=fs) (fun b hb=>?_) (fun b o _ _ hc e _=>k b o hc e) (fun b o _ _ hc e _=>⟨o.slots,k b o hc e⟩) (fun _ _ _ _ n=>n)
  (fun b o hc e=>⟨o,k b o hc e⟩) (fun _ _ e=>e) (fun _ _ _ e=>e) (fun b ps e=>⟨#[],by rw [e];simp⟩) (fun m hm=>?_) (fun b u e=>?_) I.bare
 ·obtain ⟨f0,f1,f2,f3,f4,f5⟩:=hf b hb
  exact ⟨f3,f1,f4,f5⟩
 ·obtain ⟨o,es,ep,ho,r⟩:=hm
  exact ⟨o,es,ep,k _ o (fun z=>(hf _ z).2.1 rfl) ho,r⟩
 ·refine (I.az b u e).jI (fun c v hc q=>k c v ?_ q) (fun _ q=>q) fun _ _ q=>q
  rcases hc with z | z
  ·rw [z];exact kL b u e
  ·exact kL c _ z
theorem Inv.Fb {t':Nat}{fs:List Addr}{h':Heap}{T:Addr}{vs:List V}(I:Inv X pins σ H s)(k:∀ b o,b ∉ fs->s.heap.get? b=some o->h'.get? b=some o)(hf:∀ b ∈ fs,gw X pins H b)(hT:s.heap.objs.size<=T)
  (new:cJ X.prog X.w (upd H T (.tup vs)) h' T (.tup vs)):Inv X pins σ (upd H T (.tup vs)) { s with heap:=h',toks:=t' }:=by
 have hn:H T=none:=I.az.fresh hT
 have kL:∀ b u,H b=some u->b ∉ fs:=fun b u e z=>by rw [(hf b z).1] at e;cases e
 have ne:∀ b o,s.heap.get? b=some o->b ≠ T:=fun b o e z=>by subst z;exact absurd (Nat.lt_of_lt_of_le (Heap.lt_size e) hT) (Nat.lt_irrefl _)
 refine I.step (g':=s.gens) (d':=s.drawn) (ch:=fs) (fun b hb=>?_) (fun b o _ _ hc e _=>k b o hc e) (fun b o _ _ hc e _=>⟨o.slots,k b o hc e⟩) (fun b o _ e n=>by rw [bF (ne b o e)];exact n)
  (fun b o hc e=>⟨o,k b o hc e⟩) (fun _ _ e=>by rw [bF (ik e hn)];exact e) (fun _ _ _ e=>by rw [bF (ik e hn)];exact e) (fun b ps e=>⟨#[],by rw [bF (ik e hn),e];simp⟩) (fun m hm=>?_) (fun b u e=>?_) I.bare
 ·obtain ⟨f0,f1,f2,f3,f4,f5⟩:=hf b hb
  exact ⟨f3,f1,f4,f5⟩
 ·obtain ⟨o,es,ep,ho,r⟩:=hm
  exact ⟨o,es,ep,k _ o (fun z=>(hf _ z).2.1 rfl) ho,r⟩
 ·by_cases hb:b=T
  ·subst hb;rw [d8] at e;cases e;exact new
  ·rw [bF hb] at e
   refine (I.az b u e).jI (fun c v hc q=>k c v ?_ q) (fun c q=>by rw [bF (ik q hn)];exact q) fun c xs q=>by rw [bF (ik q hn)];exact q
   rcases hc with z | z
   ·rw [z];exact kL b u e
   ·exact kL c _ z
end
theorem Qq {P:Program}{w:World}{K:PySem.W.Frag}{elts:List Expr}{kk:Nat}{pos:Pos}{z TI TO i1 i2 l1 l2:Addr}{xs ys:List V}(D:ZipApart z TI TO i1 i2 l1 l2) :
  Turn P w K (.Tuple elts kk pos) (Ku K l1 l2 xs ys) [z,TI,TO,i1,i2] z (fun i h=>IsZip h z TI TO .none/\IsPair h TI (.ref i1) (.ref i2)/\(∃ a b,IsPair h TO a b)/\h.IsListIter i1 l1 i/\h.IsListIter i2 l2 i) where
 mem:=by simp
 obj:=by
  rintro i h ⟨h1,h2,⟨a,c,h3⟩,⟨o1,h4,_,h5⟩,⟨o2,h6,_,h7⟩⟩ b hb
  simp only [List.mem_cons,List.not_mem_nil,or_false] at hb
  rcases hb with rfl | rfl | rfl | rfl | rfl
  ·exact ⟨_,h1,fun v z=>by cases z⟩
  ·exact ⟨_,h2,fun v z=>by cases z⟩
  ·exact ⟨_,h3,fun v z=>by cases z⟩
  ·exact ⟨_,h4,fun v z=>by rw [h5] at z;cases z⟩
  ·exact ⟨_,h6,fun v z=>by rw [h7] at z;cases z⟩
 keep:=by
  rintro i h h' ⟨h1,h2,⟨a,c,h3⟩,h4,h5⟩ k
  exact ⟨k _ (by simp) _ h1,k _ (by simp) _ h2,⟨a,c,k _ (by simp) _ h3⟩,h4.at fun o e=>k _ (by simp) o e,h5.at fun o e=>k _ (by simp) o e⟩
 item:=by
  intro X hP hw hK hc i pins s σ H E I hf st hg
  subst hP hw hK
  obtain ⟨iT,rJ,aX⟩:=hg
  obtain ⟨gC,iU,p1,rK⟩:=I.list iT
  obtain ⟨fG,rL,p2,Kx⟩:=I.list rJ
  have e1:=iU.length
  have e2:=rL.length
  have W:=WalksT.zip2 (prog:=X.prog) (w:=X.w) (A:=X.A) (I.ok.hd hc) z TI TO i1 i2 l1 l2 D gC.toArray fG.toArray
  refine W.item i s _ _ (by simp;omega) ⟨st.1,st.2.1,st.2.2.1,st.2.2.2.1,st.2.2.2.2,p1.isList,p2.isList⟩ fun T vals h' tk Af m5 zp qP hk=>⟨.ref T,rfl,W.go elts kk pos i T _ _ _ qP fun jZ kH iD=>?_⟩
  obtain ⟨x,y,hx,hy,rfl⟩:=Af
  have rM:xs[i]?=some (xs[i]'(by omega)):=List.getElem?_eq_getElem _
  have Ky:ys[i]?=some (ys[i]'(by omega)):=List.getElem?_eq_getElem _
  obtain ⟨u,hu,ru⟩:=iU.get rM
  obtain ⟨u',aJ,Z4⟩:=rL.get Ky
  have ex:x=u:=by
   have:gC[i]?=some x:=by simpa using hx
   rw [hu] at this;exact (Option.some.inj this).symm
  have ey:y=u':=by
   have:fG[i]?=some y:=by simpa using hy
   rw [aJ] at this;exact (Option.some.inj this).symm
  subst ex ey
  have sub:∀ b ∈ [z,TO,i1,i2],b ∈ [z,TI,TO,i1,i2]:=fun b hb=>by
   simp only [List.mem_cons,List.not_mem_nil,or_false] at hb ⊢
   rcases hb with rfl | rfl | rfl | rfl<;>simp
  have Ag:IsTup jZ T [x,y].toArray:=zp.at fun o e=>iD T o (W.apart i T _ qP) e
  refine ⟨.ref T,upd H T (.tup [xs[i]'(by omega),ys[i]'(by omega)]),I.Fb (fs:=[z,TO,i1,i2]) (fun b o hb e=>iD b o hb (hk b o hb e)) (fun b hb=>hf b (sub b hb)) m5 ⟨by show 2<=sizeLine;decide,[x,y],.cons ru (.cons Z4 .nil),Ag⟩,rfl,
   ⟨T,_,_,I.az.fresh m5,rM,Ky,rfl,rfl⟩,⟨kH.1,kH.2.1,kH.2.2.1,kH.2.2.2.1,kH.2.2.2.2.1⟩,fun b hb=>?_⟩
  obtain ⟨o,eo,_⟩:∃ o,s.heap.get? b=some o/\True:=by
   obtain ⟨g1,g2,⟨a,c,g3⟩,⟨o1,g4,_⟩,⟨o2,g6,_⟩⟩:=st
   simp only [List.mem_cons,List.not_mem_nil,or_false] at hb
   rcases hb with rfl | rfl | rfl | rfl | rfl
   ·exact ⟨_,g1,trivial⟩
   ·exact ⟨_,g2,trivial⟩
   ·exact ⟨_,g3,trivial⟩
   ·exact ⟨_,g4,trivial⟩
   ·exact ⟨_,g6,trivial⟩
  rw [bF (Nat.ne_of_lt (Nat.lt_of_lt_of_le (Heap.lt_size eo) m5))]
  exact (hf b hb).1
 done:=by
  intro X hP hw hK hc i pins s σ H E I hf st hg
  subst hP hw hK
  obtain ⟨iT,rJ,rfl⟩:=hg
  obtain ⟨gC,iU,p1,rK⟩:=I.list iT
  obtain ⟨fG,rL,p2,Kx⟩:=I.list rJ
  have e1:=iU.length
  have e2:=rL.length
  have W:=WalksT.zip2 (prog:=X.prog) (w:=X.w) (A:=X.A) (I.ok.hd hc) z TI TO i1 i2 l1 l2 D gC.toArray fG.toArray
  have en:min gC.toArray.size fG.toArray.size=min xs.length ys.length:=by simp only [List.size_toArray];omega
  refine W.done s _ _ (by rw [en];exact ⟨st.1,st.2.1,st.2.2.1,st.2.2.2.1,st.2.2.2.2,p1.isList,p2.isList⟩) fun h' tk hk=>⟨rfl,I.xF (fs:=[z,TO,i1,i2]) hk fun b hb=>hf b ?_⟩
  simp only [List.mem_cons,List.not_mem_nil,or_false] at hb ⊢
  rcases hb with rfl | rfl | rfl | rfl<;>simp
 self:=fun A i s Q E st h=>wpAny_pyIter_zip st.1 h
theorem Px {P:Program}{w:World}{K:PySem.W.Frag}{elts:List Expr}{kk:Nat}{pos:Pos}{e it l:Addr}{xs:List V}(Kz:e ≠ it)(hle:l ≠ e)(m7:l ≠ it) :
  Turn P w K (.Tuple elts kk pos) (Kw K l xs) [e,it] e (fun i h=>(∃ old,IsEnum h e it i old)/\h.IsListIter it l i) where
 mem:=by simp
 obj:=by
  rintro i h ⟨⟨old,h1⟩,⟨o1,h4,_,h5⟩⟩ b hb
  simp only [List.mem_cons,List.not_mem_nil,or_false] at hb
  rcases hb with rfl | rfl
  ·exact ⟨_,h1,fun v z=>by cases z⟩
  ·exact ⟨_,h4,fun v z=>by rw [h5] at z;cases z⟩
 keep:=by
  rintro i h h' ⟨⟨old,h1⟩,h4⟩ k
  exact ⟨⟨old,k _ (by simp) _ h1⟩,h4.at fun o e=>k _ (by simp) o e⟩
 item:=by
  intro X hP hw hK hc i pins s σ H E I hf st hg
  subst hP hw hK
  obtain ⟨iT,aX⟩:=hg
  obtain ⟨gC,iU,p1,rK⟩:=I.list iT
  have e1:=iU.length
  have W:=WalksT.enumerate (prog:=X.prog) (w:=X.w) (A:=X.A) (I.ok.hd hc) e it l Kz hle m7 gC.toArray
  refine W.item i s _ _ (by simp;omega) ⟨st.1,st.2,p1.isList⟩ fun T vals h' tk Af m5 zp qP hk=>⟨.ref T,rfl,W.go elts kk pos i T _ _ _ qP fun jZ kH iD=>?_⟩
  obtain ⟨t,x,hx,rfl⟩:=Af
  have rM:xs[i]?=some (xs[i]'(by omega)):=List.getElem?_eq_getElem _
  obtain ⟨u,hu,ru⟩:=iU.get rM
  have ex:x=u:=by
   have:gC[i]?=some x:=by simpa using hx
   rw [hu] at this;exact (Option.some.inj this).symm
  subst ex
  have Ag:IsTup jZ T [Value.int (i:Nat) t,x].toArray:=zp.at fun o e=>iD T o (W.apart i T _ qP) e
  refine ⟨.ref T,upd H T (.tup [.int (i:Nat),xs[i]'(by omega)]),I.Fb (fs:=[e,it]) (fun b o hb e=>iD b o hb (hk b o hb e)) hf m5 ⟨by show 2<=sizeLine;decide,[.int (i:Nat) t,x],.cons ⟨t,rfl⟩ (.cons ru .nil),Ag⟩,rfl,
   ⟨T,_,I.az.fresh m5,rM,rfl,rfl⟩,⟨kH.1,kH.2.1⟩,fun b hb=>?_⟩
  obtain ⟨o,eo,_⟩:∃ o,s.heap.get? b=some o/\True:=by
   obtain ⟨⟨old,g1⟩,⟨o1,g4,_⟩⟩:=st
   simp only [List.mem_cons,List.not_mem_nil,or_false] at hb
   rcases hb with rfl | rfl
   ·exact ⟨_,g1,trivial⟩
   ·exact ⟨_,g4,trivial⟩
  rw [bF (Nat.ne_of_lt (Nat.lt_of_lt_of_le (Heap.lt_size eo) m5))]
  exact (hf b hb).1
 done:=by
  intro X hP hw hK hc i pins s σ H E I hf st hg
  subst hP hw hK
  obtain ⟨iT,rfl⟩:=hg
  obtain ⟨gC,iU,p1,rK⟩:=I.list iT
  have e1:=iU.length
  have W:=WalksT.enumerate (prog:=X.prog) (w:=X.w) (A:=X.A) (I.ok.hd hc) e it l Kz hle m7 gC.toArray
  have en:gC.toArray.size=xs.length:=by simp only [List.size_toArray];omega
  exact W.done s _ _ (by rw [en];exact ⟨st.1,st.2,p1.isList⟩) fun h' tk hk=>⟨rfl,I.xF (fs:=[e,it]) hk hf⟩
 self:=fun A i s Q E st h=>by
  obtain ⟨⟨old,h1⟩,_⟩:=st
  exact wpAny_pyIter_enum h1 h
def Jg (K:PySem.W.Frag)(ta:TA):TI:=fun σ H R=>ta σ H fun vs H1=>∃ l1 l2 xs ys,vs=[.ref l1,.ref l2]/\aN K H1 l1 xs/\aN K H1 l2 ys/\R (Ku K l1 l2 xs ys) H1
def Jh (K:PySem.W.Frag)(ta:TA):TI:=fun σ H R=>ta σ H fun vs H1=>∃ l xs,vs=[.ref l]/\aN K H1 l xs/\R (Kw K l xs) H1
section
variable {X:Cx}{elts:List Expr}{kk:Nat}{tp:Pos}
theorem Tt {a b:Expr} {ta:TA} {p pos:Pos} (hg:Gl X "zip") (hm:X.mg "zip" = none) (ha:PA X [a,b] ta) (hs:starEach [a,b] X.env=[(false,eval a X.env),(false,eval b X.env)]:=by rfl) (dq:starEach [b] X.env=[(false,eval b X.env)]:=by rfl) :
  PI X (.Tuple elts kk tp) (.Call (.Name "zip" p) [a,b] [] pos) (Jg X.K ta):=by
 intro pins s σ H R I h
 refine Call_ (jD I hg hm Tj (PyProof.Rows.callWith_type1 (ay (ha pos pins s σ H _ I h) fun us s1 ⟨vs,H1,I1,r1,q1⟩=>?_) (by rw [hs,dq]) (by rw [dq];rfl)))
 obtain ⟨l1,l2,xs,ys,rfl,iT,rJ,q⟩:=q1
 obtain ⟨u1,u2,rfl,c1,c2⟩:=r1.two
 cases c1
 cases c2
 obtain ⟨gC,iU,p1,rK⟩:=I1.list iT
 obtain ⟨fG,rL,p2,Kx⟩:=I1.list rJ
 have vf:l1<s1.heap.objs.size:=by obtain ⟨o,n,e,_⟩:=p1;exact Heap.lt_size e
 have rD:l2<s1.heap.objs.size:=by obtain ⟨o,n,e,_⟩:=p2;exact Heap.lt_size e
 refine call_zip_2 p1.isList p2.isList fun h' hz Z5 Z6 Z7 Z8 bR hk=>wpAny_pyIter_zip hz ?_
 have I2:Inv X pins σ H1 { s1 with heap:=h' }:=I1.kept (t':=s1.toks) hk
 refine ⟨s1.heap.objs.size+4,[s1.heap.objs.size+4,s1.heap.objs.size+2,s1.heap.objs.size+3,s1.heap.objs.size,s1.heap.objs.size+1],_,_,H1,rfl,I2,Qq (PySem.W.ktu_apart _ _ _ vf rD),⟨hz,Z5,⟨_,_,Z6⟩,Z7,Z8⟩,fun b hb=>?_,q⟩
 have gI:s1.heap.objs.size<=b:=by
  simp only [List.mem_cons,List.not_mem_nil,or_false] at hb
  rcases hb with rfl | rfl | rfl | rfl | rfl<;>omega
 obtain ⟨f0,f1,f2,f3,f4,f5⟩:=I1.qK (H':=H1) gI (I1.az.fresh gI)
 exact ⟨f0,f1,f2,f3,f4,f5⟩
theorem Rp {a:Expr} {ta:TA} {p pos:Pos} (hg:Gl X "enumerate") (hm:X.mg "enumerate" = none) (ha:PA X [a] ta) (hs:starEach [a] X.env=[(false,eval a X.env)]:=by rfl) :
  PI X (.Tuple elts kk tp) (.Call (.Name "enumerate" p) [a] [] pos) (Jh X.K ta):=by
 intro pins s σ H R I h
 refine Call_ (jD I hg hm NC (PyProof.Rows.callWith_type1 (ay (ha pos pins s σ H _ I h) fun us s1 ⟨vs,H1,I1,r1,q1⟩=>?_) hs rfl))
 obtain ⟨l,xs,rfl,iT,q⟩:=q1
 obtain ⟨u1,rfl,c1⟩:=r1.one
 cases c1
 obtain ⟨gC,iU,p1,rK⟩:=I1.list iT
 have vf:l<s1.heap.objs.size:=by obtain ⟨o,n,e,_⟩:=p1;exact Heap.lt_size e
 refine call_enumerate_list p1.isList fun h' hE hI bR hk=>wpAny_pyIter_enum hE ?_
 have I2:Inv X pins σ H1 { s1 with heap:=h' }:=I1.kept (t':=s1.toks) hk
 refine ⟨s1.heap.objs.size+1,[s1.heap.objs.size+1,s1.heap.objs.size],_,_,H1,rfl,I2,Px (Nat.succ_ne_self _) (PySem.W.ktu_ne 1 vf) (Nat.ne_of_lt vf),⟨⟨_,hE⟩,hI⟩,fun b hb=>?_,q⟩
 have gI:s1.heap.objs.size<=b:=by
  simp only [List.mem_cons,List.not_mem_nil,or_false] at hb
  rcases hb with rfl | rfl<;>omega
 obtain ⟨f0,f1,f2,f3,f4,f5⟩:=I1.qK (H':=H1) gI (I1.az.fresh gI)
 exact ⟨f0,f1,f2,f3,f4,f5⟩
end
section
variable {ι:Type}{F:aO ι}{a b tg:Expr}{ρ:En}{ta bA:Tr}{elts:List Expr}{kk:Nat}{tp pos:Pos}
def qQ (xs ys:List Dv):List Dv:=List.zipWith (fun x y=>.tup [x,y]) xs ys
def mq (xs:List Dv):List Dv:=(List.range xs.length).zipWith (fun k x=>.tup [di (k:Nat),x]) xs
theorem Rq {xs ys:List Dv} (hm:F.mg "zip" = none) (ha:Ev F a ρ ta) (hb:Ev F b ρ bA) (ea:er ta=.lst xs) (eb:er bA=.lst ys) {p:Pos} (hg:∀ i,Gl (F.cx i) "zip" := by intro _;rfl)
  (hs:∀ i,starEach [a,b] (F.cx i).env=[(false,eval a (F.cx i).env),(false,eval b (F.cx i).env)]:=by intro _;rfl) (dq:∀ i,starEach [b] (F.cx i).env=[(false,eval b (F.cx i).env)]:=by intro _;rfl) :
  aZ F (.Tuple elts kk tp) (.Call (.Name "zip" p) [a,b] [] pos) ρ (qQ xs ys):=by
 obtain ⟨τ,p,q⟩:=(ag ha (ag hb aj dq) (fun i=>by rw [hs i,dq i])).use
 refine ⟨Jg F.K τ,fun i=>F.hK i ▸ Tt (hg i) ((F.hm i).symm ▸ hm) (p i) (hs i) (dq i),fun σ G H R s r k=>q σ G H _ s r fun vs G1 H1 s1 hx=>?_⟩
 obtain ⟨x,y,rfl,h1,h2⟩:=U3 hx
 rw [ea] at h1
 rw [eb] at h2
 obtain ⟨l1,us,rfl,g1,g2⟩:=h1
 obtain ⟨l2,ws,rfl,g3,g4⟩:=h2
 have e1:=g2.length
 have e2:=g4.length
 refine ⟨l1,l2,us,ws,rfl,s1.s.seq g1,s1.s.seq g3,k _ G1 H1 s1 fun j G2 H2 sg sh=>⟨fun d hd=>?_,fun hz=>?_⟩⟩
 ·unfold qQ at hd
  rw [List.getElem?_zipWith] at hd
  cases qx:xs[j]? with
  |none=>rw [qx] at hd;cases hd
  |some dx =>
   cases qy:ys[j]? with
   |none=>rw [qx,qy] at hd;cases hd
   |some dy =>
    rw [qx,qy] at hd
    cases hd
    obtain ⟨vx,x1,x2⟩:=g2.get qx
    obtain ⟨vy,y1,y2⟩:=g4.get qy
    have lx:j<us.length:=(List.getElem?_eq_some_iff.mp x1).1
    have ly:j<ws.length:=(List.getElem?_eq_some_iff.mp y1).1
    refine ⟨⟨(sg.trans sh).seq g1,(sg.trans sh).seq g3,by omega⟩,?_⟩
    rintro x H3 ⟨T,wx,wy,hT,z1,z2,rfl,rfl⟩
    rw [x1] at z1
    rw [y1] at z2
    cases z1
    cases z2
    refine ⟨_,.new sh hT,T,_,rfl,bY.of d8,_,_,rfl,(x2.mono sg).mono (ak.new (sh.free hT)),_,_,rfl,(y2.mono sg).mono (ak.new (sh.free hT)),rfl⟩
 ·refine ⟨(sg.trans sh).seq g1,(sg.trans sh).seq g3,?_⟩
  rw [hz]
  unfold qQ
  rw [List.length_zipWith,e1,e2]
theorem pV {xs:List Dv} (hm:F.mg "enumerate" = none) (ha:Ev F a ρ ta) (ea:er ta=.lst xs) {p:Pos} (hg:∀ i,Gl (F.cx i) "enumerate" := by intro _;rfl)
  (hs:∀ i,starEach [a] (F.cx i).env=[(false,eval a (F.cx i).env)]:=by intro _;rfl):aZ F (.Tuple elts kk tp) (.Call (.Name "enumerate" p) [a] [] pos) ρ (mq xs):=by
 obtain ⟨τ,p,q⟩:=(ag ha aj hs).use
 refine ⟨Jh F.K τ,fun i=>F.hK i ▸ Rp (hg i) ((F.hm i).symm ▸ hm) (p i) (hs i),fun σ G H R s r k=>q σ G H _ s r fun vs G1 H1 s1 hx=>?_⟩
 obtain ⟨x,rfl,h1⟩:=gV hx
 rw [ea] at h1
 obtain ⟨l1,us,rfl,g1,g2⟩:=h1
 have e1:=g2.length
 refine ⟨l1,us,rfl,s1.s.seq g1,k _ G1 H1 s1 fun j G2 H2 sg sh=>⟨fun d hd=>?_,fun hz=>?_⟩⟩
 ·unfold mq at hd
  rw [List.getElem?_zipWith] at hd
  cases qx:xs[j]? with
  |none =>
   rw [qx] at hd
   cases q2:(List.range xs.length)[j]? with
   |none=>rw [q2] at hd;cases hd
   |some z=>rw [q2] at hd;cases hd
  |some dx =>
   have lj:j<xs.length:=(List.getElem?_eq_some_iff.mp qx).1
   rw [qx,List.getElem?_range lj] at hd
   cases hd
   obtain ⟨vx,x1,x2⟩:=g2.get qx
   refine ⟨⟨(sg.trans sh).seq g1,by omega⟩,?_⟩
   rintro x H3 ⟨T,wx,hT,z1,rfl,rfl⟩
   rw [x1] at z1
   cases z1
   exact ⟨_,.new sh hT,T,_,rfl,bY.of d8,_,_,rfl,⟨rfl,rfl⟩,_,_,rfl,(x2.mono sg).mono (ak.new (sh.free hT)),rfl⟩
 ·refine ⟨(sg.trans sh).seq g1,?_⟩
  rw [hz]
  unfold mq
  rw [List.length_zipWith,List.length_range,Nat.min_self,e1]
theorem DA {n:Nat}{ds dd:List Dv}(e:yw n (.tup ds)=some dd):ds.length=n/\dd=ds:=by
 have e':(if ds.length=n then some ds else none)=some dd:=e
 by_cases h:ds.length=n
 ·rw [if_pos h] at e';cases e';exact ⟨h,rfl⟩
 ·rw [if_neg h] at e';cases e'
theorem kv (j1 j2:Nat){x y:Str}{px py:Pos}(hN:∀ i,(F.cx i).N.Nodup)(h1:∀ i,(F.cx i).N[j1]?=some x:=by intro _;rfl)(h2:∀ i,(F.cx i).N[j2]?=some y:=by intro _;rfl)
  (hx:∀ i,Loc (F.cx i).env.scope x:=by intro _;first | exact Or.inl rfl | exact Or.inr rfl) (hy:∀ i,Loc (F.cx i).env.scope y:=by intro _;first | exact Or.inl rfl | exact Or.inr rfl)
  (fx:∀ i,(F.cx i).fn x=true\/(F.cx i).env.scope.names.lookup x=some .local:=by intro _;first | exact .inl rfl | exact .inr rfl) (fy:∀ i,(F.cx i).fn y=true\/(F.cx i).env.scope.names.lookup y=some .local:=by intro _;first | exact .inl rfl | exact .inr rfl) :
  hU F (.Tuple [.Name x px,.Name y py] kk tp) [j1,j2] (yw 2) :=
 ⟨y9 F.K 2 (oQ (iA j1) (oQ (iA j2) y8)),fun i=>F.hK i ▸ FX (F.calm i) (pQ (ox (hN i) (h1 i) (hx i) (fx i)) (pQ (ox (hN i) (h2 i) (hy i) (fy i)) EX)),fun d dd v σ G H Q e s h k=>by
  cases d with
  |fl _=>cases e
  |lst _=>cases e
  |tup ds =>
   obtain ⟨hl,rfl⟩:=DA e
   obtain ⟨a,vs,rfl,q1,q2⟩:=h
   have hv:vs.length=2:=by rw [<- q2.length];exact hl
   refine ⟨a,vs,rfl,s.tup q1,hv,?_⟩
   match vs,hv with
   |[v1,v2],_=>exact ⟨v1,[v2],rfl,v2,[],rfl,rfl,k [v1,v2] q2⟩⟩
theorem x6 (j1 j2 j3:Nat){x y z:Str}{px py pz:Pos}(hN:∀ i,(F.cx i).N.Nodup)(h1:∀ i,(F.cx i).N[j1]?=some x:=by intro _;rfl)(h2:∀ i,(F.cx i).N[j2]?=some y:=by intro _;rfl)(h3:∀ i,(F.cx i).N[j3]?=some z:=by intro _;rfl)
  (hx:∀ i,Loc (F.cx i).env.scope x:=by intro _;first | exact Or.inl rfl | exact Or.inr rfl) (hy:∀ i,Loc (F.cx i).env.scope y:=by intro _;first | exact Or.inl rfl | exact Or.inr rfl) (hz:∀ i,Loc (F.cx i).env.scope z:=by intro _;first | exact Or.inl rfl | exact Or.inr rfl)
  (fx:∀ i,(F.cx i).fn x=true\/(F.cx i).env.scope.names.lookup x=some .local:=by intro _;first | exact .inl rfl | exact .inr rfl) (fy:∀ i,(F.cx i).fn y=true\/(F.cx i).env.scope.names.lookup y=some .local:=by intro _;first | exact .inl rfl | exact .inr rfl)
  (fz:∀ i,(F.cx i).fn z=true\/(F.cx i).env.scope.names.lookup z=some .local:=by intro _;first | exact .inl rfl | exact .inr rfl) :
  hU F (.Tuple [.Name x px,.Name y py,.Name z pz] kk tp) [j1,j2,j3] (yw 3) :=
 ⟨y9 F.K 3 (oQ (iA j1) (oQ (iA j2) (oQ (iA j3) y8))),fun i=>F.hK i ▸ FX (F.calm i) (pQ (ox (hN i) (h1 i) (hx i) (fx i)) (pQ (ox (hN i) (h2 i) (hy i) (fy i)) (pQ (ox (hN i) (h3 i) (hz i) (fz i)) EX))),fun d dd v σ G H Q e s h k=>by
  cases d with
  |fl _=>cases e
  |lst _=>cases e
  |tup ds =>
   obtain ⟨hl,rfl⟩:=DA e
   obtain ⟨a,vs,rfl,q1,q2⟩:=h
   have hv:vs.length=3:=by rw [<- q2.length];exact hl
   refine ⟨a,vs,rfl,s.tup q1,hv,?_⟩
   match vs,hv with
   |[v1,v2,v3],_=>exact ⟨v1,[v2,v3],rfl,v2,[v3],rfl,v3,[],rfl,rfl,k [v1,v2,v3] q2⟩⟩
theorem Rr {e:Expr}{t:Tr}{js:List Nat}{sp:Dv->Option (List Dv)}{dd:List Dv}(he:bp F e ρ t)(hg:hU F tg js sp)(hd:sp (er t)=some dd)(hj:js.all (fun j=>Nat.blt j ρ.length)=true:=by rfl)
  (hs:∀ i,swapsWithSole [tg] e pos.line (F.cx i).env=pure false:=by intro _;rfl) (hw:∀ i,swappedStores [tg] e (F.cx i).env=pure none:=by intro _;rfl)
  (h1:∀ i,(assignEach [tg] (F.cx i).env).map (·.2)=[assign tg (F.cx i).env]:=by intro _;rfl):Rn F (.Assign [tg] e pos) ρ (.nx (bB js (dd.map .fz) ρ)):=by
 obtain ⟨τ,y,z⟩:=he
 obtain ⟨g,pg,qg⟩:=hg
 refine ⟨mh τ g,fun i=>FY (y i) (pg i) (hs i) (hw i) (h1 i),fun D σ G0 H0 G H r k=>?_⟩
 obtain ⟨fp,r⟩:=r
 refine z σ G H fp _ r.st.s r.own r.g fun v G1 H1 fq s1 o w=>?_
 refine qg (er t) dd v σ (eF G1 H1 fq) H1 _ hd (oi s1.s) (o.hv (jw w.g) fun a ha=>jA ha) fun vs m3=>k _ (eF G1 H1 fq) H1 (RS.bB (zo hj) m3 ⟨fp,r.st.trans (s1.dh w),r.own.mono (s1.dh w).g s1.h,fun a ha=>?_,r.n,r.d⟩)
 cases q:eF G1 H1 fq a with
 |none=>rfl
 |some u =>
  obtain ⟨u',aJ⟩:=r.own.there a ha
  have:=(s1.dh w).n a (r.g a ha) (by rw [q];exact fun z=>nomatch z)
  rw [aJ] at this;cases this
theorem Tu (j1 j2:Nat){x y:Str}{m n:Int}{px py pt:Pos}{kt k2 mN}(ha:bp F a ρ (ti m))(hb:bp F b ρ (ti n))(hN:∀ i,(F.cx i).N.Nodup)(jl:Nat.blt j1 ρ.length=true:=by rfl)(j4:Nat.blt j2 ρ.length=true:=by rfl)(hi:∀ i,(F.cx i).N[j1]?=some x:=by intro _;rfl)(hj:∀ i,(F.cx i).N[j2]?=some y:=by intro _;rfl)(bw:j1 ≠ j2:=by decide)
  (hx:∀ i,(F.cx i).env.scope.names.lookup x=some .local:=by intro _;rfl) (hy:∀ i,(F.cx i).env.scope.names.lookup y=some .local:=by intro _;rfl)
  (hw:∀ i,swappedStores [.Tuple [.Name x px,.Name y py] kt pt] (.Tuple [a,b] k2 mN) (F.cx i).env=pure (some [x,y]):=by intro _;rfl)
  (hs:∀ i,swapsWithSole [.Tuple [.Name x px,.Name y py] kt pt] (.Tuple [a,b] k2 mN) pos.line (F.cx i).env=pure false:=by intro _;rfl)
  (Z9:∀ i,starEach [a,b] (F.cx i).env=(false,eval a (F.cx i).env)::starEach [b] (F.cx i).env:=by intro _;rfl) (aG:∀ i,starEach [b] (F.cx i).env=(false,eval b (F.cx i).env)::starEach [] (F.cx i).env:=by intro _;rfl) :
  Rn F (.Assign [.Tuple [.Name x px,.Name y py] kt pt] (.Tuple [a,b] k2 mN) pos) ρ (.nx ((ρ.set j1 (some (ti m))).set j2 (some (ti n)))):=by
 obtain ⟨τ,y1,z1⟩:=ha
 obtain ⟨bV,y2,z2⟩:=hb
 refine ⟨IQ j1 j2 (df τ (df bV eA)),fun i=>SY (F.calm i) (hN i) (hi i) (hj i) bw (hx i) (hy i) (cX (y1 i) (cX (y2 i) dN (aG i)) (Z9 i)) (hw i) (hs i),fun D σ G0 H0 G H r k=>?_⟩
 obtain ⟨fp,r⟩:=r
 have key:∀ {G1 H1:Hp},Step G H G1 H1->∀ a ∈ fp,G1 a=none:=fun {G1 H1} s1 a ha=>by
  cases q:G1 a with
  |none=>rfl
  |some u =>
   obtain ⟨u',aJ⟩:=r.own.there a ha
   have:=s1.n a (r.g a ha) (by rw [q];exact fun z=>nomatch z)
   rw [aJ] at this;cases this
 refine z1 σ G H fp _ r.st.s r.own r.g fun v G1 H1 fq s1 o w=>z2 σ G1 H1 fp _ s1.s (r.own.mono s1.g s1.h) (key s1) fun v' G2 H2 ZY s2 o' w'=>?_
 have e1:v=.int m:=aB o.2
 have e2:v'=.int n:=aB o'.2
 subst e1 e2
 refine ⟨_,_,rfl,?_⟩
 have pd:=s1.trans s2
 obtain ⟨Ah,r1⟩:=(⟨r.st.trans pd,r.own.mono pd.g pd.h,key pd,r.n,r.d⟩:cT F.K G0 H0 G2 H2 ρ σ fp).set (t:=ti m) (v:=.int m) (Nat.le_of_ble_eq_true jl) (.refl pd.s) ⟨rfl,rfl,rfl⟩ .nil
 exact k _ G2 H2 (r1.set (t:=ti n) (v:=.int n) (by rw [List.length_set];exact Nat.le_of_ble_eq_true j4) (.refl pd.s) ⟨rfl,rfl,rfl⟩ .nil)
end
end L2
namespace L2
open PySem PySem.Spec PyProof.Rows
theorem Qr {X:Cx}{elt tg iter:Expr}{ifs:List Expr}{sc:Scope}{cl:List (Str×Addr)}{own:List Str}{fr:List Nat}{pos qR py:Pos}{wi:TI}{g:TG}{tt:TT}{te:TE}{y0:Str}{j0:Nat}
  (L:jz X sc cl fr) (hc:X.calm=true) (hi:PI X tg iter wi)
  (hg:∀ C s H ex pn,PG (cO X own fr sc cl C s H ex pn) tg g)
  (ht:∀ C s H ex pn (pins:List (Addr×Obj)) (s1:Shared) (aF:St) (H1:Hp) (Q:Bool->Hp->Prop),Inv (cO X own fr sc cl C s H ex pn) pins aF H1 s1->tt aF H1 Q ->
   wpAny (model X.prog X.w) X.A (jy ifs (compEnvC sc (cellsFrom (C+1) sc.names cl) C X.env)) (TP (cO X own fr sc cl C s H ex pn) pins aF Q) cv s1)
  (he:∀ C s H ex pn,PE (cO X own fr sc cl C s H ex pn) elt te) (hN0:X.N.Nodup) (hj0:X.N[j0]?=some y0) (hx0:Loc X.env.scope y0)
  (iS:swapsWith (.ListComp elt [⟨tg,iter,ifs,0⟩] sc pos) (some (.Name y0 py)) qR.line X.env=pure true) (hf0:X.fn y0=true\/X.env.scope.names.lookup y0=some .local) (hs:∀ x,foldedSetIterable iter X.env x=pure x:=by intro _;rfl) :
  PS X (.Assign [.Name y0 py] (.ListComp elt [⟨tg,iter,ifs,0⟩] sc pos) qR) (mh (zU wi g tt te own fr) (iA j0)):=by
 intro pins s σ H D I h
 rw [exec_Assign_Name_used _ _ _ _ iS]
 refine wpAny_bind (wpAny_standAt (wpAny_bind ?_))
 show wpAny _ X.A (do let _ <- comprehension (.ListComp elt [⟨tg,iter,ifs,0⟩] sc pos) sc X.env _ (newList []) false (eval iter X.env) (some (assign (.Name y0 py) X.env))) _ _ s
 refine wpAny_bind (wpAny_mono (wpAny_comprehension_free (use:=some (assign (.Name y0 py) X.env)) (Q:=fun _ s'=>SP X pins D .next s') rfl hs L.Ja L.kind L.names (ay (hi pins s σ H _ I h) fun v s1 h1=>ay h1 fun uQ s2 h2=>?_)) (fun _ s' hq=>wpAny_pure (wpAny_pure hq)) fun _ _ e=>e)
 obtain ⟨it,fp,tn,J,H2,e,I2,T,aG,f2,h2⟩:=h2
 subst e
 refine wpAny_newObj_type ?_
 have I3:Inv X pins σ (upd H2 s2.heap.objs.size (.lst [])) { s2 with heap:=s2.heap.push { cls:=.type "list",data:=.seq ([]:List Value).toArray } }:=I2.zi (t':=s2.toks) .nil (Nat.zero_le _)
 have n2:H2 s2.heap.objs.size=none:=I2.fresh
 obtain ⟨W,⟨m0,w0⟩,turn⟩:=h2 _ n2
 have rD:∀ b ∈ fp,b<s2.heap.objs.size:=fun b hb=>by
  obtain ⟨o,eo,_⟩:=T.obj 0 _ aG b hb
  exact Heap.lt_size eo
 have cS:∀ b ∈ fp,gw X pins (upd H2 s2.heap.objs.size (.lst [])) b:=fun b hb=>⟨by rw [bF (Nat.ne_of_lt (rD b hb))];exact (f2 b hb).1,(f2 b hb).2⟩
 generalize eH:({ s2 with heap:=s2.heap.push { cls:=.type "list",data:=.seq ([]:List Value).toArray } }:Shared)=s3 at I3
 have dU:tn 0 s3.heap:=by
  rw [<- eH]
  exact T.keep 0 _ _ aG fun b hb o eo=>Heap.get?_push_of_some _ eo
 have mV:∀ b ∈ fp,b<s3.heap.objs.size:=fun b hb=>by
  obtain ⟨o,eo,_⟩:=T.obj 0 _ dU b hb
  exact Heap.lt_size eo
 generalize zV:upd H2 s2.heap.objs.size (.lst [])=H3 at I3 cS w0
 generalize s2.heap.objs.size=acc at turn w0 zV ⊢
 refine Dn ?_
 have iP:(pushCells (s3.heap.push { cls:=.type "dict",data:=.dict #[] }) sc.names).Ns s3.heap.objs.size fun _=>none:=(Heap.Ns.new s3.heap (.type "dict")).keeps (pushCells_keeps _ _)
 have kp:∀ b o,s3.heap.get? b=some o->(pushCells (s3.heap.push { cls:=.type "dict",data:=.dict #[] }) sc.names).get? b=some o:=fun b o eo=>pushCells_keeps _ _ b o (Heap.get?_push_of_some _ eo)
 have mU:∀ y c,(cellsFrom (s3.heap.objs.size+1) sc.names cl).lookup y=some c->cl.lookup y=some c\/(pushCells (s3.heap.push { cls:=.type "dict",data:=.dict #[] }) sc.names).IsCell c none:=fun y c e =>
  tE sc.names (s3.heap.push { cls:=.type "dict",data:=.dict #[] }) cl y c (by rw [Heap.size_push];exact e)
 generalize ZU:pushCells (s3.heap.push { cls:=.type "dict",data:=.dict #[] }) sc.names=h4 at iP kp mU
 have I4:=lcInv (own:=own) (tk:=s3.toks) L I3 cS mV iP kp mU
 have rE:tn 0 h4:=T.keep 0 _ _ dU fun b hb o eo=>kp b o eo
 have stat:∀ {H':Hp},(∀ b ∈ fp,H' b=none)->∀ b ∈ fp,gw (cO X own fr sc cl s3.heap.objs.size s3 H3 fp (X.pn++pins)) [] H' b:=fun {H'} hn b hb =>
  ⟨hn b hb,Nat.ne_of_lt (mV b hb),fun z=>(List.mem_cons.mp (I3.qo b z)).elim (cS b hb).2.1 (cS b hb).2.2.1,.inl hb,fun y c e=>(pN _ _ _ y c e).elim (fun q=>(cS b hb).2.2.2.2.1 y c (L.sub y c q)) fun q=>Nat.ne_of_gt (Nat.lt_of_lt_of_le (mV b hb) (Nat.le_of_succ_le q.1)),fun p hp=>(cS b hb).2.2.2.2.2 p (by
   have z:p ∈ (X.pn++pins)++[]:=hp
   simpa using z)⟩
 have loop:codeAny (model X.prog X.w) X.A (.compLoop (.ListComp elt [⟨tg,iter,ifs,0⟩] sc pos) 0 (.ref it) (.ref acc) (compEnvC sc (cellsFrom (s3.heap.objs.size+1) sc.names cl) s3.heap.objs.size X.env))
   (compPost (model X.prog X.w) X.A X.xe (some (assign (.Name y0 py) X.env)) (fun _ s'=>SP X pins D .next s') (.ref acc) s3.heap.objs.size) { s3 with heap:=h4,toks:=s3.toks }:=by
  refine Gm (fun n s'=>∃ i ys aF H1,Inv (cO X own fr sc cl s3.heap.objs.size s3 H3 fp (X.pn++pins)) [] aF H1 s'/\tn i s'.heap/\(∀ b ∈ fp,H1 b=none)/\W i n ys aF H1) ?_ m0 ⟨0,[],_,H3,I4,rE,fun b hb=>(cS b hb).1,w0⟩
  rintro n s5 ⟨i,ys,jV,H5,I5,jO,mP,w5⟩
  obtain ⟨dO,hlen,hh⟩:=turn i n ys jV H5 w5
  rcases hh with ⟨stop,qn⟩ | ⟨go,N,hN,step⟩
  ·refine ay (T.done (cO X own fr sc cl s3.heap.objs.size s3 H3 fp (X.pn++pins)) rfl rfl rfl hc i [] s5 jV H5 cv I5 (stat mP) jO stop) fun r s6 ⟨hr,I6⟩=>?_
   subst hr
   obtain ⟨m6,zW,_⟩:=id I6.loc
   have back:∀ h7,Heap.SameBut s3.heap.objs.size s6.heap h7->Inv X pins σ H5 { s6 with heap:=h7 }:=fun h7 jW=>by
    have old:∀ b o,s3.heap.get? b=some o->b ≠ s3.heap.objs.size:=fun b o eo=>Nat.ne_of_lt (Heap.lt_size eo)
    have u6:Un (dD X.stack) fp H3 H5 s3.heap s6.heap:=I6.base
    have u7:Un (dD X.stack) fp H3 H5 s3.heap h7 :=
     ⟨fun b o eo nn hb hx=>(jW.2 b (old b o eo)).trans (u6.keep b o eo nn hb hx),fun b o eo nn hb hx=>by
      obtain ⟨sl,q⟩:=u6.slot b o eo nn hb hx
      exact ⟨sl,(jW.2 b (old b o eo)).trans q⟩,u6.free,fun b o eo hx=>by
      obtain ⟨o',q⟩:=u6.there b o eo hx
      exact ⟨o',(jW.2 b (old b o eo)).trans q⟩,u6.jg,u6.iB,u6.jh⟩
    have fC:H5 s3.heap.objs.size=none:=I6.free
    have zl:cz X.prog X.w H5 h7:=fun b ob eb=>by
     refine (I6.az b ob eb).jI (fun c w' g9 q=>(jW.2 c ?_).trans q) (fun _ q=>q) fun _ _ q=>q
     rintro rfl
     rcases g9 with z | z
     ·rw [<- z,fC] at eb;cases eb
     ·rw [fC] at z;cases z
    exact I3.HJ (s':={ s6 with heap:=h7 }) I6.os u7 zl I6.bare fun b hb=>⟨(cS b hb).2.2.2.1,(cS b hb).2.1,(cS b hb).2.2.2.2.1,(cS b hb).2.2.2.2.2⟩
   have fC0:H5 s3.heap.objs.size=none:=I6.free
   show wpAny _ _ (assign (.Name y0 py) X.env (.ref acc)) _ X.xe s6
   refine wpAny_assign_Name (DF (v:=.ref acc) (back s6.heap (Heap.SameBut.refl ..)) hN0 hj0 hx0 rfl (fun s7 I7 ⟨a,sb,ha⟩=>?_) hf0)
   have aC:s3.heap.objs.size ≠ a:=by
    rcases ha with rfl | ha
    ·exact Nat.ne_of_gt I3.lt
    ·obtain ⟨v0,q0⟩:=I3.cell y0 a ha
     exact Nat.ne_of_gt q0.lt
   refine ⟨m6,zW.sameBut sb aC,fun h8 sb8=>⟨_,H5,?_,qn⟩⟩
   exact Inv.xF (t':=s7.toks) (fs:=[s3.heap.objs.size]) I7 (fun b o hb e=>(sb8.2 b (fun z=>hb (by rw [z];exact .head _))).trans e) (fun b hb=>by
    rw [List.mem_singleton.mp hb]
    exact I3.qK (H':=H5) (Nat.le_refl _) fC0)
  ·refine ay (T.item (cO X own fr sc cl s3.heap.objs.size s3 H3 fp (X.pn++pins)) rfl rfl rfl hc i [] s5 jV H5 cv I5 (stat mP) jO go) fun r s6 ⟨u,hr,h6⟩=>?_
   subst hr
   refine ay h6 fun _ s7 ⟨x,H7,I7,r7,y7,mW,zX⟩=>?_
   have zY:=I7.pinned (stat zX) (T.obj _ _ mW)
   refine ay (hg _ _ _ _ _ _ s7 jV H7 x u _ zY r7 (step x H7 y7)) fun _ s8 ⟨jX,H8,I8,q8⟩=>?_
   have again:∀ {zs:List V} {iQ:St} {H9:Hp} {s9:Shared},Inv (cO X own fr sc cl s3.heap.objs.size s3 H3 fp (X.pn++pins)) ([]++oE fp s7.heap) iQ H9 s9->N zs iQ H9 ->
     ∃ m,m<n/\∃ i ys aF H1,Inv (cO X own fr sc cl s3.heap.objs.size s3 H3 fp (X.pn++pins)) [] aF H1 s9/\tn i s9.heap/\(∀ b ∈ fp,H1 b=none)/\W i m ys aF H1:=fun {zs iQ H9 s9} I9 n9=>by
    obtain ⟨m',hm,w9⟩:=hN zs iQ H9 n9
    refine ⟨m',hm,i+1,zs,iQ,H9,I9.pR,T.keep _ _ _ mW fun b hb o e=>(I9.pin (b,o) (List.mem_append_right _ (List.mem_append_right _ (nZ hb e)))).1,fun b hb=>?_,w9⟩
    obtain ⟨o,e,d⟩:=T.obj _ _ mW b hb
    exact (I9.pin (b,o) (List.mem_append_right _ (List.mem_append_right _ (nZ hb e)))).2.1
   refine ay (ht _ _ _ _ _ _ s8 jX H8 _ I8 q8) fun ok s9 ⟨H9,I9,q9⟩=>?_
   cases ok with
   |false=>exact again I9 (by simpa using q9)
   |true =>
    refine ay (he _ _ _ _ _ _ s9 jX H9 _ I9 q9) fun z zZ ⟨y,z0,z4,z5,mX,z6⟩=>?_
    refine ay (pM _ zZ jX z0 (.ref acc) [y] (.ref acc) [z] (fun _ H'=>N (ys++[y]) jX H') z4 rfl (.cons z5 .nil) ⟨acc,ys,y,rfl,rfl,mX,hlen,z6⟩) fun _ ZV ⟨_,ZW,z7,_,z8⟩=>again z7 z8
 rw [<- eH] at loop ⊢
 exact codeAny_compStart_list loop (zT (T.self _ 0 _ _ _ rE (by rw [eH];rw [eH] at loop;exact loop)))
section
variable {ι:Type}{F:aO ι}{elt tg iter:Expr}{ifs:List Expr}{sc:Scope}{own:List Str}{fr:List Nat}{cl : ι->List (Str×Addr)}{ρ:En}{t:Tr}{pos qR py:Pos}
theorem qS (h:eX F own fr sc cl elt tg iter ifs ρ t):∃ τ,ve F own fr sc cl elt tg iter ifs τ/\∀ σ G H fp Q,ak G H->aL F.K G H ρ σ fp->(∀ a ∈ fp,G a=none)->Kv F.K G H t Q -> τ σ H Q :=
 let ⟨τ,v,y⟩:=h;⟨τ,v,fun σ G H fp Q s r _ k=>y σ G H Q s r.o9 k⟩
theorem U6 (h:eX F own fr sc cl elt tg iter ifs (pk ρ) t)(c:Cl t):∃ τ,ve F own fr sc cl elt tg iter ifs τ/\∀ σ G H fp Q,ak G H->aL F.K G H ρ σ fp->(∀ a ∈ fp,G a=none)->Kv F.K G H t Q -> τ σ H Q:=by
 obtain ⟨τ,x,y⟩:=h
 refine ⟨τ,x,fun σ G H fp Q s r hg k=>?_⟩
 refine y σ (eF G H fp) H Q (oi s) (r.pk (jw hg) fun a ha=>jA ha) fun v G' H' fq st o w=>?_
 refine k v G H' fq ⟨ak.refl _,st.h,s.trans st.h,fun a h h'=>absurd h h'⟩ (o.cl c) ⟨w.n,fun a ha=>s.free (w.n a ha),w.d⟩
theorem oH (j:Nat){x:Str}(h:∃ τ,ve F own fr sc cl elt tg iter ifs τ/\∀ σ G H fp Q,ak G H->aL F.K G H ρ σ fp->(∀ a ∈ fp,G a=none)->Kv F.K G H t Q -> τ σ H Q)(L:∀ i,jz (F.cx i) sc (cl i) fr)(hN:∀ i,(F.cx i).N.Nodup)(hj:Nat.blt j ρ.length=true:=by rfl)(hi:∀ i,(F.cx i).N[j]?=some x:=by intro _;rfl)
  (hx:∀ i,Loc (F.cx i).env.scope x:=by intro _;first | exact Or.inl rfl | exact Or.inr rfl) (iS:∀ i,swapsWith (.ListComp elt [⟨tg,iter,ifs,0⟩] sc pos) (some (.Name x py)) qR.line (F.cx i).env=pure true:=by intro _;rfl)
  (hf:∀ i,(F.cx i).fn x=true\/(F.cx i).env.scope.names.lookup x=some .local:=by intro _;first | exact .inl rfl | exact .inr rfl) (hs:∀ i x,foldedSetIterable iter (F.cx i).env x=pure x:=by intro _ _;rfl) :
  Rn F (.Assign [.Name x py] (.ListComp elt [⟨tg,iter,ifs,0⟩] sc pos) qR) ρ (.nx (ρ.set j (some t))):=by
 obtain ⟨τ,⟨wi,g,tt,te,rfl,h1,h2,h3,h4⟩,z⟩:=h
 refine ⟨_,fun i=>Qr (cl:=cl i) (L i) (F.calm i) (h1 i) (fun C s H ex pn=>h2 (i,⟨C,s,H,ex,pn⟩)) (fun C s H ex pn=>h3 (i,⟨C,s,H,ex,pn⟩)) (fun C s H ex pn=>h4 (i,⟨C,s,H,ex,pn⟩)) (hN i) (hi i) (hx i) (iS i) (hf i) (hs i),fun D σ G0 H0 G H r k=>?_⟩
 obtain ⟨fp,r⟩:=r
 exact z σ G H fp _ r.st.s r.own r.g fun v G1 H1 fq s1 o w=>k _ G1 H1 (r.set (Nat.le_of_ble_eq_true hj) s1 o w)
theorem eX.as {d:Dv}(h:eX F own fr sc cl elt tg iter ifs ρ t)(e:er t=d):eX F own fr sc cl elt tg iter ifs ρ (.fz d):=by
 obtain ⟨τ,v,q⟩:=h
 refine ⟨τ,v,fun σ G H Q s r k=>q σ G H Q s r fun v G' H' fq st o w=>?_⟩
 exact k v (eF G' H' fq) H' [] (st.dh w) ⟨rfl,e ▸ o.hv (jw w.g) fun a ha=>jA ha⟩ .nil
theorem eX.to {t':Tr}(h:eX F own fr sc cl elt tg iter ifs ρ t)(e:t=t'):eX F own fr sc cl elt tg iter ifs ρ t':=e ▸ h
end
end L2
namespace L2
open PySem PySem.Spec PyProof.Rows
section
variable {ι:Type}{F:aO ι}{e a b c:Expr}{es:List Expr}{ρ:En}{t ta bA tc:Tr}{ts:List Tr}{pos:Pos}
theorem Um {nm:Str} {id:String} {r:V->List V->Hp->VK->Prop} {xs:List Dv} {o:Expr} {to:Tr} (slot:Slot "list" nm id) (rq:typeOf (.builtin id)=pure (.type "method_descriptor")) (hm:∀ i,zP (F.cx i) id r) (ho:Ev F o ρ to) (eo:er to=.lst xs) (ha:gJ F (e::es) ρ ts)
  (h:∀ G H x vs Q,ak G H->Hv F.K G (er to) x->aD F.K G (eJ ts) vs->Kv F.K G H t Q->r x vs H Q) {apos:Pos}
  (fA:∀ i,attributeBase o nm (F.cx i).env (eval o (F.cx i).env)=eval o (F.cx i).env:=by intro _;rfl)
  (gx:∀ i,((backTo pos (starEach (e::es) (F.cx i).env)).all (fun x=>!x.1)&&(backToKw pos (keywordEach [] (F.cx i).env)).all (fun x=>x.1.isSome)&&decide ((e::es).length+([]:List Keyword).length+(if ([]:List Keyword).isEmpty then 0 else 1)<30))=true:=by intro _;rfl)
  (hline:(apos.endLine==pos.line)=true:=by rfl) (hs:∀ i,starEach (e::es) (F.cx i).env=(false,eval e (F.cx i).env)::starEach es (F.cx i).env:=by intro _;rfl) (xT:∀ i,(backTo pos (starEach es (F.cx i).env)).any (·.1)=false:=by intro _;rfl) :
  Ev F (.Call (.Attribute o nm apos) (e::es) [] pos) ρ t:=by
 obtain ⟨τ,p,q⟩:=ho.use
 obtain ⟨bV,p',q'⟩:=ha.use
 refine ⟨jS F.K "list" r τ bV,fun i=>F.hK i ▸ kC PySem.F.plainAttrs_list slot rq (hm i) (p i) (p' i) (fA i) (gx i) hline (hs i) (xT i),fun σ G H Q s rr k=>?_⟩
 refine q σ G H _ s rr fun x G1 H1 s1 hx=>⟨?_,q' σ G1 H1 _ s1.s (rr.mono s1.g) fun vs G2 H2 s2 hv=>h G2 H2 x vs Q s2.s (hx.mono s2.g) hv (k.step (s1.trans s2))⟩
 rw [eo] at hx
 obtain ⟨l,us,rfl,h1,h2⟩:=hx
 exact .inl ⟨rfl,_,s1.s.seq h1⟩
theorem DQ {K:PySem.W.Frag}{G:Hp}:∀ {bs:List Bool} {vs:List V},aD K G (bs.map db) vs->vs=bs.map V.bl
 |[],_,h=>h
 |_::_,_,⟨x,r,h1,h2,h3⟩=>by subst h1;rw [aB h2,DQ h3];rfl
theorem MY {α β:Type}(l:List α)(d : α)(f : α -> β):(List.range l.length).map (fun k=>f ((l[k]?).getD d))=l.map f:=by
 refine List.ext_getElem? fun i=>?_
 rw [List.getElem?_map,List.getElem?_map]
 rcases Nat.lt_or_ge i l.length with h | h
 ·rw [List.getElem?_range h,List.getElem?_eq_getElem h]
  show some (f ((l[i]?).getD d))=_
  rw [List.getElem?_eq_getElem h]
  rfl
 ·rw [List.getElem?_eq_none (by simpa using h),List.getElem?_eq_none h]
  rfl
theorem Gz:∀ ds:List Dv,eJ (ds.map .fz)=ds
 |[] => rfl
 |d::ds=>by show d::eJ (ds.map .fz)=_;rw [Gz ds]
theorem lU (ds:List Dv):er (.ow (ds.map .fz))=.lst ds:=by show Dv.lst _=_;rw [Gz]
theorem Ev.to {t':Tr}(h:Ev F e ρ t)(q:t=t'):Ev F e ρ t':=q ▸ h
theorem Et.to {p q:Bool}(h:Et F e ρ p)(z:p=q):Et F e ρ q:=z ▸ h
theorem bp.to {t':Tr}(h:bp F e ρ t)(q:t=t'):bp F e ρ t':=q ▸ h
theorem fP {A B:List Stmt}{o:Out}{p:Bool}(hc:cU F c ρ p)(hp:p=true)(h1:aV F A ρ o):Rn F (.If c A B pos) ρ o:=qB hc (fun _=>h1) fun h=>by rw [hp] at h;cases h
theorem x8 {A B:List Stmt}{o:Out}{p:Bool}(hc:cU F c ρ p)(hp:p=false)(h1:aV F B ρ o):Rn F (.If c A B pos) ρ o:=qB hc (fun h=>by rw [hp] at h;cases h) fun _=>h1
theorem bO {A:List Stmt}{p:Bool}(hc:cU F c ρ p)(hp:p=false):Rn F (.If c A [] pos) ρ (.nx ρ):=x8 hc hp kn
def Ji (dd:List Dv)(t:Tr):Prop:=∃ ns:List Int,ns.length<=63/\dd=[dis ns]/\t=tb true
def ui (K:PySem.W.Frag):Sp:=fun vs H Q _=>∃ (a:Addr) (ns:List Int),vs=[.ref a]/\aN K H a (ns.map V.int)/\ns.length<=63/\∀ H',Q (.bl true) H'
theorem Tv {P:Program} {w:World} {K:PySem.W.Frag} {mg:Str->Option Value} {base:Heap} {k:Nat} {f:Addr} {fd:FuncData} (F:aR P w K mg base ao k f fd ["_law_script"] (spT K Ji)):aR P w K mg base ao k f fd ["_law_script"] (ui K) :=
 F.imp fun vs H Q E ⟨a,ns,e,h1,h2,h3⟩=>⟨H,[dis ns],tb true,ak.refl _,⟨.ref a,[],e,⟨a,_,rfl,h1,lD⟩,rfl⟩,⟨ns,h2,rfl,rfl⟩,fun v G' H' fq st o w=>by rw [aB o.2];exact h3 H'⟩
end
end L2
namespace eY
def gc (a b:Int):Int:=(Int.gcd a b:Int)
theorem oI {a b:Int}(h:b ≠ 0) : 0<gc a b:=by
 have : 0<Int.gcd a b:=Int.gcd_pos_of_ne_zero_right _ h
 unfold gc;omega
theorem Eh (a b:Int):gc a b ∣ a:=Int.gcd_dvd_left ..
theorem Ei (a b:Int):gc a b ∣ b:=Int.gcd_dvd_right ..
theorem Fc (a:Int):gc a 0=(a.natAbs:Int):=by unfold gc;rw [Int.gcd_zero_right]
theorem Fe (a:Int){b:Int}:gc b (a % b)=gc a b:=by
 unfold gc
 congr 1
 apply Nat.dvd_antisymm
 ·refine Int.dvd_gcd ?_ (Int.gcd_dvd_left ..)
  have h1:(↑(Int.gcd b (a % b)):Int) ∣ b:=Int.gcd_dvd_left ..
  have h2:(↑(Int.gcd b (a % b)):Int) ∣ a % b:=Int.gcd_dvd_right ..
  have:=Int.dvd_add (Int.dvd_trans h1 (Int.dvd_mul_right b (a / b))) h2
  rwa [Int.mul_ediv_add_emod] at this
 ·refine Int.dvd_gcd (Int.gcd_dvd_right ..) ?_
  have h1:(↑(Int.gcd a b):Int) ∣ a:=Int.gcd_dvd_left ..
  have h2:(↑(Int.gcd a b):Int) ∣ b:=Int.gcd_dvd_right ..
  rw [Int.emod_def]
  exact Int.dvd_sub h1 (Int.dvd_trans h2 (Int.dvd_mul_right b (a / b)))
theorem GA (a b:Int):gc (a.natAbs:Int) (b.natAbs:Int)=gc a b:=by
 unfold gc;simp [Int.gcd]
theorem Ff {a b:Int}(h : 0<b):gc a b<=b:=Int.le_of_dvd h (Ei a b)
def lT (t b:Int):Int:=(if b<0 then -t else t) / gc t b
def lB (t b:Int):Int:=(b.natAbs:Int) / gc t b
theorem GB {t b:Int}(h : 0<b):lT t b=t / gc t b:=by unfold lT;rw [if_neg (by omega)]
theorem GD {t b:Int}(h : 0<b):lB t b=b / gc t b:=by unfold lB;rw [show (b.natAbs:Int)=b by omega]
theorem x9 (t b:Int):lT t b*gc t b=if b<0 then -t else t:=by
 unfold lT
 refine Int.ediv_mul_cancel ?_
 split
 ·exact Int.dvd_neg.mpr (Eh t b)
 ·exact Eh t b
theorem ya (t b:Int):lB t b*gc t b=(b.natAbs:Int):=by
 unfold lB
 refine Int.ediv_mul_cancel ?_
 exact Int.dvd_natAbs.mpr (Ei t b)
theorem uj {t b:Int}(h:b ≠ 0) : 1<=lB t b:=by
 have h1:=ya t b
 have h2:=oI (a:=t) h
 have h3 : 0<lB t b:=Int.pos_of_mul_pos_left (by rw [h1];omega) h2
 omega
theorem Uo {t b:Int}(h:b ≠ 0):lB t b<=(b.natAbs:Int):=by
 unfold lB
 exact Int.ediv_le_self _ (by omega)
theorem Tw {t b:Int}(h:b ≠ 0):(lT t b).natAbs<=t.natAbs:=by
 have h1:=x9 t b
 have h2:=oI (a:=t) h
 have h3:(lT t b*gc t b).natAbs=t.natAbs:=by rw [h1];split<;>omega
 rw [Int.natAbs_mul] at h3
 have h4 : 1<=(gc t b).natAbs:=by omega
 calc (lT t b).natAbs=(lT t b).natAbs*1:=by omega
  _<=(lT t b).natAbs*(gc t b).natAbs:=Nat.mul_le_mul_left _ h4
  _=t.natAbs:=h3
theorem xG {t b:Int}(h:b ≠ 0):lT t b*b=t*lB t b:=by
 have h1:=x9 t b
 have h2:=ya t b
 have h3:=oI (a:=t) h
 apply Int.eq_of_mul_eq_mul_right (a:=gc t b) (by omega)
 by_cases hb:b<0
 ·rw [if_pos hb] at h1
  have h4:lB t b*gc t b = -b:=by omega
  grind
 ·rw [if_neg hb] at h1
  have h4:lB t b*gc t b=b:=by omega
  grind
theorem DR {t b:Int}(h:b ≠ 0):Int.gcd (lT t b) (lB t b)=1:=by
 have h1:=x9 t b
 have h2:=ya t b
 have h3:=oI (a:=t) h
 have hd1:((Int.gcd (lT t b) (lB t b):Int)) ∣ lT t b:=Int.gcd_dvd_left ..
 have hd2:((Int.gcd (lT t b) (lB t b):Int)) ∣ lB t b:=Int.gcd_dvd_right ..
 have e1:((Int.gcd (lT t b) (lB t b):Int))*gc t b ∣ t:=by
  have:=Int.mul_dvd_mul hd1 (Int.dvd_refl (gc t b))
  rw [h1] at this
  split at this
  ·exact Int.dvd_neg.mp this
  ·exact this
 have e2:((Int.gcd (lT t b) (lB t b):Int))*gc t b ∣ b:=by
  have:=Int.mul_dvd_mul hd2 (Int.dvd_refl (gc t b))
  rw [h2] at this
  exact Int.dvd_natAbs.mp this
 have e3:((Int.gcd (lT t b) (lB t b):Int))*gc t b ∣ gc t b:=Int.dvd_coe_gcd e1 e2
 have e4:=Int.le_of_dvd h3 e3
 have e5 : 0<Int.gcd (lT t b) (lB t b):=Int.gcd_pos_of_ne_zero_right _ (by have:=uj (t:=t) h;omega)
 by_cases hh:Int.gcd (lT t b) (lB t b)=1
 ·exact hh
 ·have e6:(2:Int)<=((Int.gcd (lT t b) (lB t b):Nat):Int):=by omega
  have : 2*gc t b<=((Int.gcd (lT t b) (lB t b):Nat):Int)*gc t b:=Int.mul_le_mul_of_nonneg_right e6 (by omega)
  omega
theorem xk {t b p q:Int}(hb:b ≠ 0)(hq : 0<q)(hg:Int.gcd p q=1)(h:p*b=t*q):p=lT t b/\q=lB t b:=by
 have c:=xG (t:=t) hb
 have g:=DR (t:=t) hb
 have k:=uj (t:=t) hb
 have e:p*lB t b=lT t b*q:=by
  apply Int.eq_of_mul_eq_mul_right (a:=b) hb
  grind
 have d1:q ∣ lB t b:=by
  have z:q ∣ p*lB t b:=by rw [e];exact Int.dvd_mul_left _ _
  have z':q.natAbs ∣ p.natAbs*(lB t b).natAbs:=by rw [<- Int.natAbs_mul];exact Int.natAbs_dvd_natAbs.mpr z
  have cp:Nat.Coprime q.natAbs p.natAbs:=by
   have:Int.gcd q p=1:=by rw [Int.gcd_comm];exact hg
   exact this
  exact Int.natAbs_dvd_natAbs.mp (cp.dvd_of_dvd_mul_left z')
 have d2:lB t b ∣ q:=by
  have z:lB t b ∣ lT t b*q:=by rw [<- e];exact Int.dvd_mul_left _ _
  have z':(lB t b).natAbs ∣ (lT t b).natAbs*q.natAbs:=by rw [<- Int.natAbs_mul];exact Int.natAbs_dvd_natAbs.mpr z
  have cp:Nat.Coprime (lB t b).natAbs (lT t b).natAbs:=by
   have:Int.gcd (lB t b) (lT t b)=1:=by rw [Int.gcd_comm];exact g
   exact this
  exact Int.natAbs_dvd_natAbs.mp (cp.dvd_of_dvd_mul_left z')
 have eq:q=lB t b:=Int.dvd_antisymm (by omega) (by omega) d1 d2
 refine ⟨?_,eq⟩
 rw [<- eq] at e
 exact Int.eq_of_mul_eq_mul_right (a:=q) (by omega) e
theorem U7 {t b t' b':Int}(hb:b ≠ 0)(gI:b' ≠ 0)(h:t*b'=t'*b):lT t b=lT t' b'/\lB t b=lB t' b':=by
 refine xk gI (by have:=uj (t:=t) hb;omega) (DR hb) ?_
 have c:=xG (t:=t) hb
 apply Int.eq_of_mul_eq_mul_right (a:=b) hb
 grind
end eY
namespace L2
open PySem PySem.Spec PyProof.Rows
theorem i9 {lo:Int}{n j:Nat}{d:Dv}(h:(fR lo n)[j]?=some d):j<n/\d=di (lo+(j:Int)):=by
 rw [List.getElem?_map] at h
 rcases Nat.lt_or_ge j n with hj | hj
 ·rw [List.getElem?_range hj] at h;cases h;exact ⟨hj,rfl⟩
 ·rw [List.getElem?_eq_none (by simpa using hj)] at h;cases h
theorem e8 {α β:Type}{f : α -> β}{l:List α}{j:Nat}{d : β}(h:(l.map f)[j]?=some d):∃ x,l[j]?=some x/\d=f x:=by
 rw [List.getElem?_map] at h
 cases q:l[j]? with
 |none=>rw [q] at h;cases h
 |some x=>rw [q] at h;cases h;exact ⟨x,rfl,rfl⟩
theorem jx {α:Type}{l:List α}{i:Nat}{x : α}(h:l[i]?=some x):l.take (i+1)=l.take i++[x]:=by rw [List.take_succ,h];rfl
theorem aV.fg {ι:Type}{F:aO ι}{cA:List Stmt}{ρ ρ1 ρ2:En}(h:aV F cA ρ (.nx ρ1))(f:Fg ρ1 ρ2):aV F cA ρ (.nx ρ2):=by
 obtain ⟨τ,x,y⟩:=h
 exact ⟨τ,x,fun D σ G0 H0 G H r k=>y D σ G0 H0 G H r fun aA G' H' r'=>k aA G' H' (f.rs r')⟩
theorem lh {ι:Type}{F:aO ι}{cA:List Stmt}{ρ:En}{o:Out}{t:Tr}{d:Dv}(j:Nat)(hj : ρ[j]?=some (some t))(e:er t=d)(h:aV F cA (ρ.set j (some (.fz d))) o):aV F cA ρ o:=OA j hj (e ▸ h)
theorem sI {ι:Type}{F:aO ι}{cA body:List Stmt}{ρ:En}{o:Out}{c:Expr}{pos:Pos}{α:Type}(S : α->En)(Pp : α->Prop)(p : α->Bool)(μ : α->Nat)(a0 : α)(e:S a0 = ρ)(h0:Pp a0)(hc:∀ a,Pp a->cU F c (S a) (p a))(hb:∀ a,Pp a->p a=true->∃ a',Pp a' /\ μ a' < μ a/\aV F body (S a) (.nx (S a')))
  (fin:∀ a,Pp a->p a=false->aV F cA (S a) o) (hx:∀ i,(F.cx i).xe=cv:=by intro _;rfl):aV F (.While c body [] pos::cA) ρ o:=by
 subst e
 obtain ⟨a',h1,h2,h3⟩:=N2 S Pp p μ hc hb a0 h0 hx
 exact ai h3 (fin a' h1 h2)
def cD (ns:List Int)(k:Int):Int:=ns.getD k.toNat 0
theorem cell_in {ns:List Int}{k:Int}(h0 : 0<=k)(h:k<ns.length):av (ns.map di) k=some (di (cD ns k)):=by
 obtain ⟨j,rfl⟩:∃ j:Nat,k=(j:Int):=⟨k.toNat,by omega⟩
 have hj:j<ns.length:=by omega
 refine e7 ?_
 unfold cD
 rw [List.getElem?_map,List.getElem?_eq_getElem hj,List.getD_eq_getElem?_getD,show (j:Int).toNat=j by omega,List.getElem?_eq_getElem hj]
 rfl
theorem cell_out {ns:List Int}{k:Int}(h0 : 0<=k)(h:ns.length<=k):cD ns k=0:=by
 unfold cD
 rw [List.getD_eq_getElem?_getD,List.getElem?_eq_none (by omega)]
 rfl
theorem sV {α β:Type}(f : α -> β)(l:List α)(a b:Option Int):cutD (l.map f) a b=(cutD l a b).map f:=by
 unfold cutD
 rw [List.length_map,List.map_take,List.map_drop]
mutual
def fL:Dv->Bool
 | .fl v=>fQ v
 | .lst ds=>mw ds
 | .tup ds=>mw ds
def mw:List Dv->Bool
 |[] => true
 |d::ds=>fL d&&mw ds
end
mutual
theorem sW:∀ {d:Dv},fL d=true->bL d d=true
 | .fl v,h=>D9 h
 | .lst ds,h=>wQ h
 | .tup ds,h=>wQ h
theorem wQ:∀ {ds:List Dv},mw ds=true->eE ds ds=true
 |[],_=>rfl
 |d::ds,h=>by
  have h':(fL d&&mw ds)=true:=h
  rw [Bool.and_eq_true] at h'
  show (bL d d&&eE ds ds)=true
  rw [sW h'.1,wQ h'.2]
  rfl
end
theorem xn {α:Type}{f : α->Dv}(h:∀ a,fL (f a)=true):∀ l:List α,mw (l.map f)=true
 |[] => rfl
 |a::l=>by
  show (fL (f a)&&mw (l.map f))=true
  rw [h a,xn h l]
  rfl
theorem p9 {n:Nat}:∀ {ds:List Dv},(∀ d ∈ ds,cF d<=n)->cP ds<=n
 |[],_=>Nat.zero_le _
 |d::ds,h=>by
  show max (cF d) (cP ds)<=n
  exact Nat.max_le.mpr ⟨h d (.head _),p9 fun x hx=>h x (.tail _ hx)⟩
theorem xH (l:List Int):fL (dis l)=true:=xn (fun _=>rfl) l
theorem ko (l:List Int):cF (dis l)<=1:=by
 show cP _+1<=1
 have:cP (l.map di)<=0:=p9 fun d hd=>by
  obtain ⟨_,_,rfl⟩:=List.mem_map.mp hd
  exact Nat.le_refl _
 omega
theorem qa {n:Nat}{ds:List Dv}(h:∀ d ∈ ds,cF d<=n):cF (.lst ds)<=n+1:=Nat.succ_le_succ (p9 h)
theorem Rt {n:Nat}{ds:List Dv}(h:∀ d ∈ ds,cF d<=n):cF (.tup ds)<=n+1:=Nat.succ_le_succ (p9 h)
theorem xI {α:Type}{f : α->Dv}(h:∀ a,fL (f a)=true)(l:List α):fL (.lst (l.map f))=true:=xn h l
end L2
namespace L2
open PySem PySem.Spec PyProof.Rows
theorem aE.setAt {K:PySem.W.Frag}{G H:Hp}:∀ {us:List Tr} {vs:List V} {fq:List Addr} {m:Nat} {t:Tr} {v:V} {f:List Addr},aE K G H us vs fq->m<us.length->Ow K G H t v f->fq.Nodup->f.Nodup->(∀ a ∈ f,a ∉ fq) ->
  ∃ fw,aE K G H (us.set m t) (vs.set m v) fw/\fw.Nodup/\∀ a ∈ fw,a ∈ fq\/a ∈ f
 |u::us,_,_,0,t,v,f,⟨w,r,f1,f2,h1,h2,h3,h4⟩,_,o,nd,nf,dj=>by
  subst h1 h2
  have cZ:=List.nodup_append.mp nd
  refine ⟨f++f2,⟨v,r,f,f2,rfl,rfl,o,h4⟩,List.nodup_append.mpr ⟨nf,cZ.2.1,fun a ha b hb e=>dj a ha (e ▸ List.mem_append_right _ hb)⟩,fun a ha=>?_⟩
  rcases List.mem_append.mp ha with z | z
  ·exact .inr z
  ·exact .inl (List.mem_append_right _ z)
 |u::us,_,_,m+1,t,v,f,⟨w,r,f1,f2,h1,h2,h3,h4⟩,hm,o,nd,nf,dj=>by
  subst h1 h2
  have cZ:=List.nodup_append.mp nd
  obtain ⟨fw,q1,q2,q3⟩:=aE.setAt (m:=m) h4 (Nat.lt_of_succ_lt_succ hm) o cZ.2.1 nf fun a ha z=>dj a ha (List.mem_append_right _ z)
  refine ⟨f1++fw,⟨w,_,f1,fw,rfl,rfl,h3,q1⟩,List.nodup_append.mpr ⟨cZ.1,q2,fun a ha b hb e=>?_⟩,fun a ha=>?_⟩
  ·subst e
   rcases q3 a hb with z | z
   ·exact cZ.2.2 a ha a z rfl
   ·exact dj a z (List.mem_append_left _ ha)
  ·rcases List.mem_append.mp ha with z | z
   ·exact .inl (List.mem_append_left _ z)
   ·exact (q3 a z).imp (List.mem_append_right _) id
theorem sX {ι:Type}{F:aO ι}{e:Expr}{ρ:En}{t:Tr}{pos:Pos}(j:Nat){x:Str}{us:List Tr}{n:Int}{m:Nat}{nE:Expr}{p1 p2:Pos}(h : ρ[j]?=some (some (.ow us)))(hn:bp F nE ρ (ti n))(hm:dW us.length n=some m)(he:bp F e ρ t)(hN:∀ i,(F.cx i).N[j]?=some x:=by intro _;rfl)
  (hv:∀ i,fU (F.cx i).env.scope x:=by intro _;first | exact Or.inl rfl | exact Or.inr (Or.inl rfl) | exact Or.inr (Or.inr rfl)) (hd:(x==("__debug__" : Str))=false:=by decide) (hc:(x==("__classdict__" : Str))=false:=by decide)
  (hs:∀ i,swapsWithSole [.Subscript (.Name x p1) nE p2] e pos.line (F.cx i).env=pure false:=by intro _;rfl) (hw:∀ i,swappedStores [.Subscript (.Name x p1) nE p2] e (F.cx i).env=pure none:=by intro _;rfl)
  (h1:∀ i,(assignEach [.Subscript (.Name x p1) nE p2] (F.cx i).env).map (·.2)=[assign (.Subscript (.Name x p1) nE p2) (F.cx i).env]:=by intro _;rfl)
  (hps:∀ i,PG (F.cx i) (.Subscript (.Name x p1) nE p2) (za (eQ j) (uE F nE) yt)) :
  Rn F (.Assign [.Subscript (.Name x p1) nE p2] e pos) ρ (.nx (ρ.set j (some (.ow (us.set m t))))):=by
 obtain ⟨τ,y,z⟩:=he
 obtain ⟨rN,yn,zn⟩:=hn
 refine ⟨mh τ (za (eQ j) (uE F nE) yt),fun i=>FY (y i) (hps i) (hs i) (hw i) (h1 i),fun D σ G0 H0 G H r k=>?_⟩
 obtain ⟨fp,r⟩:=r
 refine z σ G H fp _ r.st.s r.own r.g fun v1 G1 H1 f1 s1 o1 w1=>?_
 have r1:cT F.K G0 H0 G1 H1 ρ σ fp:=⟨r.st.trans s1,r.own.mono s1.g s1.h,r.own.off s1 r.g,r.n,r.d⟩
 obtain ⟨l0,u9,vd,c1,c2,_⟩:=r1.mut h (.refl r1.st.s)
 refine ⟨_,c1,rN,yn,zn σ G1 H1 fp _ r1.st.s r1.own r1.g fun vn G2 H2 f2 s2 o2 w2=>?_⟩
 obtain ⟨l,vs,fq,d1,d2,d3,d4,d5,d6,d7⟩:=r.mut h (s1.trans s2)
 rw [c1] at d1
 cases d1
 have hm':m<us.length:=(pW hm).2.1
 have nf:∀ a ∈ f1,a ∉ fq:=fun a ha hb=>by
  obtain ⟨u,hu⟩:=r.own.there a (d6 a hb)
  rw [w1.n a ha] at hu;cases hu
 obtain ⟨fw,q1,q2,q3⟩:=d4.setAt hm' (o1.mono s2.g s2.h) d5 w1.d nf
 refine ⟨l0,vs,n,m,rfl,aB o2.2,d3,by rw [<- d4.length];exact hm,k σ G2 _ (d7 (us.set m t) (vs.set m v1) fw q1 q2 fun a ha=>(q3 a ha).imp id fun z=>⟨w1.n a z,?_⟩)⟩
 cases q:G2 a with
 |none=>rfl
 |some u =>
  obtain ⟨u',aJ⟩:=o1.there a z
  have:=s2.n a (w1.g a z) (by rw [q];exact fun z=>nomatch z)
  rw [aJ] at this;cases this
end L2
namespace L2
open PySem PySem.Spec PyProof.Rows
def Tx (ta:TA):TE:=fun σ H Q=>ta σ H fun vs H1=>∃ j:Int,vs=[.int j]/\∀ p,H1 p=none->Q (.ref p) (upd H1 p (.ck 0 j))
section
variable {X:Cx}
theorem Py {a:Expr} {ta:TA} {p pos:Pos} (hg:Gl X "range") (hm:X.mg "range" = none) (ha:PA X [a] ta) (hs:starEach [a] X.env=[(false,eval a X.env)]:=by rfl):PE X (.Call (.Name "range" p) [a] [] pos) (Tx ta):=by
 intro pins s σ H Q I h
 refine Call_ (jD I hg hm boot_range (PyProof.Rows.callWith_type1 (ay (ha pos pins s σ H _ I h) fun us s1 ⟨vs,H1,I1,r1,q1⟩=>?_) hs rfl))
 obtain ⟨j,e,q⟩:=q1
 subst e
 cases r1 with
 |cons r rr =>
  cases rr
  obtain ⟨t,rfl⟩:=r
  refine call_range_1 ⟨.ref _,_,I1.laid (t':=s1.toks+1+1) (o:=.ck 0 j) (fun b ob q=>Heap.get?_push_of_some _ q) (Nat.le_refl _) ?_,rfl,q _ (I1.az.fresh (Nat.le_refl _))⟩
  exact ⟨_,_,_,Heap.get?_push_size _ rfl⟩
theorem MZ (hc:X.calm=true):du X (.type "list") (fun xs H Q=>∃ p n,xs=[.ref p]/\H p=some (.ck 0 n)/\0<=n/\n<2 ^ 20/\∀ l,H l=none->Q (.ref l) (upd H l (.lst ((List.range n.toNat).map fun i=>.int (0+((i:Nat):Int)))))):=by
 intro pins s σ H xs us Q I r h
 obtain ⟨p,n,rfl,hH,h0,h1,q⟩:=h
 obtain ⟨u,rfl,rx⟩:=vals1 r
 cases rx
 obtain ⟨t,u,v,e⟩:=(show cJ X.prog X.w H s.heap p (.ck 0 n) from I.az p _ hH)
 have Up:Builtin.Range.rangeSize 0 n 1=(n.toNat:Nat):=by rw [rangeSize_pos (by decide) h0];omega
 refine call_list_range (n:=n.toNat) (I.ok.hd hc) e (Oz h0 (by omega) (by decide) (by decide)) Up (by omega) fun h' tk eS c' kp e' it=>?_
 refine ⟨.ref s.heap.objs.size,_,I.laid (t':=tk) (o:=.lst ((List.range n.toNat).map fun i=>.int (0+((i:Nat):Int)))) kp (Nat.le_refl _) ?_,rfl,q _ (I.az.fresh (Nat.le_refl _))⟩
 have hs:sizeLine=16777216:=sizeLine_eq
 refine ⟨by rw [List.length_map,List.length_range];omega,eS.toList,c',?_,by rw [Array.toArray_toList];exact e'⟩
 obtain ⟨i1,i2⟩:=it
 have gen:∀ (l:List Value) (k:Nat),(∀ j v,l[j]?=some v->∃ t,v=Value.int (0+((k+j:Nat):Int)) t)->Vals ((List.range l.length).map fun i=>V.int (0+((k+i:Nat):Int))) l:=by
  intro l
  induction l with
  |nil=>intro k _;exact .nil
  |cons a l ih =>
   intro k hk
   rw [List.length_cons,List.range_succ_eq_map,List.map_cons,List.map_map]
   obtain ⟨t,ht⟩:=hk 0 a rfl
   refine .cons ⟨t,by rw [ht]⟩ ?_
   have:=ih (k+1) (fun j v hj=>by
    obtain ⟨t,ht⟩:=hk (j+1) v hj
    exact ⟨t,by rw [ht,show k+(j+1)=k+1+j by omega]⟩)
   refine (List.map_congr_left fun i _=>?_) ▸ this
   show V.int (0+((k+1+i:Nat):Int))=V.int (0+((k+(i+1):Nat):Int))
   rw [show k+1+i=k+(i+1) by omega]
 have g0:=gen eS.toList 0 fun j v hj=>by
  obtain ⟨t,ht⟩:=i2 j v (by rw [<- Array.getElem?_toList];exact hj)
  refine ⟨t,?_⟩
  rw [ht,Int.mul_one,Nat.zero_add]
 rw [Array.length_toList,i1] at g0
 have e0:((List.range n.toNat).map fun i=>V.int (0+((0+i:Nat):Int)))=(List.range n.toNat).map fun i=>V.int (0+((i:Nat):Int)):=List.map_congr_left fun i _=>by rw [Nat.zero_add]
 rw [e0] at g0
 exact g0
def Jj (K:PySem.W.Frag):List V->Hp->VK->Prop:=fun xs H Q=>∃ (p:Addr) (bs:List Bool),xs=[.ref p]/\aN K H p (bs.map V.bl)/\Q (.bl (bs.any id)) H
theorem range_any (bs:List Bool):((List.range bs.length).any fun i=>(bs[i]?).getD false)=bs.any id:=by
 have:=congrArg (fun l:List Bool=>l.any id) (MY bs false id)
 simp only [List.any_map,List.map_id] at this
 exact this
theorem Qs (hc:X.calm=true):du X (.builtin "any") (Jj X.K):=by
 intro pins s σ H xs us Q I r h
 obtain ⟨p,bs,rfl,hq,q⟩:=h
 cases r with
 |cons r1 rr =>
  cases rr
  cases r1
  obtain ⟨its,rv,pl,hz⟩:=I.list hq
  have hb:=Qm rv
  have hl:s.heap.IsList p its.toArray:=pl.isList
  have aX:p<s.heap.objs.size:=by obtain ⟨_,e,_⟩:=hl;exact Heap.lt_size e
  refine call_any_walk (wpAny_pyIter_list hl ?_)
  refine ⟨s.heap.objs.size,[s.heap.objs.size,p],[s.heap.objs.size],its.toArray.size,_,_,fun i=>(bs[i]?).getD false,rfl,Walks.list (A:=X.A.in1) (I.ok.hd hc) _ p (Nat.ne_of_lt aX) its.toArray,
   ⟨⟨_,Heap.get?_push_size _ rfl,rfl,rfl⟩,hl.push _⟩,fun i v s' Q' E' hP hQ=>?_,fun h' tk hk=>?_⟩
  ·obtain ⟨b,e,rfl⟩:=hb.get i v (by simpa using hP)
   simp only [e,Option.getD_some] at hQ
   exact wpAny_truthy_bool hQ
  ·have e:((List.range its.toArray.size).any fun i=>(bs[i]?).getD false)=bs.any id:=by
    rw [List.size_toArray,hb.length];exact range_any bs
   rw [e]
   exact ⟨.bl _,H,I.kept (t':=tk) (LSm.kept_iter hk),rfl,q⟩
def unlike (ns:List Int):Nat:=(firstMet (fun i=>ns.getD i 0) ns.length).length
theorem M0 (hc:X.calm=true):du X (.type "set") (fun xs H Q=>∃ (p:Addr) (ns:List Int),xs=[.ref p]/\aN X.K H p (ns.map V.int)/\ns.length<1000/\∀ l S,H l=none->Q (.ref l) (upd H l (.set S (unlike ns)))):=by
 intro pins s σ H xs us Q I r h
 obtain ⟨p,ns,rfl,hq,hz,q⟩:=h
 obtain ⟨u,rfl,rx⟩:=vals1 r
 cases rx
 obtain ⟨its,rv,pl,_⟩:=I.list hq
 have hi:=intsAre_of rv
 have hl:=rv.length
 rw [List.length_map] at hl
 refine call_set_list (ns:=ns) (I.ok.hd hc) pl.isList (by simpa using hi) (by rw [List.size_toArray,<- hl];exact Nat.lt_of_lt_of_le (Nat.succ_lt_succ hz) (by decide)) fun h' tk hs kp=>?_
 have bR:its.toArray.size=ns.length:=by rw [List.size_toArray,<- hl]
 rw [bR] at hs
 exact ⟨.ref s.heap.objs.size,_,I.laid (t':=tk) (o:=.set _ (unlike ns)) (fun b o e=>kp b o (Heap.lt_size e) e) (Nat.le_refl _) hs,rfl,q _ _ (I.az.fresh (Nat.le_refl _))⟩
theorem M1:du X (.builtin "len") (fun xs H Q=>∃ p S n,xs=[.ref p]/\H p=some (.set S n)/\Q (.int n) H):=by
 intro pins s σ H xs us Q I r h
 obtain ⟨p,S,n,rfl,hH,q⟩:=h
 obtain ⟨u,rfl,rx⟩:=vals1 r
 cases rx
 obtain ⟨o,es,ep,t,h1,h2,h3,_,_,h4,h5,h6⟩:=(show cJ X.prog X.w H s.heap p (.set S n) from I.az p _ hH)
 subst h6
 refine call_len_set h1 h2 h3 h5 (by have:es.size<4096:=h4;omega) ⟨.int _,H,I.tok _,⟨_,rfl⟩,q⟩
theorem Dp {ns:List Int}(h:ns.Nodup):unlike ns=ns.length:=by
 have gen:∀ i,i<=ns.length->firstMet (fun i=>ns.getD i 0) i=ns.take i:=by
  intro i
  induction i with
  |zero=>intro _;rw [firstMet_zero];simp
  |succ i ih =>
   intro hi
   rw [firstMet_succ,ih (by omega)]
   have hx:ns[i]?=some (ns[i]'(by omega)):=List.getElem?_eq_getElem _
   rw [jx hx]
   have e:ns.getD i 0=ns[i]'(by omega):=by rw [List.getD_eq_getElem?_getD,hx];rfl
   show step_dedup (ns.take i) (ns.getD i 0)=_
   rw [e]
   unfold step_dedup
   have:((ns.take i).any (·==ns[i]'(by omega)))=false:=by
    rw [Bool.eq_false_iff]
    intro z
    obtain ⟨y,hy,hyy⟩:=List.any_eq_true.mp z
    have cw:y=ns[i]'(by omega):=by simpa using hyy
    subst cw
    obtain ⟨j,hj,KA⟩:=List.mem_iff_getElem.mp hy
    rw [List.getElem_take] at KA
    rw [List.length_take] at hj
    have:=(List.getElem_inj (xs:=ns) h).mp KA
    omega
   rw [this]
   rfl
 unfold unlike
 rw [gen ns.length (Nat.le_refl _),List.take_length]
theorem NF:du X (.builtin "sorted") (fun xs H Q=>∃ (p:Addr) (ns:List Int),xs=[.ref p]/\aN X.K H p (ns.map V.int)/\ns.length<64/\∀ (l:Addr) (ms:List Int),H l=none->ms.Perm ns->ms.Pairwise (· <= ·)->Q (.ref l) (upd H l (.lst (ms.map V.int)))):=by
 intro pins s σ H xs us Q I r h
 obtain ⟨p,ns,rfl,hq,hz,q⟩:=h
 obtain ⟨u,rfl,rx⟩:=vals1 r
 cases rx
 obtain ⟨its,rv,pl,dH⟩:=I.list hq
 have hl:=rv.length
 rw [List.length_map] at hl
 refine sorted_ints pl.isList (intsAre_of rv) (by omega) fun out ms io pm pw=>?_
 obtain ⟨e,he⟩:=sortedAll_at s.heap its out
 refine ⟨.ref (s.heap.objs.size+1),_,I.laid (t':=s.toks) (o:=.lst (ms.map V.int)) (fun b o e=>sortedAll_old e) (Nat.le_succ _) ?_,rfl,q _ ms (I.az.fresh (Nat.le_succ _)) pm pw⟩
 refine ⟨by rw [List.length_map,pm.length_eq];rw [List.length_map] at dH;exact dH,out.toList,e,wM io,by rw [Array.toArray_toList];exact he⟩
def GF (K:PySem.W.Frag):V->List V->Hp->VK->Prop:=fun x vs H Q=>∃ (l:Addr) (ns:List Int) (n:Int),x=.ref l/\vs=[.int n]/\aN K H l (ns.map V.int)/\n ∈ ns/\Q (.int (ns.idxOf n:Nat)) H
theorem Qt:rz X "list.index" (GF X.K):=by
 intro pins s σ H x vs v us Q I rx rv h
 obtain ⟨l,ns,n,rfl,rfl,hq,hn,q⟩:=h
 cases rx
 obtain ⟨u,rfl,ru⟩:=rv.one
 obtain ⟨t,rfl⟩:=ru
 obtain ⟨its,r,pl,hz⟩:=I.list hq
 have hi:=intsAre_of r
 have hlen:=hi.length
 have hs:sizeLine=16777216:=sizeLine_eq
 rw [List.length_map] at hz
 obtain ⟨⟨cls,dd,data,sl⟩,ho,hc,m,hd⟩:=id pl.isList
 simp only at hc hd
 subst hc hd
 have hj:ns.idxOf n<ns.length:=List.idxOf_lt_length_iff.mpr hn
 refine call_meets PySem.F.slot_list_index ⟨_,ho,rfl⟩ PySem.F.entry_list_index (PySem.F.args_list_index_2 _ _)
  (SeqAt.list_indexAt l its.toArray m dd sl (.int n t) (isInt n) (ns.idxOf n) (by simpa [hlen] using hj) (by omega) ?_ ?_) ⟨ho,fun y hy=>(eq_isInt n t hi y (by simpa using hy)).at _ _,⟨.int _,H,I.tok _,⟨_,rfl⟩,q⟩⟩
 ·show isInt n its[ns.idxOf n]=true
  rw [isInt_at n hi _ (by omega) hj]
  simpa using List.getElem_idxOf hj
 ·intro j gL aX
  show isInt n its[j]=false
  rw [isInt_at n hi j (by simpa using gL) (by omega)]
  exact ne_of_lt_idxOf aX _
end
section
variable {ι:Type}{F:aO ι}{e a b c:Expr}{es:List Expr}{ρ:En}{t ta bA:Tr}{ts:List Tr}{pos:Pos}
theorem gQ (l:List Int):(l.map di).map Tr.fz=l.map fun n=>Tr.fz (di n):=by rw [List.map_map];rfl
theorem sJ {n:Int} (hm:F.mg "list" = none) (iR:F.mg "range" = none) (ha:Ev F a ρ (ti n)) (h0 : 0<=n) (h1:n<2 ^ 20) {p1 p2 iE:Pos} (hg:∀ i,Gl (F.cx i) "list" := by intro _;rfl) (fY:∀ i,Gl (F.cx i) "range" := by intro _;rfl)
  (hs:∀ i,starEach [a] (F.cx i).env=[(false,eval a (F.cx i).env)]:=by intro _;rfl) (dq:∀ i,starEach [.Call (.Name "range" p2) [a] [] iE] (F.cx i).env=[(false,eval (.Call (.Name "range" p2) [a] [] iE) (F.cx i).env)]:=by intro _;rfl) :
  Ev F (.Call (.Name "list" p1) [.Call (.Name "range" p2) [a] [] iE] [] pos) ρ (.ow (((List.range n.toNat).map fun i=>(0+((i:Nat):Int))).map fun n=>.fz (di n))):=by
 obtain ⟨τ,p,q⟩:=ha.use
 refine ⟨_,fun i=>sO (MZ (F.calm i)) (hg i) ((F.hm i).symm ▸ hm) pZ (cX (Py (fY i) ((F.hm i).symm ▸ iR) (cX (p i) dN (hs i)) (hs i)) dN (dq i)) (by decide) (by decide) (dq i) rfl,fun σ G H Q s rr k=>q σ G H _ s rr fun x G1 H1 s1 hx=>?_⟩
 refine ⟨n,by rw [aB hx],fun p0 KC=>⟨p0,n,rfl,d8,h0,h1,fun l hl=>?_⟩⟩
 have k2:=k.step (s1.trans (Step.kG (o:=.ck 0 n) s1.s KC))
 have e:((List.range n.toNat).map fun i=>V.int (0+((i:Nat):Int)))=((List.range n.toNat).map fun i=>(0+((i:Nat):Int))).map V.int:=by rw [List.map_map];rfl
 rw [e]
 refine k2.lst (s1.s.trans (ak.new KC)) ?_ hl
 rw [<- gQ]
 exact lD.hG
theorem GH {bs:List Bool} (hm:F.mg "any" = none) (ha:Ev F e ρ ta) (ea:er ta=.lst (bs.map db)) {p':Pos} (hg:∀ i,Gl (F.cx i) "any" := by intro _;rfl)
  (hs:∀ i,starEach [e] (F.cx i).env=[(false,eval e (F.cx i).env)]:=by intro _;rfl):Ev F (.Call (.Name "any" p') [e] [] pos) ρ (tb (bs.any id)) :=
 lE (r:=Jj F.K) (fun i=>F.hK i ▸ Qs (F.calm i)) hm Ti (ag ha aj hs) (fun G H vs Q s hx k=>by
  obtain ⟨x,rfl,dm⟩:=gV hx
  rw [ea] at dm
  obtain ⟨l,ys,rfl,h1,h2⟩:=dm
  have:=DQ h2
  subst this
  exact ⟨l,bs,rfl,s.seq h1,k.sc s rfl⟩) hg (by decide) (by decide) hs (fun _=>rfl)
theorem GI:bootBuiltins "set" = some (.type "set"):=by decide +kernel
theorem DT {ns:List Int} (hm:F.mg "len" = none) (iR:F.mg "set" = none) (ha:Ev F a ρ ta) (ea:er ta=dis ns) (hz:ns.length<1000) {p1 p2 iE:Pos} (hg:∀ i,Gl (F.cx i) "len" := by intro _;rfl) (fY:∀ i,Gl (F.cx i) "set" := by intro _;rfl)
  (hs:∀ i,starEach [a] (F.cx i).env=[(false,eval a (F.cx i).env)]:=by intro _;rfl) (dq:∀ i,starEach [.Call (.Name "set" p2) [a] [] iE] (F.cx i).env=[(false,eval (.Call (.Name "set" p2) [a] [] iE) (F.cx i).env)]:=by intro _;rfl) :
  Ev F (.Call (.Name "len" p1) [.Call (.Name "set" p2) [a] [] iE] [] pos) ρ (ti (unlike ns:Nat)):=by
 obtain ⟨τ,p,q⟩:=ha.use
 refine ⟨jP _ (df (jP (fun xs H Q=>∃ (p:Addr) (ns:List Int),xs=[.ref p]/\aN F.K H p (ns.map V.int)/\ns.length<1000/\∀ l S,H l=none->Q (.ref l) (upd H l (.set S (unlike ns)))) (df τ eA)) eA),fun i=>sS M1 (hg i) ((F.hm i).symm ▸ hm) Gr (cX (sO (F.hK i ▸ M0 (F.calm i)) (fY i) ((F.hm i).symm ▸ iR) GI (cX (p i) dN (hs i)) (by decide) (by decide) (hs i) rfl) dN (dq i)) (by decide) (by decide) (dq i) rfl,fun σ G H Q s rr k=>q σ G H _ s rr fun x G1 H1 s1 hx=>?_⟩
 rw [ea] at hx
 obtain ⟨l,ys,rfl,h1,h2⟩:=hx
 have:=lC h2
 subst this
 refine ⟨l,ns,rfl,s1.s.seq h1,hz,fun l0 S kT=>⟨l0,S,_,rfl,d8,?_⟩⟩
 exact (k.step (s1.trans (Step.kG (o:=.set S (unlike ns)) s1.s kT))).sc (s1.s.trans (ak.new kT)) rfl
def sortI (ns:List Int):List Int:=ns.mergeSort (fun a b=>decide (a<=b))
theorem sortI_perm (ns:List Int):(sortI ns).Perm ns:=List.mergeSort_perm ..
theorem Ej (ns:List Int):(sortI ns).Pairwise (· <= ·):=by
 have:=List.pairwise_mergeSort (le:=fun a b:Int=>decide (a<=b)) (fun a b c h1 h2=>by simp only [decide_eq_true_eq] at *;omega) (fun a b=>by simp only [Bool.or_eq_true,decide_eq_true_eq];omega) ns
 exact this.imp fun h=>by simpa using h
theorem Du {a b:List Int}(p:a.Perm b)(ha:a.Pairwise (· <= ·))(hb:b.Pairwise (· <= ·)):a=b:=List.Perm.eq_of_pairwise (fun x y _ _ h1 h2=>Int.le_antisymm h1 h2) ha hb p
theorem Pz {ns:List Int} (hm:F.mg "sorted" = none) (ha:Ev F e ρ ta) (ea:er ta=dis ns) (hz:ns.length<64) {p':Pos} (hg:∀ i,Gl (F.cx i) "sorted" := by intro _;rfl)
  (hs:∀ i,starEach [e] (F.cx i).env=[(false,eval e (F.cx i).env)]:=by intro _;rfl):Ev F (.Call (.Name "sorted" p') [e] [] pos) ρ (.ow ((sortI ns).map fun n=>.fz (di n))) :=
 lE (r:=fun xs H Q=>∃ (p:Addr) (ns:List Int),xs=[.ref p]/\aN F.K H p (ns.map V.int)/\ns.length<64/\∀ (l:Addr) (ms:List Int),H l=none->ms.Perm ns->ms.Pairwise (· <= ·)->Q (.ref l) (upd H l (.lst (ms.map V.int)))) (fun i=>F.hK i ▸ NF) hm wN (ag ha aj hs) (fun G H vs Q s hx k=>by
  obtain ⟨x,rfl,dm⟩:=gV hx
  rw [ea] at dm
  obtain ⟨l,ys,rfl,h1,h2⟩:=dm
  have:=lC h2
  subst this
  refine ⟨l,ns,rfl,s.seq h1,hz,fun l0 ms kT pm pw=>?_⟩
  have em:ms=sortI ns:=Du (pm.trans (sortI_perm ns).symm) pw (Ej ns)
  subst em
  refine k.lst s ?_ kT
  rw [<- gQ]
  exact lD.hG) hg (by decide) (by decide) hs (fun _=>rfl)
theorem xo {n:Int}{ns:List Int}{o:Expr}{to:Tr}(ho:Ev F o ρ to)(eo:er to=dis ns)(ha:Ev F e ρ (ti n))(hn:n ∈ ns){apos:Pos}
  (fA:∀ i,attributeBase o "index" (F.cx i).env (eval o (F.cx i).env)=eval o (F.cx i).env:=by intro _;rfl)
  (gx:∀ i,((backTo pos (starEach [e] (F.cx i).env)).all (fun x=>!x.1)&&(backToKw pos (keywordEach [] (F.cx i).env)).all (fun x=>x.1.isSome)&&decide (([e]:List Expr).length+([]:List Keyword).length+(if ([]:List Keyword).isEmpty then 0 else 1)<30))=true:=by intro _;rfl)
  (hline:(apos.endLine==pos.line)=true:=by rfl) (hs:∀ i,starEach [e] (F.cx i).env=[(false,eval e (F.cx i).env)]:=by intro _;rfl):Ev F (.Call (.Attribute o "index" apos) [e] [] pos) ρ (ti (ns.idxOf n:Nat)) :=
 Um (r:=GF F.K) PySem.F.slot_list_index PySem.F.type_list_index (fun i=>F.hK i ▸ Qt) ho eo (ag ha aj hs) (fun G H x vs Q s hx hv k=>by
  rw [eo] at hx
  obtain ⟨l,us,rfl,h1,h2⟩:=hx
  have:=lC h2
  subst this
  obtain ⟨y,rfl,hy⟩:=gV hv
  exact ⟨l,ns,n,rfl,by rw [aB hy],s.seq h1,hn,k.sc s rfl⟩) fA gx hline hs (fun _=>rfl)
theorem aE.erase {K:PySem.W.Frag}{G H:Hp}:∀ {us:List Tr} {vs:List V} {fq:List Addr} {m:Nat} {u:Tr},aE K G H us vs fq->us[m]?=some u->fq.Nodup->∃ v f fw,vs[m]?=some v/\Ow K G H u v f/\aE K G H (us.eraseIdx m) (vs.eraseIdx m) fw/\fw.Nodup/\f.Nodup/\(∀ a ∈ fw,a ∈ fq)/\(∀ a ∈ f,a ∈ fq)/\∀ a ∈ f,a ∉ fw
 |t::us,_,_,0,u,⟨v,r,f1,f2,h1,h2,h3,h4⟩,hu,nd=>by
  cases hu
  subst h1 h2
  have cZ:=List.nodup_append.mp nd
  exact ⟨v,f1,f2,rfl,h3,h4,cZ.2.1,cZ.1,fun a ha=>List.mem_append_right _ ha,fun a ha=>List.mem_append_left _ ha,fun a ha hb=>cZ.2.2 a ha a hb rfl⟩
 |t::us,_,_,m+1,u,⟨v,r,f1,f2,h1,h2,h3,h4⟩,hu,nd=>by
  subst h1 h2
  have cZ:=List.nodup_append.mp nd
  obtain ⟨v',f,fw,q1,q2,q3,q4,q5,q6,q7,q8⟩:=aE.erase (m:=m) h4 hu cZ.2.1
  refine ⟨v',f,f1++fw,q1,q2,⟨v,_,f1,fw,rfl,rfl,h3,q3⟩,List.nodup_append.mpr ⟨cZ.1,q4,fun a ha b hb e=>cZ.2.2 a ha b (q6 b hb) e⟩,q5,fun a ha=>?_,fun a ha=>List.mem_append_right _ (q7 a ha),fun a ha hb=>?_⟩
  ·rcases List.mem_append.mp ha with z | z
   ·exact List.mem_append_left _ z
   ·exact List.mem_append_right _ (q6 a z)
  ·rcases List.mem_append.mp hb with z | z
   ·exact cZ.2.2 a z a (q7 a ha) rfl
   ·exact q8 a ha z
theorem M3 (j j2:Nat){x y:Str}{us ws:List Tr}{d:Dv}{n:Int}{m:Nat}{nE:Expr}{p1 p2 p3 p4 p5 p6:Pos}(m8:j ≠ j2)(h : ρ[j]?=some (some (.ow us)))(h2 : ρ[j2]?=some (some (.ow ws)))(hn:bp F nE ρ (ti n))(hm:dW ws.length n=some m)(hb : -(2 ^ 62)<=n/\n<2 ^ 62)(hu:ws[m]?=some (.fz d))(hz:us.length<sizeLine)
  (hN:∀ i,(F.cx i).N[j]?=some x:=by intro _;rfl) (rO:∀ i,(F.cx i).N[j2]?=some y:=by intro _;rfl)
  (hv:∀ i,fU (F.cx i).env.scope x:=by intro _;first | exact Or.inl rfl | exact Or.inr (Or.inl rfl) | exact Or.inr (Or.inr rfl)) (rP:∀ i,fU (F.cx i).env.scope y:=by intro _;first | exact Or.inl rfl | exact Or.inr (Or.inl rfl) | exact Or.inr (Or.inr rfl))
  (hd:(x==("__debug__" : Str))=false:=by decide) (hc:(x==("__classdict__" : Str))=false:=by decide) (hd2:(y==("__debug__" : Str))=false:=by decide) (kQ:(y==("__classdict__" : Str))=false:=by decide)
  (fA:∀ i,attributeBase (.Name x p1) "append" (F.cx i).env (eval (.Name x p1) (F.cx i).env)=eval (.Name x p1) (F.cx i).env:=by intro _;rfl) (yb:∀ i,attributeBase (.Name y p4) "pop" (F.cx i).env (eval (.Name y p4) (F.cx i).env)=eval (.Name y p4) (F.cx i).env:=by intro _;rfl)
  (gx:∀ i,((backTo p3 (starEach [.Call (.Attribute (.Name y p4) "pop" p5) [nE] [] p6] (F.cx i).env)).all (fun x=>!x.1)&&(backToKw p3 (keywordEach [] (F.cx i).env)).all (fun x=>x.1.isSome)&&decide (([.Call (.Attribute (.Name y p4) "pop" p5) [nE] [] p6]:List Expr).length+([]:List Keyword).length+(if ([]:List Keyword).isEmpty then 0 else 1)<30))=true:=by intro _;rfl)
  (yy:∀ i,((backTo p6 (starEach [nE] (F.cx i).env)).all (fun x=>!x.1)&&(backToKw p6 (keywordEach [] (F.cx i).env)).all (fun x=>x.1.isSome)&&decide (([nE]:List Expr).length+([]:List Keyword).length+(if ([]:List Keyword).isEmpty then 0 else 1)<30))=true:=by intro _;rfl)
  (hline:(p2.endLine==p3.line)=true:=by rfl) (yc:(p5.endLine==p6.line)=true:=by rfl) (hs:∀ i,starEach [.Call (.Attribute (.Name y p4) "pop" p5) [nE] [] p6] (F.cx i).env=[(false,eval (.Call (.Attribute (.Name y p4) "pop" p5) [nE] [] p6) (F.cx i).env)]:=by intro _;rfl) (dq:∀ i,starEach [nE] (F.cx i).env=[(false,eval nE (F.cx i).env)]:=by intro _;rfl)
  (iS:∀ i,swapsWith (.Call (.Attribute (.Name x p1) "append" p2) [.Call (.Attribute (.Name y p4) "pop" p5) [nE] [] p6] [] p3) none pos.line (F.cx i).env=pure false:=by intro _;rfl) :
  Rn F (.Expr (.Call (.Attribute (.Name x p1) "append" p2) [.Call (.Attribute (.Name y p4) "pop" p5) [nE] [] p6] [] p3) pos) ρ (.nx ((ρ.set j2 (some (.ow (ws.eraseIdx m)))).set j (some (.ow (us++[.fz d]))))):=by
 obtain ⟨rN,yn,zn⟩:=hn
 refine ⟨kB (jS F.K "list" tv (eQ j) (df (jS F.K "list" xU (eQ j2) (df rN eA)) eA)),fun i=>kj (F.hK i ▸ kC PySem.F.plainAttrs_list PySem.F.slot_list_append PySem.F.type_list_append pM (jb (hN i) (hv i) hd hc) (cX (kC PySem.F.plainAttrs_list PySem.F.slot_list_pop PySem.F.type_list_pop D7 (jb (rO i) (rP i) hd2 kQ) (cX (yn i) dN (dq i)) (yb i) (yy i) yc (dq i) rfl) dN (hs i)) (fA i) (gx i) hline (hs i) rfl) (iS i),fun D σ G0 H0 G H r k=>?_⟩
 obtain ⟨fp,r⟩:=r
 obtain ⟨l0,u9,vd,c1,c2,_⟩:=r.mut h (.refl r.st.s)
 obtain ⟨l2,vs2,fq2,e1,e2,_⟩:=r.mut h2 (.refl r.st.s)
 refine ⟨_,c1,.inl ⟨rfl,_,aN.of c2⟩,_,e1,.inl ⟨rfl,_,aN.of e2⟩,?_⟩
 refine zn σ G H fp _ r.st.s r.own r.g fun vn G1 H1 f1 s1 o1 w1=>?_
 obtain ⟨l,vs,fq,d1,d2,d3,d4,d5,d6,d7⟩:=r.mut h2 s1
 rw [e1] at d1
 cases d1
 obtain ⟨v,f,fw,g1,g2,g3,g4,g5,g6,g7,g8⟩:=d4.erase hu d5
 obtain ⟨rfl,j5⟩:=g2
 obtain ⟨Ai,ix2,ix3,ix4⟩:=pW hm
 refine ⟨l2,vs,n,m,v,rfl,by rw [aB o1.2],d3,by omega,by omega,by rw [<- d4.length];exact Ai,g1,?_⟩
 have r2:=d7 (ws.eraseIdx m) (vs.eraseIdx m) fw g3 g4 fun a ha=>.inl (g6 a ha)
 obtain ⟨fp2,r2⟩:=r2
 have jm:(ρ.set j2 (some (.ow (ws.eraseIdx m))))[j]?=some (some (.ow us)):=by rw [List.getElem?_set_ne (Ne.symm m8)];exact h
 obtain ⟨l3,KD,fq3,b1,b2,b3,b4,b5,b6,b7⟩:=r2.mut jm (.refl r2.st.s)
 rw [c1] at b1
 cases b1
 refine ⟨l0,KD,v,rfl,rfl,b2,by rw [<- b4.length];exact hz,k σ G1 _ ?_⟩
 exact b7 (us++[.fz d]) (KD++[v]) (fq3++([]++[])) (b4.append (us:=[.fz d]) ⟨v,[],[],[],rfl,rfl,⟨rfl,j5⟩,rfl,rfl⟩) (by simpa using b5) fun a ha=>.inl (by simpa using ha)
end
end L2
namespace L2
open PySem PySem.Spec PyProof.Rows
theorem qc {xs:List Dv}{k:Nat}{d:Dv}(h:(mq xs)[k]?=some d):∃ x,xs[k]?=some x/\d=.tup [di (k:Nat),x]:=by
 unfold mq at h
 rw [List.getElem?_zipWith] at h
 cases hx:xs[k]? with
 |none =>
  rw [hx] at h
  cases q2:(List.range xs.length)[k]? with
  |none=>rw [q2] at h;cases h
  |some z=>rw [q2] at h;cases h
 |some x =>
  have lj:k<xs.length:=(List.getElem?_eq_some_iff.mp hx).1
  rw [hx,List.getElem?_range lj] at h
  cases h
  exact ⟨x,rfl,rfl⟩
theorem tI (xs:List Dv):(mq xs).length=xs.length:=by unfold mq;rw [List.length_zipWith,List.length_range,Nat.min_self]
theorem kx {α:Type}(l:List α)(f : α->Int):er (.ow (l.map fun k=>Tr.fz (di (f k))))=dis (l.map f):=by
 show Dv.lst _=Dv.lst _
 rw [lL,List.map_map,List.map_map];rfl
abbrev ax (l:List Int):Tr:=.ow (l.map fun n=>.fz (di n))
abbrev fF (L:List (List Int)):Tr:=.ow (L.map ax)
theorem cg (l:List Int):er (ax l)=dis l:=by
 show Dv.lst _=_
 rw [lL,List.map_map];rfl
theorem ke (L:List (List Int)):er (fF L)=.lst (L.map dis):=by
 show Dv.lst _=_
 rw [lL,List.map_map]
 congr 1
 exact List.map_congr_left fun l _=>cg l
theorem Qu (L:List (List Int)):fL (.lst (L.map dis))=true:=xI xH L
theorem Em (L:List (List Int)):cF (.lst (L.map dis))<=2:=qa fun d hd=>by
 obtain ⟨m,_,rfl⟩:=List.mem_map.mp hd
 exact ko m
def e9 (c:List Int)(os:List (List Int)):Dv:=.tup [dis c,.lst (os.map dis)]
theorem Ru (c:List Int)(os:List (List Int)):fL (e9 c os)=true:=by
 show (fL (dis c)&&(fL (.lst (os.map dis))&&true))=true
 rw [xH,Qu];rfl
theorem Rv (c:List Int)(os:List (List Int)):cF (e9 c os)<=3:=Rt fun d hd=>by
 rcases List.mem_cons.mp hd with rfl | hd
 ·exact Nat.le_trans (ko c) (by decide)
 ·rw [List.mem_singleton.mp hd];exact Em os
def gn (n:Nat)(o:List Int):List Int:=((List.range n).filter fun k=>!o.contains (0+((k:Nat):Int))).map fun k=>0+((k:Nat):Int)
def aM (n:Nat)(o:List Int):List Int:=o++[(n:Int)]++gn n o
theorem DU (n:Nat)(o:List Int):(gn n o).length<=n:=by
 unfold gn
 rw [List.length_map]
 have:=List.length_filter_le (fun k=>!o.contains (0+((k:Nat):Int))) (List.range n)
 rwa [List.length_range] at this
structure eu (c:List Int) (os:List (List Int)):Prop where
 c6:c.length<=6
 cnt:∀ x ∈ c,0<=x/\x<=9
 o1 : 1<=os.length
 o6:os.length<=6
 nd:∀ o ∈ os,o.Nodup
 ck:∀ o ∈ os,∀ x ∈ o,0<=x/\x<c.length
theorem PB {n:Nat}{l:List Int}(nd:l.Nodup)(h:∀ x ∈ l,0<=x/\x<n):l.length<=n:=by
 have sub:l ⊆ (List.range n).map fun k=>((k:Nat):Int):=fun x hx=>by
  obtain ⟨h0,h1⟩:=h x hx
  exact List.mem_map.mpr ⟨x.toNat,List.mem_range.mpr (by omega),by omega⟩
 have:=nd.length_le_of_subset sub
 simpa using this
theorem eu.fS {c:List Int}{os:List (List Int)}(h:eu c os){o:List Int}(ho:o ∈ os):o.length<=6:=Nat.le_trans (PB (h.nd o ho) (h.ck o ho)) h.c6
end L2
namespace L2
open PySem PySem.Spec PyProof.Rows
theorem aZ.to {ι:Type}{F:aO ι}{tg iter:Expr}{ρ:En}{a b:List Dv}(h:aZ F tg iter ρ a)(e:a=b):aZ F tg iter ρ b:=e ▸ h
theorem DB {α:Type}:∀ {l:List α} {m:Nat} (h:m<l.length),(l[m]::l.eraseIdx m).Perm l
 |x::l,0,_=>.refl _
 |x::l,m+1,h=>by
  have h':m<l.length:=by simpa using h
  show (l[m]::x::l.eraseIdx m).Perm (x::l)
  exact (List.Perm.swap ..).trans ((DB h').cons x)
theorem wR {α β:Type}(f : α -> β):∀ (l:List α) (m:Nat),(l.map f).eraseIdx m=(l.eraseIdx m).map f
 |[],_=>rfl
 |_::_,0=>rfl
 |x::l,m+1=>by
  show f x::(l.map f).eraseIdx m=f x::(l.eraseIdx m).map f
  rw [wR f l m]
end L2
namespace L2
open PySem PySem.Spec PyProof.Rows
theorem Fh {ι:Type}{F:aO ι}{a b:Expr}{ρ:En}{pos:Pos}{i j:Int}(ha:Ev F a ρ (ti i))(hb:Ev F b ρ (ti j))(hc:ux i j):Ev F (.BinOp a .Mult b pos) ρ (ti (i*j)):=kr (fun _=>S3) ha hb fun G H x y Q s hx hy k=>⟨i,j,aB hx,aB hy,hc,k.sc s rfl⟩
theorem Qv {ι:Type}{F:aO ι}{ρ1 ρ2:En}(f:Fg ρ1 ρ2):aV F [] ρ1 (.nx ρ2):=aV.fg kn f
end L2
namespace L2
open PySem PySem.Spec PyProof.Rows
section
variable {ι:Type}{F:aO ι}{e a b c:Expr}{es:List Expr}{ρ:En}{t ta bA:Tr}{ts:List Tr}{pos:Pos}
theorem cT.move {K:PySem.W.Frag}{G0 H0 G H:Hp}{ρ:En}{σ:St}{fp:List Addr}{j j2:Nat}{us:List Tr}{t:Tr}(r:cT K G0 H0 G H ρ σ fp)(m8:j ≠ j2)(h : ρ[j]?=some (some (.ow us)))(h2 : ρ[j2]?=some (some t)) :
  ∃ l vs v,σ[j]?=some (some (.ref l)) /\ σ[j2]?=some (some v)/\H l=some (.lst vs)/\us.length=vs.length/\RS K G0 H0 G (upd H l (.lst (vs++[v]))) ((ρ.set j2 none).set j (some (.ow (us++[t])))) σ:=by
 obtain ⟨v2,f2,fr2,a1,a2,a3,a4⟩:=r.own.split h2
 obtain ⟨v,f,fr,b1,b2,b3,b4⟩:=a3.split (j:=j) (t:=.ow us) (by rw [List.getElem?_set_ne (Ne.symm m8)];exact h)
 obtain ⟨l,vs,fq,rfl,hl,ol,rfl⟩:=b2
 have pm:fp.Perm (f2++((l::fq)++fr)):=a4.trans (List.Perm.append_left _ b4)
 have nd:=pm.nodup_iff.mp r.d
 have vg:=List.nodup_append.mp nd
 have vh:=List.nodup_append.mp vg.2.1
 have nd3:=List.nodup_cons.mp vh.1
 have lf2:l ∉ f2:=fun z=>vg.2.2 l z l (List.mem_append_left _ (.head _)) rfl
 have lfr:l ∉ fr:=fun z=>vh.2.2 l (.head _) l z rfl
 have KG:l ∈ fp:=pm.mem_iff.mpr (List.mem_append_right _ (List.mem_append_left _ (.head _)))
 have lt:j<(ρ.set j2 none).length:=by
  rw [List.length_set]
  rcases Nat.lt_or_ge j ρ.length with z | z
  ·exact z
  ·rw [List.getElem?_eq_none z] at h;cases h
 have own:Ow K G (upd H l (.lst (vs++[v2]))) (.ow (us++[t])) (.ref l) (l::(fq++(f2++[]))) :=
  ⟨l,vs++[v2],fq++(f2++[]),rfl,d8,(ol.frame nd3.1).append ⟨v2,[],f2,[],rfl,rfl,a2.frame lf2,rfl,rfl⟩,rfl⟩
 obtain ⟨gK,p1,p2⟩:=(b3.frame (o:=.lst (vs++[v2])) lfr).put (pH lt) own
 rw [List.set_set,pU b1] at p1
 have rQ:gK.Perm fp:=by
  refine p2.trans (List.Perm.trans ?_ pm.symm)
  rw [List.append_nil]
  have:((l::(fq++f2))++fr).Perm ((f2++(l::fq))++fr):=List.Perm.append_right fr (by
   show ((l::fq)++f2).Perm (f2++(l::fq))
   exact List.perm_append_comm)
  rw [List.append_assoc] at this
  exact this
 refine ⟨l,vs,v2,b1,a1,hl,ol.length,gK,⟨r.st.g,fun b u hb=>?_,fun b u hb=>?_,r.st.n⟩,p1,fun a ha=>r.g a (rQ.mem_iff.mp ha),fun a ha=>r.n a (rQ.mem_iff.mp ha),rQ.nodup_iff.mpr r.d⟩
 ·have eV:=r.st.h b u hb
  rw [bF fun z=>?_]
  ·exact eV
  ·subst z;rw [r.n _ KG] at hb;cases hb
 ·have eV:=r.st.s b u hb
  rw [bF fun z=>?_]
  ·exact eV
  ·subst z;rw [r.g _ KG] at hb;cases hb
theorem NI (j j2:Nat){x y:Str}{us:List Tr}{p1 p2 p3 p4:Pos}(m8:j ≠ j2)(h : ρ[j]?=some (some (.ow us)))(h2 : ρ[j2]?=some (some t))(hz:us.length<sizeLine)
  (hN:∀ i,(F.cx i).N[j]?=some x:=by intro _;rfl) (rO:∀ i,(F.cx i).N[j2]?=some y:=by intro _;rfl)
  (hv:∀ i,fU (F.cx i).env.scope x:=by intro _;first | exact Or.inl rfl | exact Or.inr (Or.inl rfl) | exact Or.inr (Or.inr rfl)) (rP:∀ i,fU (F.cx i).env.scope y:=by intro _;first | exact Or.inl rfl | exact Or.inr (Or.inl rfl) | exact Or.inr (Or.inr rfl))
  (hd:(x==("__debug__" : Str))=false:=by decide) (hc:(x==("__classdict__" : Str))=false:=by decide) (hd2:(y==("__debug__" : Str))=false:=by decide) (kQ:(y==("__classdict__" : Str))=false:=by decide)
  (fA:∀ i,attributeBase (.Name x p1) "append" (F.cx i).env (eval (.Name x p1) (F.cx i).env)=eval (.Name x p1) (F.cx i).env:=by intro _;rfl)
  (gx:∀ i,((backTo p3 (starEach [.Name y p4] (F.cx i).env)).all (fun x=>!x.1)&&(backToKw p3 (keywordEach [] (F.cx i).env)).all (fun x=>x.1.isSome)&&decide (([.Name y p4]:List Expr).length+([]:List Keyword).length+(if ([]:List Keyword).isEmpty then 0 else 1)<30))=true:=by intro _;rfl)
  (hline:(p2.endLine==p3.line)=true:=by rfl) (hs:∀ i,starEach [.Name y p4] (F.cx i).env=[(false,eval (.Name y p4) (F.cx i).env)]:=by intro _;rfl) (iS:∀ i,swapsWith (.Call (.Attribute (.Name x p1) "append" p2) [.Name y p4] [] p3) none pos.line (F.cx i).env=pure false:=by intro _;rfl) :
  Rn F (.Expr (.Call (.Attribute (.Name x p1) "append" p2) [.Name y p4] [] p3) pos) ρ (.nx ((ρ.set j2 none).set j (some (.ow (us++[t]))))):=by
 refine ⟨kB (jS F.K "list" tv (eQ j) (df (eQ j2) eA)),fun i=>kj (F.hK i ▸ kC PySem.F.plainAttrs_list PySem.F.slot_list_append PySem.F.type_list_append pM (jb (hN i) (hv i) hd hc) (cX (jb (rO i) (rP i) hd2 kQ) dN (hs i)) (fA i) (gx i) hline (hs i) rfl) (iS i),fun D σ G0 H0 G H r k=>?_⟩
 obtain ⟨fp,r⟩:=r
 obtain ⟨l,vs,v,c1,c2,c3,c4,c5⟩:=r.move m8 h h2
 exact ⟨_,c1,.inl ⟨rfl,_,aN.of c3⟩,_,c2,l,vs,v,rfl,rfl,c3,by rw [<- c4];exact hz,k σ G _ c5⟩
theorem Qw {α:Type}(l:List α)(a b:Nat):cutD l (some (a:Int)) (some (b:Int))=(l.drop (min a l.length)).take (min b l.length-min a l.length):=by
 unfold cutD
 rw [HT.tu,HT.tu]
theorem xq {α β:Type}(q : α->Bool)(h : α -> β)(d : β):∀ l:List α,((List.range l.length).filter fun k=>((l[k]?).map q).getD false).map (fun k=>((l[k]?).map h).getD d)=(l.filter q).map h
 |[] => rfl
 |a::l=>by
  have ih:=xq q h d l
  rw [List.length_cons,List.range_succ_eq_map,List.filter_cons,List.filter_cons,List.filter_map]
  show List.map _ (if q a=true then _ else _)=_
  cases q a with
  |true =>
   show h a::((_:List Nat).map Nat.succ).map _=h a::_
   rw [List.map_map,<- ih];rfl
  |false =>
   show ((_:List Nat).map Nat.succ).map _=_
   rw [List.map_map];exact ih
variable {js:List Nat}{sp:Dv->Option (List Dv)}{elt tg iter:Expr}
theorem uF {α:Type}(l:List α)(g : α->Dv)(q : α->Bool)(h : α->Tr){ifs:List Expr}{sc:Scope}{own:List Str}{fr:List Nat}{cl : ι->List (Str×Addr)}(hi:aZ F tg iter ρ (l.map g))(hg:hU (cy F own fr sc cl) tg js sp)(gL:∀ j ∈ js,j<own.length)(hz:l.length<sizeLine)
  (step:∀ a ∈ l,∃ dd,sp (g a)=some dd/\El (cy F own fr sc cl) ifs (bB js (dd.map .fz) (cq own fr ρ)) (q a)/\(q a=true->Ev (cy F own fr sc cl) elt (bB js (dd.map .fz) (cq own fr ρ)) (h a)))
  (gS:∀ dd:List Dv,gf js (bB js (dd.map .fz) (cq own fr ρ))=cq own fr ρ):eX F own fr sc cl elt tg iter ifs ρ (.ow ((l.filter q).map h)):=by
 have:=Kr (ifs:=ifs) hi hg gL (fun k=>((l[k]?).map q).getD false) (fun k=>((l[k]?).map h).getD tn) (by rw [List.length_map];exact hz) (fun k d hd=>by
  obtain ⟨a,ha,rfl⟩:=e8 hd
  obtain ⟨dd,s1,s2,s3⟩:=step a (List.mem_of_getElem? ha)
  refine ⟨dd,s1,?_,?_⟩
  ·show El _ _ _ (((l[k]?).map q).getD false)
   rw [ha];exact s2
  ·show ((l[k]?).map q).getD false=true->Ev _ _ _ (((l[k]?).map h).getD tn)
   rw [ha];exact s3) gS
 rw [List.length_map,xq] at this
 exact this
theorem zq {α:Type}(l:List α)(g : α->Dv)(h : α->Tr){sc:Scope}{own:List Str}{fr:List Nat}{cl : ι->List (Str×Addr)}(hi:aZ F tg iter ρ (l.map g))(hg:hU (cy F own fr sc cl) tg js sp)(gL:∀ j ∈ js,j<own.length)(hz:l.length<sizeLine)
  (step:∀ a ∈ l,∃ dd,sp (g a)=some dd/\Ev (cy F own fr sc cl) elt (bB js (dd.map .fz) (cq own fr ρ)) (h a))
  (gS:∀ dd:List Dv,gf js (bB js (dd.map .fz) (cq own fr ρ))=cq own fr ρ):eX F own fr sc cl elt tg iter [] ρ (.ow (l.map h)):=by
 have:=uF l g (fun _=>true) h hi hg gL hz (fun a ha=>let ⟨dd,s1,s2⟩:=step a ha;⟨dd,s1,Gx,fun _=>s2⟩) gS
 rwa [List.filter_eq_self.mpr fun _ _=>rfl] at this
theorem lV {α:Type}(l:List α)(g : α->Dv)(q : α->Bool)(h : α->Tr){ifs:List Expr}{sc:Scope}{own:List Str}{fr:List Nat}{cl : ι->List (Str×Addr)}(L:∀ i,jz (F.cx i) sc (cl i) fr)(hi:aZ F tg iter ρ (l.map g))(hg:hU (cy F own fr sc cl) tg js sp)(gL:∀ j ∈ js,j<own.length)(hz:l.length<sizeLine)
  (step:∀ a ∈ l,∃ dd,sp (g a)=some dd/\El (cy F own fr sc cl) ifs (bB js (dd.map .fz) (cq own fr ρ)) (q a)/\(q a=true->Ev (cy F own fr sc cl) elt (bB js (dd.map .fz) (cq own fr ρ)) (h a)))
  (gS:∀ dd:List Dv,gf js (bB js (dd.map .fz) (cq own fr ρ))=cq own fr ρ) (hs:∀ i x,foldedSetIterable iter (F.cx i).env x=pure x:=by intro _ _;rfl):Ev F (.ListComp elt [⟨tg,iter,ifs,0⟩] sc pos) ρ (.ow ((l.filter q).map h)):=by
 have:=yx (ifs:=ifs) (pos:=pos) L hi hg gL (fun k=>((l[k]?).map q).getD false) (fun k=>((l[k]?).map h).getD tn) (by rw [List.length_map];exact hz) (fun k d hd=>by
  obtain ⟨a,ha,rfl⟩:=e8 hd
  obtain ⟨dd,s1,s2,s3⟩:=step a (List.mem_of_getElem? ha)
  refine ⟨dd,s1,?_,?_⟩
  ·show El _ _ _ (((l[k]?).map q).getD false)
   rw [ha];exact s2
  ·show ((l[k]?).map q).getD false=true->Ev _ _ _ (((l[k]?).map h).getD tn)
   rw [ha];exact s3) gS hs
 rw [List.length_map,xq] at this
 exact this
theorem jd {α:Type}(l:List α)(g : α->Dv)(h : α->Tr){sc:Scope}{own:List Str}{fr:List Nat}{cl : ι->List (Str×Addr)}(L:∀ i,jz (F.cx i) sc (cl i) fr)(hi:aZ F tg iter ρ (l.map g))(hg:hU (cy F own fr sc cl) tg js sp)(gL:∀ j ∈ js,j<own.length)(hz:l.length<sizeLine)
  (step:∀ a ∈ l,∃ dd,sp (g a)=some dd/\Ev (cy F own fr sc cl) elt (bB js (dd.map .fz) (cq own fr ρ)) (h a))
  (gS:∀ dd:List Dv,gf js (bB js (dd.map .fz) (cq own fr ρ))=cq own fr ρ) (hs:∀ i x,foldedSetIterable iter (F.cx i).env x=pure x:=by intro _ _;rfl):Ev F (.ListComp elt [⟨tg,iter,[],0⟩] sc pos) ρ (.ow (l.map h)):=by
 have:=lV (pos:=pos) l g (fun _=>true) h L hi hg gL hz (fun a ha=>let ⟨dd,s1,s2⟩:=step a ha;⟨dd,s1,Gx,fun _=>s2⟩) gS hs
 rwa [List.filter_eq_self.mpr fun _ _=>rfl] at this
theorem fu {α:Type}(l:List α)(h : α->Tr):er (.ow (l.map h))=.lst (l.map fun a=>er (h a)):=by
 show Dv.lst (eJ _)=_
 rw [lL,List.map_map];rfl
end
end L2
namespace L2
open PySem PySem.Spec PyProof.Rows eY
section
variable {ι:Type}{F:aO ι}{e a b c:Expr}{es:List Expr}{ρ:En}{t ta bA:Tr}{ts:List Tr}{pos:Pos}
theorem xr {k:Nat} {f:Addr} {fd:FuncData} {ps:List Str} {R:List Dv->Tr->Prop} {x:Str} {n:Int} {tk:Tok} (Fn:Kn F.P F.w F.K F.mg F.base ao k x f fd ps (spT F.K R)) (B:Binds F.K fd ps [.int n tk]) (hk:k<=F.room) (ha:gJ F (e::es) ρ ts) (hR:R (eJ ts++[di n]) t) {p':Pos} (hg:∀ i,Gl (F.cx i) x:=by intro _;rfl) (fI:(x==("__debug__" : Str))=false:=by decide)
  (he:∀ i,starEach (e::es) (F.cx i).env=(false,eval e (F.cx i).env)::starEach es (F.cx i).env:=by intro _;rfl) (eG:∀ i,(backTo pos (starEach es (F.cx i).env)).any (·.1)=false:=by intro _;rfl):Ev F (.Call (.Name x p') (e::es) [] pos) ρ t:=by
 obtain ⟨τ,y,z⟩:=ha.use
 refine ⟨uf (spT F.K R) [.int n] E0 τ,fun i=>?_,fun σ G H Q s rr k=>z σ G H _ s rr fun vs G1 H1 s1 hx=>?_⟩
 ·have rG:Kn (F.cx i).prog (F.cx i).w (F.cx i).K (F.cx i).mg (F.cx i).base ao k x f fd ps (spT F.K R):=by
   rw [F.hP i,F.hw i,F.hK i,F.hm i,F.hb i]
   exact Fn
  exact E3 rG.ok ((F.hr i).mono hk) (hg i) rG.Kj rG.kp (by rw [F.hK i];exact B) (.cons ⟨tk,rfl⟩ .nil) Ia (y i) fI (he i) (eG i)
 ·show spT F.K R (vs++[.int n]) H1 Q E0
  have app:∀ {ds:List Dv} {vs:List V},aD F.K G1 ds vs->aD F.K G1 (ds++[di n]) (vs++[.int n]):=by
   intro ds
   induction ds with
   |nil=>intro vs h;have h':vs=[]:=h;subst h';exact ⟨_,_,rfl,⟨rfl,rfl⟩,rfl⟩
   |cons d ds ih=>intro vs ⟨x,r,h1,h2,h3⟩;subst h1;exact ⟨x,_,rfl,h2,ih h3⟩
  exact ⟨G1,_,t,s1.s,app hx,hR,k.step s1⟩
theorem Rw {q:Bool} (hm:F.mg "int" = none) (ha:Ev F e ρ (tb q)) {p':Pos} (hg:∀ i,Gl (F.cx i) "int" := by intro _;rfl)
  (hs:∀ i,starEach [e] (F.cx i).env=[(false,eval e (F.cx i).env)]:=by intro _;rfl):Ev F (.Call (.Name "int" p') [e] [] pos) ρ (ti (if q then 1 else 0)) :=
 Ee (r:=fun xs H Q=>(∃ i,xs=[.int i]/\Q (.int i) H)\/∃ k,xs=[.bl k]/\Q (.int (if k then 1 else 0)) H) (fun i=>Pk) hm xY (ag ha aj hs) (fun G H vs Q s hx k=>by
  obtain ⟨x,rfl,dm⟩:=gV hx
  exact .inr ⟨q,by rw [aB dm],k.sc s rfl⟩) hg (by decide) (by decide) hs (fun _=>rfl)
end
abbrev dF (p:Int×Int):Dv:=.tup [di p.1,di p.2]
abbrev tF (p:Int×Int):Tr:=.fz (dF p)
def fW (W s:Int):Int×Int:=(lT s W,lB s W)
theorem ky {W s:Int}(h : 0<W) : 0<(fW W s).2:=by have:=uj (t:=s) (show W ≠ 0 by omega);show 0<lB s W;omega
theorem Uq {W s:Int}(h : 0<W):(fW W s).2<=W:=by have:=Uo (t:=s) (show W ≠ 0 by omega);show lB s W<=W;omega
theorem Tz {W s:Int}(h : 0<W):(fW W s).1.natAbs<=s.natAbs:=Tw (show W ≠ 0 by omega)
theorem kg {W s:Int}(h : 0<W):(fW W s).1*W=s*(fW W s).2:=xG (show W ≠ 0 by omega)
theorem PC {W s:Int}(h : 0<W)(hs : 0<=s) : 0<=(fW W s).1:=by
 have c:=kg (s:=s) h
 have p:=ky (s:=s) h
 rcases Int.lt_or_le (fW W s).1 0 with z | z
 ·have:(fW W s).1*W<0:=Int.mul_neg_of_neg_of_pos z h
  have : 0<=s*(fW W s).2:=Int.mul_nonneg hs (by omega)
  omega
 ·exact z
theorem Fi {W s t b:Int}(h : 0<W)(hb:b ≠ 0)(e:t*W=s*b):(lT t b,lB t b)=fW W s:=by
 obtain ⟨h1,h2⟩:=U7 hb (show W ≠ 0 by omega) e
 show _=(_,_)
 rw [h1,h2]
theorem Fj {W s t:Int}(h : 0<W):(lT ((fW W s).1*(fW W t).2+(fW W t).1*(fW W s).2) ((fW W s).2*(fW W t).2),lB ((fW W s).1*(fW W t).2+(fW W t).1*(fW W s).2) ((fW W s).2*(fW W t).2))=fW W (s+t):=by
 have p1:=ky (s:=s) h
 have p2:=ky (s:=t) h
 have c1:=kg (s:=s) h
 have c2:=kg (s:=t) h
 generalize (fW W s).1=a at *
 generalize (fW W s).2=b at *
 generalize (fW W t).1=c at *
 generalize (fW W t).2=d at *
 refine Fi h (by have:=Int.mul_pos p1 p2;omega) ?_
 have e1:(a*d+c*b)*W=(a*W)*d+(c*W)*b:=by
  rw [Int.add_mul,Int.mul_right_comm a d W,Int.mul_right_comm c b W]
 rw [e1,c1,c2,Int.add_mul,Int.mul_assoc s b d,Int.mul_assoc t d b,Int.mul_comm d b]
theorem GJ {W s t:Int}(h : 0<W)(e:fW W s=fW W t):s=t:=by
 have c1:=kg (s:=s) h
 have c2:=kg (s:=t) h
 rw [e] at c1
 have p:=ky (s:=t) h
 have:s*(fW W t).2=t*(fW W t).2:=by rw [<- c1,<- c2]
 exact Int.eq_of_mul_eq_mul_right (by omega) this
theorem tJ {W:Int}(h : 0<W):fW W 0=(0,1):=by
 have:=xk (t:=0) (b:=W) (p:=0) (q:=1) (by omega) (by decide) (by decide) (by rw [Int.zero_mul,Int.zero_mul])
 show (_,_)=_
 rw [<- this.1,<- this.2]
theorem Ur {W s t:Int}(h : 0<W):(fW W s).1*(fW W t).2<(fW W t).1*(fW W s).2 ↔ s<t:=by
 have p1:=ky (s:=s) h
 have p2:=ky (s:=t) h
 have c1:=kg (s:=s) h
 have c2:=kg (s:=t) h
 generalize (fW W s).1=a at *
 generalize (fW W s).2=b at *
 generalize (fW W t).1=c at *
 generalize (fW W t).2=d at *
 have bd : 0<b*d:=Int.mul_pos p1 p2
 have e1:a*d*W=s*(b*d):=by rw [Int.mul_right_comm,c1,Int.mul_assoc]
 have e2:c*b*W=t*(b*d):=by rw [Int.mul_right_comm,c2,Int.mul_assoc,Int.mul_comm d b]
 constructor
 ·intro z
  have:=Int.mul_lt_mul_of_pos_right z h
  rw [e1,e2] at this
  exact Int.lt_of_mul_lt_mul_right this (by omega)
 ·intro z
  have:=Int.mul_lt_mul_of_pos_right z bd
  rw [<- e1,<- e2] at this
  exact Int.lt_of_mul_lt_mul_right this (by omega)
end L2
namespace L2
open PySem PySem.Spec PyProof.Rows
section
variable {ι:Type}{F:aO ι}{e a b c:Expr}{es:List Expr}{ρ:En}{t ta bA:Tr}{ts:List Tr}{pos:Pos}
theorem Rn.to {st:Stmt}{ρ1 ρ2:En}(h:Rn F st ρ (.nx ρ1))(e : ρ1 = ρ2):Rn F st ρ (.nx ρ2):=e ▸ h
theorem OC (j j2:Nat){x y:Str}{ws:List Tr}{d:Dv}{n:Int}{m:Nat}{nE:Expr}{pos' p4 p5 p6:Pos}(m8:j ≠ j2)(h2 : ρ[j2]?=some (some (.ow ws)))(hn:bp F nE ρ (ti n))(hm:dW ws.length n=some m)(hb : -(2 ^ 62)<=n/\n<2 ^ 62)(hu:ws[m]?=some (.fz d))(hN:∀ i,(F.cx i).N.Nodup)
  (hj:Nat.blt j ρ.length=true:=by rfl) (hi:∀ i,(F.cx i).N[j]?=some x:=by intro _;rfl) (rO:∀ i,(F.cx i).N[j2]?=some y:=by intro _;rfl)
  (hx:∀ i,Loc (F.cx i).env.scope x:=by intro _;first | exact Or.inl rfl | exact Or.inr rfl) (rP:∀ i,fU (F.cx i).env.scope y:=by intro _;first | exact Or.inl rfl | exact Or.inr (Or.inl rfl) | exact Or.inr (Or.inr rfl))
  (hd2:(y==("__debug__" : Str))=false:=by decide) (kQ:(y==("__classdict__" : Str))=false:=by decide)
  (yb:∀ i,attributeBase (.Name y p4) "pop" (F.cx i).env (eval (.Name y p4) (F.cx i).env)=eval (.Name y p4) (F.cx i).env:=by intro _;rfl)
  (yy:∀ i,((backTo p6 (starEach [nE] (F.cx i).env)).all (fun x=>!x.1)&&(backToKw p6 (keywordEach [] (F.cx i).env)).all (fun x=>x.1.isSome)&&decide (([nE]:List Expr).length+([]:List Keyword).length+(if ([]:List Keyword).isEmpty then 0 else 1)<30))=true:=by intro _;rfl)
  (yc:(p5.endLine==p6.line)=true:=by rfl) (dq:∀ i,starEach [nE] (F.cx i).env=[(false,eval nE (F.cx i).env)]:=by intro _;rfl)
  (hs:∀ i,swapsWith (.Call (.Attribute (.Name y p4) "pop" p5) [nE] [] p6) (some (.Name x pos')) pos.line (F.cx i).env=pure false:=by intro _;rfl) (hf:∀ i,(F.cx i).fn x=true\/(F.cx i).env.scope.names.lookup x=some .local:=by intro _;first | exact .inl rfl | exact .inr rfl) :
  Rn F (.Assign [.Name x pos'] (.Call (.Attribute (.Name y p4) "pop" p5) [nE] [] p6) pos) ρ (.nx ((ρ.set j2 (some (.ow (ws.eraseIdx m)))).set j (some (.fz d)))):=by
 obtain ⟨rN,yn,zn⟩:=hn
 refine ⟨mh (jS F.K "list" xU (eQ j2) (df rN eA)) (iA j),fun i=>FZ (hN i) (hi i) (hx i) (F.hK i ▸ kC PySem.F.plainAttrs_list PySem.F.slot_list_pop PySem.F.type_list_pop D7 (jb (rO i) (rP i) hd2 kQ) (cX (yn i) dN (dq i)) (yb i) (yy i) yc (dq i) rfl) (hs i) (hf i),fun D σ G0 H0 G H r k=>?_⟩
 obtain ⟨fp,r⟩:=r
 obtain ⟨l2,vs2,fq2,e1,e2,_⟩:=r.mut h2 (.refl r.st.s)
 refine ⟨_,e1,.inl ⟨rfl,_,aN.of e2⟩,?_⟩
 refine zn σ G H fp _ r.st.s r.own r.g fun vn G1 H1 f1 s1 o1 w1=>?_
 obtain ⟨l,vs,fq,d1,d2,d3,d4,d5,d6,d7⟩:=r.mut h2 s1
 rw [e1] at d1
 cases d1
 obtain ⟨v,f,fw,g1,g2,g3,g4,g5,g6,g7,g8⟩:=d4.erase hu d5
 obtain ⟨rfl,j5⟩:=g2
 obtain ⟨Ai,ix2,ix3,ix4⟩:=pW hm
 refine ⟨l2,vs,n,m,v,rfl,by rw [aB o1.2],d3,by omega,by omega,by rw [<- d4.length];exact Ai,g1,?_⟩
 have r2:=d7 (ws.eraseIdx m) (vs.eraseIdx m) fw g3 g4 fun a ha=>.inl (g6 a ha)
 obtain ⟨fp2,r2⟩:=r2
 have jm:j<(ρ.set j2 (some (.ow (ws.eraseIdx m)))).length:=by rw [List.length_set];exact Nat.le_of_ble_eq_true hj
 exact k _ G1 _ (r2.set jm (.refl r2.st.s) ⟨rfl,j5⟩ .nil)
end
end L2
namespace L2
open PySem PySem.Spec PyProof.Rows
theorem aD.Jk {K:PySem.W.Frag}{G:Hp}:∀ {ds es:List Dv} {vs ws:List V},aD K G ds vs->aD K G es ws->aD K G (ds++es) (vs++ws)
 |[],_,_,_,h,q=>by rw [show _=[] from h];exact q
 |_::_,_,_,ws,⟨x,r,h1,h2,h3⟩,q=>by subst h1;exact ⟨x,r++ws,rfl,h2,aD.Jk h3 q⟩
end L2
namespace L2
open PySem PySem.Spec PyProof.Rows
def Md (f:List Addr)(H H2:Hp):Prop:=∀ b o,b ∉ f->H b=some o->H2 b=some o
theorem Md.upd {f:List Addr}{H:Hp}{l:Addr}{o:HO}(hl:l ∈ f):Md f H (L2.upd H l o):=fun b u n h=>by
 rw [bF (show b ≠ l from fun z=>n (z ▸ hl))];exact h
mutual
theorem Ow.agree {K:PySem.W.Frag}{G H H2:Hp}:∀ {t:Tr} {v:V} {fp:List Addr},Ow K G H t v fp->(∀ a ∈ fp,H2 a=H a)->Ow K G H2 t v fp
 | .fz _,_,_,h,_=>h
 | .ow _,_,_,⟨b,vs,fq,h1,h2,h3,h4⟩,n=>by
  subst h4
  exact ⟨b,vs,fq,h1,(n b (.head _)).trans h2,aE.agree h3 fun a z=>n a (.tail _ z),rfl⟩
 | .tp _,_,_,⟨b,vs,fq,h1,h2,h3,h4⟩,n=>by
  subst h4
  exact ⟨b,vs,fq,h1,(n b (.head _)).trans h2,aE.agree h3 fun a z=>n a (.tail _ z),rfl⟩
theorem aE.agree {K:PySem.W.Frag}{G H H2:Hp}:∀ {ts:List Tr} {vs:List V} {fp:List Addr},aE K G H ts vs fp->(∀ a ∈ fp,H2 a=H a)->aE K G H2 ts vs fp
 |[],_,_,h,_=>h
 |_::_,_,_,⟨v,r,f1,f2,h1,h2,h3,h4⟩,n=>by
  subst h2
  exact ⟨v,r,f1,f2,h1,rfl,h3.agree fun a z=>n a (List.mem_append_left _ z),aE.agree h4 fun a z=>n a (List.mem_append_right _ z)⟩
end
theorem aL.agree {K:PySem.W.Frag}{G H H2:Hp}:∀ {ρ:En} {σ:St} {fp:List Addr},aL K G H ρ σ fp->(∀ a ∈ fp,H2 a=H a)->aL K G H2 ρ σ fp
 |[],_,_,h,_=>h
 |none::_,_,_,⟨o,r,h1,h2⟩,n=>⟨o,r,h1,aL.agree h2 n⟩
 |some _::_,_,_,⟨v,r,f1,f2,h1,h2,h3,h4⟩,n=>by
  subst h2
  exact ⟨v,r,f1,f2,h1,rfl,h3.agree fun a z=>n a (List.mem_append_left _ z),aL.agree h4 fun a z=>n a (List.mem_append_right _ z)⟩
end L2
namespace L2
open PySem PySem.Spec PyProof.Rows
section
variable {ι:Type}{F:aO ι}{e a b c:Expr}{ρ:En}{t ta bA:Tr}{pos:Pos}
theorem GK {u v:V}(ha:Ev F a ρ (.fz (.fl u)))(hb:Ev F b ρ (.fz (.fl v)))(hs:qL u v=true):Et F (.Compare a [.Eq] [b] pos) ρ (decide (u=v)) :=
 iq (fun _=>ud) ha hb (fun G H x y Q s hx hy k=>by rw [aB hx,aB hy];exact ⟨hs,k⟩) (fN _)
end
end L2
namespace L2
open PySem PySem.Spec PyProof.Rows
theorem cU.to {ι:Type}{F:aO ι}{e:Expr}{ρ:En}{p q:Bool}(h:cU F e ρ p)(z:p=q):cU F e ρ q:=z ▸ h
theorem aV.to {ι:Type}{F:aO ι}{cA:List Stmt}{ρ:En}{o o':Out}(h:aV F cA ρ o)(z:o=o'):aV F cA ρ o':=z ▸ h
end L2
namespace L2
open PySem PySem.Spec PyProof.Rows
theorem Rx (a b:Int):fX (.int a) (.int b)=decide (a=b):=by
 show (a==b)=_
 by_cases h:a=b
 ·rw [decide_eq_true h];simpa using h
 ·rw [decide_eq_false h];simpa using h
theorem Fl:∀ a b:List Int,bL (dis a) (dis b)=decide (a=b)
 |[],[] => rfl
 |[],_::_=>rfl
 |_::_,[] => rfl
 |x::a,y::b=>by
  have ih:eE (a.map di) (b.map di)=decide (a=b):=Fl a b
  show (fX (.int x) (.int y)&&eE (a.map di) (b.map di))=_
  rw [ih,Rx]
  by_cases h:x=y<;>by_cases h2:a=b<;>simp [h,h2]
end L2
namespace L2
open PySem PySem.Spec PyProof.Rows
theorem wA (xs:Array Nat)(j k:Nat)(h0:∀ i,i<k->i<xs.size->xs.getD i j<j)(h9:∀ i,k<=i->i<xs.size->¬ xs.getD i j<j):∀ fuel lo hi,hi<=xs.size->lo<=k->k<=hi->hi-lo<=fuel->SetTable.below.go xs j fuel lo hi=k
 |0,lo,hi,_,h2,h3,h4=>by
  have:lo=k:=by omega
  subst this
  rfl
 |fuel+1,lo,hi,h1,h2,h3,h4=>by
  unfold SetTable.below.go
  by_cases h:lo<hi
  ·rw [if_pos h]
   dsimp only
   by_cases hm:(lo+hi) / 2<k
   ·rw [if_pos (h0 _ hm (by omega))]
    exact wA xs j k h0 h9 fuel _ hi h1 (by omega) h3 (by omega)
   ·rw [if_neg (h9 _ (by omega) (by omega))]
    exact wA xs j k h0 h9 fuel lo _ (by omega) h2 (by omega) (by omega)
  ·rw [if_neg h]
   omega
theorem wU {xs:Array Nat}{j k:Nat}(hk:k<=xs.size)(h0:∀ i,i<k->i<xs.size->xs.getD i j<j)(h9:∀ i,k<=i->i<xs.size->¬ xs.getD i j<j):SetTable.below xs j=k :=
 wA xs j k h0 h9 _ 0 _ (Nat.le_refl _) (Nat.zero_le _) hk (by omega)
theorem getD_list (ns:List Nat)(i j:Nat):ns.toArray.getD i j=ns.getD i j:=by
 simp [Array.getD,List.getD]
 split<;>simp_all
section
variable {prog:Program}{w:World}{A:Around}{E:Value->Shared->Prop}{s:Shared}{R:Result->Shared->Prop}{I:Addr}{fp wr:List Addr}{n:Nat}{P:Nat->Value->Prop}{St:Nat->Heap->Prop}
theorem PD (a:Value){Q₁:Value->Shared->Prop}
  (h:Q₁ (.ref s.heap.objs.size) { s with heap:=s.heap.push { cls:=.type "set",dict:=none,data:=.set #[] 0 (.fresh 0 0 (!w.params.followText "set-order")) } }) :
  codeAny (model prog w) A (.call (.builtin "set.__new__") ⟨[.type "set",a],[]⟩) (wants Q₁ E) s:=by
 refine codeAny_of_tree ?_
 show wpAny _ A.in1 (do checkBuiltinCall "set.__new__" ⟨[.type "set",a],[]⟩;again (.builtin "set.__new__" ⟨[.type "set",a],[]⟩)) _ _ s
 refine wpAny_bind (wpAny_of_eq (F.newCall_set_1 a) (wpAny_pure ⟨plainId_quiet F.plain_set_new _,codeAny_builtin F.entry_set_new ?_⟩))
 rw [Around.under_plainId F.plain_set_new _]
 unfold Builtin.«set.__new__» Builtin.Frozenset.newClass
 have U8:=sub_set_self
 obtain ⟨hp,g,d,tk,os⟩:=s
 dsimp only
 wp_walk
 refine wpAny_askSetting (wpAny_pure ?_)
 dsimp only
 simp only [newObj]
 refine wpAny_bind (wpAny_alloc (wpAny_pure ?_))
 exact wpAny_pure h
end
section
variable {prog:Program}{w:World}{A:Around}{E:Value->Shared->Prop}{s:Shared}
def mz (b:Bool):Obj:={ cls:=.type "set",dict:=none,data:=.set #[] 0 (.fresh 0 0 b) }
end
theorem nA:Slot "set_iterator" "__next__" "set_iterator.__next__" :=
 .of (owner := "set_iterator") (n := "__next__") (by rw [typeLookup_type,builtinLookup_eq_fast];kernel_rfl) (by decide +kernel) (by decide +kernel) (by decide +kernel)
  (by first | exact .inl (by decide +kernel) | exact .inr (by decide +kernel)) (by rw [isSubtype_type];kernel_rfl)
theorem Df:entryFor table "set_iterator.__next__" = some Builtin.«set_iterator.__next__»:=entryFor_of_tree (by kernel_rfl)
theorem DV:Manifest.owners.lookup (String.ofList ['r', 'o', 't', 'a', 'r', 'e', 't', 'i', '_', 't', 'e', 's'].reverse)=some Manifest.sig_set_iterator:=by kernel_rfl
theorem Dj (a:Value):argsOk "set_iterator.__next__" ⟨[a],[]⟩:=by
 unfold argsOk;rw [signature?_of (id := "set_iterator.__next__") (n:=['_', '_', 't', 'x', 'e', 'n', '_', '_']) (o:=['r', 'o', 't', 'a', 'r', 'e', 't', 'i', '_', 't', 'e', 's']) (by kernel_rfl) DV];kernel_rfl
theorem Dk:Slot "set_iterator" "__iter__" "set_iterator.__iter__" :=
 .of (owner := "set_iterator") (n := "__iter__") (by rw [typeLookup_type,builtinLookup_eq_fast];kernel_rfl) (by decide +kernel) (by decide +kernel) (by decide +kernel)
  (by first | exact .inl (by decide +kernel) | exact .inr (by decide +kernel)) (by rw [isSubtype_type];kernel_rfl)
theorem MC:entryFor table "set_iterator.__iter__" = some Builtin.«dict_keyiterator.__iter__» :=
 entryFor_alias (id' := "dict_keyiterator.__iter__") (by kernel_rfl) rfl (by decide +kernel) (by kernel_rfl)
theorem M4 (a:Value):argsOk "set_iterator.__iter__" ⟨[a],[]⟩:=by
 unfold argsOk;rw [signature?_of (id := "set_iterator.__iter__") (n:=['_', '_', 'r', 'e', 't', 'i', '_', '_']) (o:=['r', 'o', 't', 'a', 'r', 'e', 't', 'i', '_', 't', 'e', 's']) (by kernel_rfl) DV];kernel_rfl
theorem MD:entryFor table "set.__iter__" = some Builtin.«frozenset.__iter__» :=
 entryFor_alias (id' := "frozenset.__iter__") (by kernel_rfl) rfl (by decide +kernel) (by kernel_rfl)
theorem Fm {α:Type}(next:Nat->Nat):∀ (fuel k:Nat) (left:List α) (out:Array α),fuel=left.length->(pickOrder.go next fuel k left out).toList.Perm (out.toList++left)
 |0,k,left,out,h=>by
  have:left=[]:=List.eq_nil_of_length_eq_zero h.symm
  subst this
  unfold pickOrder.go
  rw [List.append_nil]
 |fuel+1,k,left,out,h=>by
  have aX:next k % left.length<left.length:=Nat.mod_lt _ (by omega)
  unfold pickOrder.go
  rw [List.getElem?_eq_getElem aX]
  dsimp only
  have ih:=Fm next fuel (k+1) (left.eraseIdx (next k % left.length)) (out.push left[next k % left.length]) (by rw [List.length_eraseIdx_of_lt aX];omega)
  refine ih.trans ?_
  rw [Array.toList_push,List.append_assoc]
  refine List.Perm.append_left _ ?_
  have e:left=left.take (next k % left.length)++left[next k % left.length]::left.drop (next k % left.length+1):=by rw [List.getElem_cons_drop,List.take_append_drop]
  conv=>rhs;rw [e]
  rw [List.eraseIdx_eq_take_drop_succ]
  rw [List.singleton_append]
  exact (List.perm_middle (a:=left[next k % left.length])).symm
theorem PF {α:Type}(next:Nat->Nat)(xs:Array α):(pickOrder next xs).toList.Perm xs.toList:=by
 have:=Fm next xs.size 0 xs.toList #[] (by simp)
 simpa [pickOrder] using this
section
variable {prog:Program}{w:World}{A:Around}{E:Value->Shared->Prop}{s:Shared}
theorem Qx {r:Addr} {Q:Bool->Shared->Prop} (hT:s.TypeIs (.ref r) "set") (h:Q false s):wpAny (model prog w) A (Builtin.List.listLengthHint (.ref r)) Q E s:=by
 unfold Builtin.List.listLengthHint
 refine wpAny_bind (wpAny_specialOf hT PySem.F.slot_set_len.lookup ?_)
 generalize rR:("set.__len__" : String)=Aj
 wp_delta
 rw [show splitId Aj=some ("set", "__len__") from by subst rR;decide +kernel]
 subst rR
 refine wpAny_bind (wpAny_isInstance (T := "set") (b:=true) hT (by rw [isSubtype_type];kernel_rfl) ?_)
 refine wpAny_ite_split (fun bE=>absurd bE (by decide)) (fun _=>?_)
 refine wpAny_ite_split (fun _=>?_) (fun bE=>absurd (by decide +kernel) bE)
 refine wpAny_bind (wpAny_typeOf hT ?_)
 exact wpAny_pure h
end
end L2
namespace So
open PySem PyProof.Rows
abbrev GC:=Option (Option Nat)×Nat×Nat
abbrev SM:=StateT SortSt Sem
def zr:Bool->Keyed->Array Keyed->Nat->Nat->Nat->SM (Option Nat):=sortPriv% PySem.Builtin.gallop
def mLo:Array Keyed->Array Keyed->SM (Array Keyed):=sortPriv% PySem.Builtin.mergeLo
def mHi:Array Keyed->Array Keyed->SM (Array Keyed):=sortPriv% PySem.Builtin.mergeHi
def qT (left:Bool)(key:Keyed)(arr:Array Keyed)(base i:Nat):SM (Option Bool):=do
 let x <- elem' arr (base+i)
 if left=true then lt' x key else do
  let r <- lt' key x
  pure (r.map fun b=>!b)
section
variable {prog:Program}{w:World}{A:Around}{E:Value->Shared->Prop}{s:Shared}
theorem Fo {left:Bool}{key:Keyed}{arr:Array Keyed}{base n hint:Nat}{st:SortSt}{Q:Option Nat->SortSt->Prop}(p:Nat->Bool)
  (rS:∀ (i:Nat) (Q:Option Bool->SortSt->Prop),i<n->Q (some (p i)) st->wpS (model prog w) A E s (qT left key arr base i) Q st)
  (mono:∀ i j,i<=j->j<n->p j=true->p i=true) (hh:hint<n)
  (h:∀ k,k<=n->(∀ i,i<k->p i=true)->(∀ i,k<=i->i<n->p i=false)->Q (some k) st) :
  wpS (model prog w) A E s (zr left key arr base n hint) Q st:=by
 have yz:∀ i j,i<=j->j<n->p i=false->p j=false:=fun i j h1 h2 h3=>by
  cases e:p j with
  |false=>rfl
  |true=>rw [mono i j h1 h2 e] at h3;cases h3
 refine wpS_bind (rS hint _ hh ?_)
 dsimp only
 have bin:∀ lo hi,lo<=hi->hi<=n->(∀ i,i<lo->p i=true)->(∀ i,hi<=i->i<n->p i=false) ->
   ∀ f:Nat->GC->SM (ForInStep GC),(∀ (x lo hi:Nat) (Q:ForInStep GC->SortSt->Prop),hi<=n ->
    (hi<=lo->Q (.done (none,lo,hi)) st)->(lo<hi->p (lo+(hi-lo) / 2)=true->Q (.yield (none,lo+(hi-lo) / 2+1,hi)) st)->(lo<hi->p (lo+(hi-lo) / 2)=false->Q (.yield (none,lo,lo+(hi-lo) / 2)) st) ->
    wpS (model prog w) A E s (f x (none,lo,hi)) Q st) ->
   wpS (model prog w) A E s (forIn [0:n] ((none,lo,hi):GC) f) (fun c af=>af=st/\∃ lo,c=(none,lo,lo)/\lo<=n/\(∀ i,i<lo->p i=true)/\(∀ i,lo<=i->i<n->p i=false)) st:=by
  intro lo hi h1 h2 h3 h4 f hf
  refine wpS_forRange (I:=fun x c af=>af=st/\∃ lo hi,c=(none,lo,hi)/\lo<=hi/\hi<=n/\hi-lo<=n-x/\(∀ i,i<lo->p i=true)/\(∀ i,hi<=i->i<n->p i=false)) ?_ ?_ ⟨rfl,lo,hi,rfl,h1,h2,by omega,h3,h4⟩
  ·rintro x c af _ hx ⟨rfl,lo,hi,rfl,a1,a2,a3,a4,a5⟩
   refine hf x lo hi _ a2 (fun z=>?_) (fun z e=>?_) (fun z e=>?_)
   ·have:lo=hi:=by omega
    subst this
    exact ⟨rfl,lo,rfl,a2,a4,a5⟩
   ·exact ⟨rfl,_,_,rfl,by omega,a2,by omega,fun i fj=>mono i (lo+(hi-lo) / 2) (by omega) (by omega) e,a5⟩
   ·exact ⟨rfl,_,_,rfl,by omega,by omega,by omega,a4,fun i b1 b2=>yz (lo+(hi-lo) / 2) i b1 b2 e⟩
  ·rintro c af ⟨rfl,lo,hi,rfl,a1,a2,a3,a4,a5⟩
   have:lo=hi:=by omega
   subst this
   exact ⟨rfl,lo,rfl,a2,a4,a5⟩
 cases hp:p hint with
 |true =>
  simp only [if_true]
  refine wpS_bind (wpS_mono (wpS_forRange (I:=fun x c af=>af=st/\∃ l o,c=(none,l,o)/\o=2*l+1/\x<=l/\hint+l<n/\p (hint+l)=true)
   (Q:=fun c af=>af=st/\∃ l o,c=(none,l,o)/\l<o/\hint+l<n/\p (hint+l)=true/\(n-hint<=o\/p (hint+o)=false)) ?_ ?_ ⟨rfl,0,1,rfl,rfl,Nat.le_refl _,hh,hp⟩) ?_)
  ·rintro x c af _ hx ⟨rfl,l,o,rfl,a1,a2,a3,a4⟩
   dsimp only
   by_cases fM:o >= n-hint
   ·rw [if_pos fM]
    exact wpS_pure ⟨rfl,l,o,rfl,by omega,a3,a4,.inl fM⟩
   ·rw [if_neg fM]
    refine wpS_bind (rS (hint+o) _ (by omega) ?_)
    dsimp only
    cases e:p (hint+o) with
    |true =>
     simp only [Bool.not_true,Bool.false_eq_true,if_false]
     exact wpS_pure ⟨rfl,o,2*o+1,rfl,rfl,by omega,by omega,e⟩
    |false =>
     simp only [Bool.not_false,if_true]
     exact wpS_pure ⟨rfl,l,o,rfl,by omega,a3,a4,.inr e⟩
  ·rintro c af ⟨rfl,l,o,rfl,a1,a2,a3,a4⟩
   exact ⟨rfl,l,o,rfl,by omega,a3,a4,.inl (by omega)⟩
  ·rintro c af ⟨rfl,l,o,rfl,a1,a2,a3,a4⟩
   dsimp only
   refine wpS_bind (wpS_mono (bin (hint+l+1) (hint+min o (n-hint)) (by omega) (by omega) (fun i hi=>mono i (hint+l) (by omega) (by omega) a3) (fun i b1 b2=>?_) _ (fun x lo hi Q hn k1 k2 k3=>?_)) ?_)
   ·rcases a4 with z | z
    ·omega
    ·by_cases ho:hint+o<=i
     ·exact yz (hint+o) i ho b2 z
     ·omega
   ·dsimp only
    by_cases fM:lo >= hi
    ·rw [if_pos fM];exact wpS_pure (k1 fM)
    ·rw [if_neg fM]
     refine wpS_bind (rS _ _ (by omega) ?_)
     dsimp only
     cases e:p (lo+(hi-lo) / 2) with
     |true=>simp only [if_true];exact wpS_pure (k2 (by omega) e)
     |false=>simp only [Bool.false_eq_true,if_false];exact wpS_pure (k3 (by omega) e)
   ·rintro c af ⟨rfl,lo,rfl,b1,b2,b3⟩
    exact wpS_pure (h lo b1 b2 b3)
 |false =>
  simp only [Bool.false_eq_true,if_false]
  refine wpS_bind (wpS_mono (wpS_forRange (I:=fun x c af=>af=st/\∃ l o,c=(none,l,o)/\o=2*l+1/\x<=l/\l<=hint/\p (hint-l)=false)
   (Q:=fun c af=>af=st/\∃ l o,c=(none,l,o)/\l<o/\l<=hint/\p (hint-l)=false/\(hint+1<=o\/(o<=hint/\p (hint-o)=true))) ?_ ?_ ⟨rfl,0,1,rfl,rfl,Nat.le_refl _,Nat.zero_le _,hp⟩) ?_)
  ·rintro x c af _ hx ⟨rfl,l,o,rfl,a1,a2,a3,a4⟩
   dsimp only
   by_cases fM:o >= hint+1
   ·rw [if_pos fM]
    exact wpS_pure ⟨rfl,l,o,rfl,by omega,a3,a4,.inl fM⟩
   ·rw [if_neg fM]
    refine wpS_bind (rS (hint-o) _ (by omega) ?_)
    dsimp only
    cases e:p (hint-o) with
    |true =>
     simp only [if_true]
     exact wpS_pure ⟨rfl,l,o,rfl,by omega,a3,a4,.inr ⟨by omega,e⟩⟩
    |false =>
     simp only [Bool.false_eq_true,if_false]
     exact wpS_pure ⟨rfl,o,2*o+1,rfl,rfl,by omega,by omega,e⟩
  ·rintro c af ⟨rfl,l,o,rfl,a1,a2,a3,a4⟩
   exact ⟨rfl,l,o,rfl,by omega,a3,a4,.inl (by omega)⟩
  ·rintro c af ⟨rfl,l,o,rfl,a1,a2,a3,a4⟩
   dsimp only
   refine wpS_bind (wpS_mono (bin (hint+1-min o (hint+1)) (hint-l) (by omega) (by omega) (fun i hi=>?_) (fun i b1 b2=>yz (hint-l) i b1 b2 a3) _ (fun x lo hi Q hn k1 k2 k3=>?_)) ?_)
   ·rcases a4 with z | z
    ·omega
    ·exact mono i (hint-o) (by omega) (by omega) z.2
   ·dsimp only
    by_cases fM:lo >= hi
    ·rw [if_pos fM];exact wpS_pure (k1 fM)
    ·rw [if_neg fM]
     refine wpS_bind (rS _ _ (by omega) ?_)
     dsimp only
     cases e:p (lo+(hi-lo) / 2) with
     |true=>simp only [if_true];exact wpS_pure (k2 (by omega) e)
     |false=>simp only [Bool.false_eq_true,if_false];exact wpS_pure (k3 (by omega) e)
   ·rintro c af ⟨rfl,lo,rfl,b1,b2,b3⟩
    exact wpS_pure (h lo b1 b2 b3)
end
end So
namespace So
open PySem PyProof.Rows
section
variable {κ:KeyKind}
def kf (κ:KeyKind)(x:Keyed) : κ.α:=(κ.keyOf x.1).getD κ.dflt
def dr (κ:KeyKind)(l:List Keyed):Prop:=l.Pairwise fun x y=>κ.kle (kf κ x) (kf κ y)
def Kd (κ:KeyKind)(l:List Keyed):Prop:=∀ x ∈ l,(κ.keyOf x.1).isSome=true
structure MI (κ:KeyKind) (a b out:List Keyed) (ia ib:Nat):Prop where
 p:(out++(a.drop ia++b.drop ib)).Perm (a++b)
 x:dr κ (out++a.drop ia)
 y:dr κ (out++b.drop ib)
def Gd (κ:KeyKind)(a b m:List Keyed):Prop:=m.Perm (a++b)/\dr κ m
variable {a b out:List Keyed}{ia ib:Nat}
theorem cC {l r:List Keyed}:dr κ (l++r) ↔ dr κ l/\dr κ r/\∀ x ∈ l,∀ y ∈ r,κ.kle (kf κ x) (kf κ y):=List.pairwise_append
theorem MI.uk (h:MI κ a b out ia ib)(hb:b.length<=ib):Gd κ a b (out++a.drop ia++b.drop ib):=by
 have e:b.drop ib=[]:=List.drop_eq_nil_of_le hb
 have p:=h.p
 rw [e,List.append_nil] at p ⊢
 exact ⟨p,h.x⟩
theorem MI.Us (h:MI κ a b out ia ib)(ha:a.length<=ia):Gd κ a b (out++a.drop ia++b.drop ib):=by
 have e:a.drop ia=[]:=List.drop_eq_nil_of_le ha
 have p:=h.p
 rw [e,List.nil_append] at p
 rw [e,List.append_nil]
 exact ⟨p,h.y⟩
theorem MI.Ut (h:MI κ a b out ia ib)(hl:∀ x ∈ b.drop ib,∀ y ∈ a.drop ia,κ.kle (kf κ x) (kf κ y)):Gd κ a b (out++b.drop ib++a.drop ia):=by
 refine ⟨?_,?_⟩
 ·refine List.Perm.trans ?_ h.p
  rw [List.append_assoc]
  exact List.Perm.append_left _ List.perm_append_comm
 ·have hx:=cC.mp h.x
  refine cC.mpr ⟨h.y,hx.2.1,fun x dG y hy=>?_⟩
  rcases List.mem_append.mp dG with z | z
  ·exact hx.2.2 x z y hy
  ·exact hl x z y hy
theorem MI.qD (h:MI κ a b out ia ib)(k:Nat)(hl:∀ x ∈ (a.drop ia).take k,∀ y ∈ b.drop ib,κ.kle (kf κ x) (kf κ y)):MI κ a b (out++(a.drop ia).take k) (ia+k) ib:=by
 have e:(a.drop ia).take k++a.drop (ia+k)=a.drop ia:=by rw [<- List.drop_drop];exact List.take_append_drop k _
 have hy:=cC.mp h.y
 have hx:=cC.mp h.x
 refine ⟨?_,?_,?_⟩
 ·have:=h.p
  rw [<- e] at this
  rw [List.append_assoc]
  rw [List.append_assoc] at this
  exact this
 ·rw [List.append_assoc,e];exact h.x
 ·rw [cC,cC]
  have hs:dr κ ((a.drop ia).take k):=List.Pairwise.sublist (List.take_sublist k _) hx.2.1
  refine ⟨⟨hy.1,hs,fun x dG y cw=>hx.2.2 x dG y (List.mem_of_mem_take cw)⟩,hy.2.1,fun x dG y cw=>?_⟩
  rcases List.mem_append.mp dG with z | z
  ·exact hy.2.2 x z y cw
  ·exact hl x z y cw
theorem MI.qE (h:MI κ a b out ia ib)(k:Nat)(hl:∀ x ∈ (b.drop ib).take k,∀ y ∈ a.drop ia,κ.kle (kf κ x) (kf κ y)):MI κ a b (out++(b.drop ib).take k) ia (ib+k):=by
 have e:(b.drop ib).take k++b.drop (ib+k)=b.drop ib:=by rw [<- List.drop_drop];exact List.take_append_drop k _
 have hy:=cC.mp h.y
 have hx:=cC.mp h.x
 refine ⟨?_,?_,?_⟩
 ·refine List.Perm.trans ?_ h.p
  generalize (b.drop ib).take k=B1 at e
  generalize b.drop (ib+k)=B2 at e
  rw [<- e]
  generalize a.drop ia=A1
  rw [List.append_assoc]
  refine List.Perm.append_left _ ?_
  rw [<- List.append_assoc,<- List.append_assoc]
  exact List.Perm.append_right _ List.perm_append_comm
 ·rw [cC,cC]
  have hs:dr κ ((b.drop ib).take k):=List.Pairwise.sublist (List.take_sublist k _) hy.2.1
  refine ⟨⟨hx.1,hs,fun x dG y cw=>hy.2.2 x dG y (List.mem_of_mem_take cw)⟩,hx.2.1,fun x dG y cw=>?_⟩
  rcases List.mem_append.mp dG with z | z
  ·exact hx.2.2 x z y cw
  ·exact hl x z y cw
 ·rw [List.append_assoc,e];exact h.y
theorem oy {l:List Keyed}{i:Nat}{x:Keyed}(h:l[i]?=some x):l.drop i=x::l.drop (i+1):=by
 obtain ⟨h1,rfl⟩:=List.getElem?_eq_some_iff.mp h
 exact List.drop_eq_getElem_cons h1
theorem lF {l:List Keyed}{i:Nat}{x:Keyed}(h:dr κ (l.drop i))(e:l[i]?=some x):∀ y ∈ l.drop i,κ.kle (kf κ x) (kf κ y):=fun y hy=>by
 rw [oy e] at h hy
 rcases List.mem_cons.mp hy with rfl | z
 ·exact KeyOrd.kle_refl _
 ·exact (List.pairwise_cons.mp h).1 y z
theorem MI.oR {y:Keyed}(h:MI κ a b out ia ib)(e:a[ia]?=some y)(hl:∀ z ∈ b.drop ib,κ.kle (kf κ y) (kf κ z)):MI κ a b (out++[y]) (ia+1) ib:=by
 have:=h.qD 1 (by rw [oy e];intro x hx z hz;rw [List.take_succ_cons,List.take_zero,List.mem_singleton] at hx;rw [hx];exact hl z hz)
 rw [oy e] at this
 exact this
theorem MI.oS {y:Keyed}(h:MI κ a b out ia ib)(e:b[ib]?=some y)(hl:∀ z ∈ a.drop ia,κ.kle (kf κ y) (kf κ z)):MI κ a b (out++[y]) ia (ib+1):=by
 have:=h.qE 1 (by rw [oy e];intro x hx z hz;rw [List.take_succ_cons,List.take_zero,List.mem_singleton] at hx;rw [hx];exact hl z hz)
 rw [oy e] at this
 exact this
end
abbrev de (st:SortSt)(g:Nat):SortSt:=SortSt.mk' (kindOf st) (arrOf st) (pendingOf st) g (failedOf st)
theorem oz {α:Type}(a:Array α)(i:Nat):(a.extract i a.size).toList=a.toList.drop i:=by
 rw [Array.toList_extract,List.extract_eq_take_drop,List.take_of_length_le (by rw [List.length_drop,Array.length_toList];omega)]
theorem Fp {α:Type}(a:Array α)(i k:Nat):(a.extract i (i+k)).toList=(a.toList.drop i).take k:=by simp [List.extract_eq_take_drop]
structure gM (prog:Program) (w:World) (A:Around) (E:Value->Shared->Prop) (s:Shared) (kd:SortKind) (κ:KeyKind):Prop where
 lt:∀ (st:SortSt) (x y:Keyed) (Q:Option Bool->SortSt->Prop),kindOf st=kd->(κ.keyOf x.1).isSome=true->(κ.keyOf y.1).isSome=true->Q (some (κ.blt (kf κ x) (kf κ y))) st->wpS (model prog w) A E s (lt' x y) Q st
section
variable {prog:Program}{w:World}{A:Around}{E:Value->Shared->Prop}{s:Shared}{kd:SortKind}{κ:KeyKind}
theorem cG {arr:Array Keyed}{i:Nat}{x:Keyed}{st:SortSt}{Q:Keyed->SortSt->Prop}(e:arr[i]?=some x)(h:Q x st):wpS (model prog w) A E s (elem' arr i) Q st:=by
 rw [elem'_eq,e];exact wpS_pure h
theorem byL (C:gM prog w A E s kd κ){key x:Keyed}{arr:Array Keyed}{base i:Nat}{st:SortSt}{Q:Option Bool->SortSt->Prop}(hk:kindOf st=kd)(e:arr[base+i]?=some x)(k1:(κ.keyOf key.1).isSome=true)(k2:(κ.keyOf x.1).isSome=true)(h:Q (some (κ.blt (kf κ x) (kf κ key))) st) :
  wpS (model prog w) A E s (qT true key arr base i) Q st:=by
 unfold qT
 refine wpS_bind (cG e ?_)
 rw [if_pos rfl]
 exact C.lt st x key _ hk k2 k1 h
theorem byR (C:gM prog w A E s kd κ){key x:Keyed}{arr:Array Keyed}{base i:Nat}{st:SortSt}{Q:Option Bool->SortSt->Prop}(hk:kindOf st=kd)(e:arr[base+i]?=some x)(k1:(κ.keyOf key.1).isSome=true)(k2:(κ.keyOf x.1).isSome=true)(h:Q (some (!κ.blt (kf κ key) (kf κ x))) st) :
  wpS (model prog w) A E s (qT false key arr base i) Q st:=by
 unfold qT
 refine wpS_bind (cG e ?_)
 rw [if_neg (by decide)]
 exact wpS_bind (C.lt st key x _ hk k1 k2 (wpS_pure h))
def kA (κ:KeyKind)(arr:Array Keyed)(i:Nat) : κ.α:=match arr[i]? with | some x=>kf κ x | none=>κ.dflt
theorem bD {arr:Array Keyed}{i:Nat}{x:Keyed}(e:arr[i]?=some x):kA κ arr i=kf κ x:=by unfold kA;rw [e]
theorem dv {α:Type}{arr:Array α}{i:Nat}(h:i<arr.size):∃ x,arr[i]?=some x/\x ∈ arr.toList:=⟨arr[i],getElem?_pos arr i h,by simp⟩
theorem kz {arr:Array Keyed}(h:dr κ arr.toList){i j:Nat}(bw:i<=j)(hj:j<arr.size) : κ.kle (kA κ arr i) (kA κ arr j):=by
 have li:i<arr.toList.length:=by rw [Array.length_toList];omega
 have lj:j<arr.toList.length:=by rw [Array.length_toList];omega
 have ei:arr[i]?=some arr.toList[i]:=by rw [<- Array.getElem?_toList,List.getElem?_eq_getElem li]
 have ej:arr[j]?=some arr.toList[j]:=by rw [<- Array.getElem?_toList,List.getElem?_eq_getElem lj]
 rw [bD ei,bD ej]
 rcases Nat.lt_or_ge i j with z | z
 ·exact List.pairwise_iff_getElem.mp h i j li lj z
 ·have:i=j:=by omega
  subst this
  exact KeyOrd.kle_refl _
theorem mem_mid {arr:Array Keyed}{i k:Nat}{x:Keyed}(h:x ∈ (arr.toList.drop i).take k):∃ j,j<k/\arr[i+j]?=some x:=by
 obtain ⟨n,hn,e⟩:=List.getElem_of_mem h
 rw [List.length_take] at hn
 refine ⟨n,by omega,?_⟩
 rw [<- Array.getElem?_toList,<- List.getElem?_drop,<- e]
 rw [List.getElem_take,List.getElem?_eq_getElem]
theorem wV (C:gM prog w A E s kd κ){key:Keyed}{arr:Array Keyed}{base n hint:Nat}{st:SortSt}{Q:Option Nat->SortSt->Prop}(hk:kindOf st=kd)(k1:(κ.keyOf key.1).isSome=true)(ka:Kd κ arr.toList)(hn:base+n<=arr.size)(hh:hint<n)
  (rT:∀ i j,i<=j->j<n -> κ.kle (kA κ arr (base+i)) (kA κ arr (base+j)))
  (h:∀ k,k<=n->(∀ i,i<k -> κ.kle (kA κ arr (base+i)) (kf κ key))->(∀ i,k<=i->i<n -> κ.klt (kf κ key) (kA κ arr (base+i)))->Q (some k) st) :
  wpS (model prog w) A E s (zr false key arr base n hint) Q st:=by
 refine Fo (fun i=>!κ.blt (kf κ key) (kA κ arr (base+i))) (fun i Q hi hq=>?_) (fun i j bw hj e=>?_) hh (fun k fk h1 h2=>h k fk (fun i hi=>?_) (fun i b1 b2=>?_))
 ·obtain ⟨x,ex,mx⟩:=dv (arr:=arr) (i:=base+i) (by omega)
  rw [bD ex] at hq
  exact byR C hk ex k1 (ka x mx) hq
 ·have e' : κ.blt (kf κ key) (kA κ arr (base+j))=false:=by simpa using e
  have : κ.kle (kA κ arr (base+i)) (kf κ key):=KeyOrd.kle_trans (rT i j bw hj) e'
  unfold KeyOrd.kle at this
  rw [this];rfl
 ·have:=h1 i hi
  show κ.blt _ _=false
  simpa using this
 ·have:=h2 i b1 b2
  show κ.blt _ _=true
  simpa using this
theorem xt (C:gM prog w A E s kd κ){key:Keyed}{arr:Array Keyed}{base n hint:Nat}{st:SortSt}{Q:Option Nat->SortSt->Prop}(hk:kindOf st=kd)(k1:(κ.keyOf key.1).isSome=true)(ka:Kd κ arr.toList)(hn:base+n<=arr.size)(hh:hint<n)
  (rT:∀ i j,i<=j->j<n -> κ.kle (kA κ arr (base+i)) (kA κ arr (base+j)))
  (h:∀ k,k<=n->(∀ i,i<k -> κ.klt (kA κ arr (base+i)) (kf κ key))->(∀ i,k<=i->i<n -> κ.kle (kf κ key) (kA κ arr (base+i)))->Q (some k) st) :
  wpS (model prog w) A E s (zr true key arr base n hint) Q st:=by
 refine Fo (fun i=>κ.blt (kA κ arr (base+i)) (kf κ key)) (fun i Q hi hq=>?_) (fun i j bw hj e=>?_) hh (fun k fk h1 h2=>h k fk (fun i hi=>h1 i hi) (fun i b1 b2=>h2 i b1 b2))
 ·obtain ⟨x,ex,mx⟩:=dv (arr:=arr) (i:=base+i) (by omega)
  rw [bD ex] at hq
  exact byL C hk ex k1 (ka x mx) hq
 ·exact KeyOrd.klt_of_kle_of_klt (rT i j bw hj) e
end
end So
namespace So
open PySem PyProof.Rows
section
variable {prog:Program}{w:World}{A:Around}{E:Value->Shared->Prop}{s:Shared}{kd:SortKind}{κ:KeyKind}
theorem Ry (C:gM prog w A E s kd κ){a b:Array Keyed}{st:SortSt}{Q:Array Keyed->SortSt->Prop}(hk:kindOf st=kd)(ka:Kd κ a.toList)(kb:Kd κ b.toList)(sa:dr κ a.toList)(sb:dr κ b.toList)(na : 0<a.size)(nb : 0<b.size)
  (h0:∀ x y,b[0]?=some x->a[0]?=some y -> κ.kle (kf κ x) (kf κ y)) (hl:∀ x ∈ b.toList,∀ y,a[a.size-1]?=some y -> κ.kle (kf κ x) (kf κ y))
  (h:∀ (m:Array Keyed) g,Gd κ a.toList b.toList m.toList->Q m (de st g)):wpS (model prog w) A E s (mLo a b) Q st:=by
 have la:a.toList.length=a.size:=Array.length_toList
 have lb:b.toList.length=b.size:=Array.length_toList
 have ga:∀ {i x},a[i]?=some x->a.toList[i]?=some x:=fun {i x} e=>by rw [Array.getElem?_toList];exact e
 have gb:∀ {i x},b[i]?=some x->b.toList[i]?=some x:=fun {i x} e=>by rw [Array.getElem?_toList];exact e
 have dl:∀ (out:Array Keyed) ia ib,(out++a.extract ia a.size++b.extract ib b.size).toList=out.toList++a.toList.drop ia++b.toList.drop ib:=fun out ia ib=>by
  rw [Array.toList_append,Array.toList_append,oz,oz]
 have ll:∀ (out:Array Keyed) ia ib,(out++b.extract ib b.size++a.extract ia a.size).toList=out.toList++b.toList.drop ib++a.toList.drop ia:=fun out ia ib=>by
  rw [Array.toList_append,Array.toList_append,oz,oz]
 have last:∀ {out:Array Keyed} {ia ib},MI κ a.toList b.toList out.toList ia ib->ia+1=a.size->Gd κ a.toList b.toList (out++b.extract ib b.size++a.extract ia a.size).toList:=fun {out ia ib} mi e=>by
  rw [ll]
  refine mi.Ut fun x hx y hy=>?_
  obtain ⟨z,ez,_⟩:=dv (arr:=a) (i:=ia) (by omega)
  rw [oy (ga ez),List.drop_eq_nil_of_le (by omega),List.mem_singleton] at hy
  rw [hy]
  exact hl x (List.mem_of_mem_drop hx) z (by rw [show a.size-1=ia by omega];exact ez)
 refine wpS_bind (wpS_lift (wpAny_rule ⟨rfl,?_⟩))
 (with_reducible conv=>arg 5;whnf)
 obtain ⟨x0,e0,m0⟩:=dv nb
 refine wpS_bind (cG e0 ?_)
 (with_reducible conv=>arg 5;whnf)
 obtain ⟨y0,f0,_⟩:=dv na
 have rV:MI κ a.toList b.toList [x0] 0 1:=by
  have:MI κ a.toList b.toList [] 0 0:=⟨List.Perm.refl _,sa,sb⟩
  refine this.oS (gb e0) fun z hz=>KeyOrd.kle_trans (h0 x0 y0 e0 f0) (lF (i:=0) sa (ga f0) z hz)
 by_cases eV:(1==b.size)=true
 ·rw [if_pos eV]
  have:=(beq_iff_eq.mp eV).symm
  exact wpS_pure (h _ (gallopOf st) (by rw [dl];exact rV.uk (by omega)))
 rw [if_neg eV]
 have U9 : 1 ≠ b.size:=fun z=>eV (beq_iff_eq.mpr z)
 by_cases j6:(0+1==a.size)=true
 ·rw [if_pos j6]
  have:=(beq_iff_eq.mp j6)
  exact wpS_pure (h _ (gallopOf st) (last rV this))
 rw [if_neg j6]
 have Va : 0+1 ≠ a.size:=fun z=>j6 (beq_iff_eq.mpr z)
 refine wpS_bind (wpS_get ?_)
 (with_reducible conv=>arg 5;whnf)
 generalize gallopOf st=mg0
 refine wpS_bind (wpS_mono (wpS_forRange (I:=fun t c af=>(∃ g,af=de st g)/\∃ out ia ib mg,c=(none,out,ia,ib,mg)/\MI κ a.toList b.toList out.toList ia ib/\ia+1<a.size/\ib<b.size/\t<=ia+ib)
  (Q:=fun c af=>(∃ g,af=de st g)/\∃ m,c.1=some m/\Gd κ a.toList b.toList m.toList) ?_ ?_ ⟨⟨gallopOf st,rfl⟩,_,0,1,_,rfl,rV,by omega,by omega,by omega⟩) ?_)
 rotate_left
 ·rintro c af ⟨_,out,ia,ib,mg,rfl,mi,h1,h2,h3⟩
  omega
 ·rintro c af ⟨⟨g,rfl⟩,m,e,gd⟩
  dsimp only
  rw [e]
  exact wpS_pure (h m g gd)
 rintro t c af _ ht ⟨⟨g,rfl⟩,out,ia,ib,mg,rfl,mi,h1,h2,h3⟩
 (with_reducible conv=>arg 5;whnf)
 (try dsimp -zeta only)
 refine wpS_bind (wpS_mono (wpS_forRange (I:=fun q c af=>af=de st g/\∃ out ia ib ac bc,c=(none,out,ia,ib,ac,bc)/\MI κ a.toList b.toList out.toList ia ib/\ia+1<a.size/\ib<b.size/\t+q<=ia+ib)
  (Q:=fun c af=>af=de st g/\((∃ m,c.1=some m/\Gd κ a.toList b.toList m.toList)\/∃ out ia ib ac bc,c=(none,out,ia,ib,ac,bc)/\MI κ a.toList b.toList out.toList ia ib/\ia+1<a.size/\ib<b.size/\t+1<=ia+ib)) ?_ ?_ ⟨rfl,out,ia,ib,0,0,rfl,mi,h1,h2,by omega⟩) ?_)
 rotate_left
 ·rintro c af ⟨_,out,ia,ib,ac,bc,rfl,mi,h1,h2,h3⟩
  omega
 rotate_left
 ·clear mi h1 h2 h3
  rintro q c af _ hq ⟨rfl,out,ia,ib,ac,bc,rfl,mi,h1,h2,h3⟩
  (with_reducible conv=>arg 5;whnf)
  (try dsimp -zeta only)
  obtain ⟨xb,eb,mb⟩:=dv h2
  obtain ⟨xa,ea,ma⟩:=dv (arr:=a) (i:=ia) (by omega)
  have sA:=(cC.mp mi.x).2.1
  have sB:=(cC.mp mi.y).2.1
  refine wpS_bind (cG eb (wpS_bind (cG ea (wpS_bind (C.lt _ xb xa _ hk (kb _ mb) (ka _ ma) ?_)))))
  (try dsimp -zeta only)
  cases aX : κ.blt (kf κ xb) (kf κ xa) with
  |true =>
   rw [if_pos rfl]
   refine wpS_bind (cG eb ?_)
   (with_reducible conv=>arg 5;whnf)
   have bx:MI κ a.toList b.toList (out.push xb).toList ia (ib+1):=by
    rw [Array.toList_push]
    exact mi.oS (gb eb) fun z hz=>KeyOrd.kle_trans (KeyOrd.kle_of_klt aX) (lF sA (ga ea) z hz)
   by_cases hz:(ib+1==b.size)=true
   ·rw [if_pos hz]
    have:=beq_iff_eq.mp hz
    exact wpS_pure ⟨rfl,.inl ⟨_,rfl,by rw [dl];exact bx.uk (by omega)⟩⟩
   ·rw [if_neg hz]
    have dH:ib+1 ≠ b.size:=fun z=>hz (beq_iff_eq.mpr z)
    split
    ·exact wpS_pure ⟨rfl,.inr ⟨_,_,_,_,_,rfl,bx,h1,by omega,by omega⟩⟩
    ·exact wpS_pure ⟨rfl,_,_,_,_,_,rfl,bx,h1,by omega,by omega⟩
  |false =>
   rw [if_neg (by decide)]
   refine wpS_bind (cG ea ?_)
   (with_reducible conv=>arg 5;whnf)
   have bx:MI κ a.toList b.toList (out.push xa).toList (ia+1) ib:=by
    rw [Array.toList_push]
    exact mi.oR (ga ea) fun z hz=>KeyOrd.kle_trans aX (lF sB (gb eb) z hz)
   by_cases hz:(ia+1+1==a.size)=true
   ·rw [if_pos hz]
    exact wpS_pure ⟨rfl,.inl ⟨_,rfl,last bx (beq_iff_eq.mp hz)⟩⟩
   ·rw [if_neg hz]
    have dH:ia+1+1 ≠ a.size:=fun z=>hz (beq_iff_eq.mpr z)
    split
    ·exact wpS_pure ⟨rfl,.inr ⟨_,_,_,_,_,rfl,bx,by omega,h2,by omega⟩⟩
    ·exact wpS_pure ⟨rfl,_,_,_,_,_,rfl,bx,by omega,h2,by omega⟩
 clear mi h1 h2 h3
 rintro c af ⟨rfl,⟨m,e,gd⟩ | ⟨out,ia,ib,ac,bc,rfl,mi,h1,h2,h3⟩⟩
 ·obtain ⟨c1,c2⟩:=c
  simp only at e
  subst e
  (with_reducible conv=>arg 5;whnf)
  (try dsimp -zeta only)
  exact wpS_pure ⟨⟨g,rfl⟩,m,rfl,gd⟩
 (with_reducible conv=>arg 5;whnf)
 (try dsimp -zeta only)
 refine wpS_bind (wpS_lift (wpAny_rule ⟨rfl,?_⟩))
 (with_reducible conv=>arg 5;whnf)
 refine wpS_bind (wpS_mono (wpS_forRange (I:=fun q c af=>(∃ g,af=de st g)/\∃ out ia ib mg ac bc,c=(none,out,ia,ib,mg,ac,bc)/\MI κ a.toList b.toList out.toList ia ib/\ia+1<a.size/\ib<b.size/\t+1+q<=ia+ib)
  (Q:=fun c af=>(∃ g,af=de st g)/\((∃ m,c.1=some m/\Gd κ a.toList b.toList m.toList)\/∃ out ia ib mg ac bc,c=(none,out,ia,ib,mg,ac,bc)/\MI κ a.toList b.toList out.toList ia ib/\ia+1<a.size/\ib<b.size/\t+1<=ia+ib)) ?_ ?_ ⟨⟨g,rfl⟩,out,ia,ib,_,ac,bc,rfl,mi,h1,h2,by omega⟩) ?_)
 rotate_left
 ·rintro c af ⟨_,out,ia,ib,mg,ac,bc,rfl,mi,h1,h2,h3⟩
  omega
 ·rintro c af ⟨⟨g,rfl⟩,⟨m,e,gd⟩ | ⟨out,ia,ib,mg,ac,bc,rfl,mi,h1,h2,h3⟩⟩
  ·obtain ⟨c1,c2⟩:=c
   simp only at e
   subst e
   (with_reducible conv=>arg 5;whnf)
   (try dsimp -zeta only)
   exact wpS_pure ⟨⟨g,rfl⟩,m,rfl,gd⟩
  ·(with_reducible conv=>arg 5;whnf)
   (try dsimp -zeta only)
   (with_reducible conv=>arg 5;whnf)
   exact wpS_bind (wpS_modify (wpS_pure ⟨⟨_,rfl⟩,out,ia,ib,_,rfl,mi,h1,h2,h3⟩))
 clear mi h1 h2 h3
 rintro q c af _ hq ⟨⟨g,rfl⟩,out,ia,ib,mg,ac,bc,rfl,mi,h1,h2,h3⟩
 (extract_lets +onlyGivenNames -merge -underBinder Rz RA RB RC RD RE RF RG RH RJ Qy;subst Rz RA RB RC RD RE RF RG RH RJ Qy)
 (try dsimp -zeta only)
 extract_lets +onlyGivenNames -merge -underBinder GL
 obtain ⟨jp,dX⟩:∃ z,z=GL:=⟨GL,rfl⟩
 rw [<- dX]
 suffices J:∀ mg,wpS (model prog w) A E s (jp () mg) _ (de st g) by
  (try dsimp -zeta only)
  split
  ·(with_reducible conv=>arg 5;whnf);exact J _
  ·exact J _
 intro mg
 rw [dX]
 (try dsimp -zeta only)
 refine wpS_bind (wpS_modify ?_)
 obtain ⟨xb,eb,mb⟩:=dv h2
 refine wpS_bind (cG eb ?_)
 refine wpS_bind (wV C (key:=xb) hk (kb _ mb) ka (by omega) (by omega) (fun i j bw hj=>kz sa (by omega) (by omega)) fun k k1 k2 k3=>?_)
 (try dsimp -zeta only)
 (try dsimp -zeta only)
 (rw [show k=id k from rfl];extract_lets +onlyGivenNames -merge -underBinder Uu;subst Uu;(try dsimp -zeta only [id]))
 extract_lets +onlyGivenNames -merge -underBinder GN
 obtain ⟨rW,iF⟩:∃ z,z=GN:=⟨GN,rfl⟩
 rw [<- iF]
 have sB:=(cC.mp mi.y).2.1
 suffices J2:∀ (out:Array Keyed) (ia:Nat),MI κ a.toList b.toList out.toList ia ib->ia+1<a.size->t+1+q<=ia+ib -> κ.klt (kf κ xb) (kA κ a ia)->wpS (model prog w) A E s (rW () out ia) _ (de st mg) by
  by_cases iV:k > 0
  ·rw [if_pos iV]
   (with_reducible conv=>arg 5;whnf)
   have bx:MI κ a.toList b.toList (out++a.extract ia (ia+k)).toList (ia+k) ib:=by
    rw [Array.toList_append,Fp]
    refine mi.qD k fun x hx z hz=>?_
    obtain ⟨j,hj,ex⟩:=mem_mid hx
    have:=k2 j hj
    rw [bD ex] at this
    exact KeyOrd.kle_trans this (lF sB (gb eb) z hz)
   by_cases hz:(ia+k+1==a.size)=true
   ·rw [if_pos hz]
    exact wpS_pure ⟨⟨_,rfl⟩,.inl ⟨_,rfl,last bx (beq_iff_eq.mp hz)⟩⟩
   ·rw [if_neg hz]
    have dH:ia+k+1 ≠ a.size:=fun z=>hz (beq_iff_eq.mpr z)
    by_cases hy:(ia+k==a.size)=true
    ·rw [if_pos hy]
     have:=beq_iff_eq.mp hy
     exact wpS_pure ⟨⟨_,rfl⟩,.inl ⟨_,rfl,by rw [dl];exact bx.Us (by omega)⟩⟩
    ·rw [if_neg hy]
     have cw:ia+k ≠ a.size:=fun z=>hy (beq_iff_eq.mpr z)
     exact J2 _ _ bx (by omega) (by omega) (k3 k (Nat.le_refl _) (by omega))
  ·rw [if_neg iV]
   exact J2 _ _ mi h1 h3 (k3 0 (by omega) (by omega))
 clear mi h1 h3 k1 k2 k3 sB
 intro out ia mi h1 h3 aX
 rw [iF]
 (try dsimp -zeta only)
 obtain ⟨xa,ea,ma⟩:=dv (arr:=a) (i:=ia) (by omega)
 rw [bD ea] at aX
 have sA:=(cC.mp mi.x).2.1
 refine wpS_bind (cG eb ?_)
 (with_reducible conv=>arg 5;whnf)
 have bx:MI κ a.toList b.toList (out.push xb).toList ia (ib+1):=by
  rw [Array.toList_push]
  exact mi.oS (gb eb) fun z hz=>KeyOrd.kle_trans (KeyOrd.kle_of_klt aX) (lF sA (ga ea) z hz)
 by_cases hz:(ib+1==b.size)=true
 ·rw [if_pos hz]
  have:=beq_iff_eq.mp hz
  exact wpS_pure ⟨⟨_,rfl⟩,.inl ⟨_,rfl,by rw [dl];exact bx.uk (by omega)⟩⟩
 rw [if_neg hz]
 have dH:ib+1 ≠ b.size:=fun z=>hz (beq_iff_eq.mpr z)
 refine wpS_bind (cG ea ?_)
 refine wpS_bind (xt C (key:=xa) hk (ka _ ma) kb (by omega) (by omega) (fun i j bw hj=>kz sb (by omega) (by omega)) fun k k1 k2 k3=>?_)
 (try dsimp -zeta only)
 (try dsimp -zeta only)
 (rw [show k=id k from rfl];extract_lets +onlyGivenNames -merge -underBinder Uv;subst Uv;(try dsimp -zeta only [id]))
 extract_lets +onlyGivenNames -merge -underBinder GO
 obtain ⟨Ak,qU⟩:∃ z,z=GO:=⟨GO,rfl⟩
 rw [<- qU]
 suffices J3:∀ (out:Array Keyed) (ib:Nat),MI κ a.toList b.toList out.toList ia ib->ib<b.size->t+1+q<=ia+ib -> κ.kle (kf κ xa) (kA κ b ib)->wpS (model prog w) A E s (Ak () out ib) _ (de st mg) by
  by_cases iV:k > 0
  ·rw [if_pos iV]
   (with_reducible conv=>arg 5;whnf)
   have ph:MI κ a.toList b.toList (out.push xb++b.extract (ib+1) (ib+1+k)).toList ia (ib+1+k):=by
    rw [Array.toList_append,Fp]
    refine bx.qE k fun x hx z hz=>?_
    obtain ⟨j,hj,ex⟩:=mem_mid hx
    have:=k2 j hj
    rw [bD ex] at this
    exact KeyOrd.kle_trans (KeyOrd.kle_of_klt this) (lF sA (ga ea) z hz)
   by_cases hy:(ib+1+k==b.size)=true
   ·rw [if_pos hy]
    have:=beq_iff_eq.mp hy
    exact wpS_pure ⟨⟨_,rfl⟩,.inl ⟨_,rfl,by rw [dl];exact ph.uk (by omega)⟩⟩
   ·rw [if_neg hy]
    have cw:ib+1+k ≠ b.size:=fun z=>hy (beq_iff_eq.mpr z)
    exact J3 _ _ ph (by omega) (by omega) (k3 k (Nat.le_refl _) (by omega))
  ·rw [if_neg iV]
   exact J3 _ _ bx (by omega) (by omega) (k3 0 (by omega) (by omega))
 clear mi bx h2 h3 k1 k2 k3 sA hz dH eb
 intro out ib mi h2 h3 hle
 rw [qU]
 (try dsimp -zeta only)
 obtain ⟨xc,ec,mc⟩:=dv h2
 rw [bD ec] at hle
 have sB:=(cC.mp mi.y).2.1
 refine wpS_bind (cG ea ?_)
 (with_reducible conv=>arg 5;whnf)
 have bx:MI κ a.toList b.toList (out.push xa).toList (ia+1) ib:=by
  rw [Array.toList_push]
  exact mi.oR (ga ea) fun z hz=>KeyOrd.kle_trans hle (lF sB (gb ec) z hz)
 by_cases hz:(ia+1+1==a.size)=true
 ·rw [if_pos hz]
  exact wpS_pure ⟨⟨_,rfl⟩,.inl ⟨_,rfl,last bx (beq_iff_eq.mp hz)⟩⟩
 ·rw [if_neg hz]
  have dH:ia+1+1 ≠ a.size:=fun z=>hz (beq_iff_eq.mpr z)
  split
  ·exact wpS_pure ⟨⟨_,rfl⟩,.inr ⟨_,_,_,_,_,_,rfl,bx,by omega,h2,by omega⟩⟩
  ·exact wpS_pure ⟨⟨_,rfl⟩,_,_,_,_,_,_,rfl,bx,by omega,h2,by omega⟩
end
end So
namespace So
open PySem PyProof.Rows
structure MH (κ:KeyKind) (a b r:List Keyed) (na nb:Nat):Prop where
 p:((a.take na++b.take nb)++r).Perm (a++b)
 x:dr κ (a.take na++r)
 y:dr κ (b.take nb++r)
section
variable {κ:KeyKind}{a b r:List Keyed}{na nb:Nat}
theorem MH.qD (h:MH κ a b r na nb)(t:Nat)(ht:t<=na)(hl:∀ x ∈ b.take nb,∀ y ∈ (a.take na).drop t,κ.kle (kf κ x) (kf κ y)):MH κ a b ((a.take na).drop t++r) t nb:=by
 have e:a.take t++(a.take na).drop t=a.take na:=by
  have:=List.take_append_drop t (a.take na)
  rwa [List.take_take,Nat.min_eq_left ht] at this
 have hx:=h.x
 have hp:=h.p
 have hy:=cC.mp h.y
 generalize (a.take na).drop t=A2 at e hl
 rw [<- e] at hx hp
 rw [List.append_assoc] at hx
 have hx2:=cC.mp hx
 refine ⟨List.Perm.trans ?_ hp,hx,cC.mpr ⟨hy.1,hx2.2.1,fun x dG y cw=>?_⟩⟩
 ·generalize a.take t=A1
  generalize b.take nb=B
  rw [List.append_assoc,List.append_assoc A1 A2 B,List.append_assoc A1 (A2++B) r]
  refine List.Perm.append_left _ ?_
  rw [<- List.append_assoc]
  exact List.Perm.append_right _ List.perm_append_comm
 ·rcases List.mem_append.mp cw with z | z
  ·exact hl x dG y z
  ·exact hy.2.2 x dG y z
theorem MH.qE (h:MH κ a b r na nb)(t:Nat)(ht:t<=nb)(hl:∀ x ∈ a.take na,∀ y ∈ (b.take nb).drop t,κ.kle (kf κ x) (kf κ y)):MH κ a b ((b.take nb).drop t++r) na t:=by
 have e:b.take t++(b.take nb).drop t=b.take nb:=by
  have:=List.take_append_drop t (b.take nb)
  rwa [List.take_take,Nat.min_eq_left ht] at this
 have hy:=h.y
 have hp:=h.p
 have hx:=cC.mp h.x
 generalize (b.take nb).drop t=B2 at e hl
 rw [<- e] at hy hp
 rw [List.append_assoc] at hy
 have hy2:=cC.mp hy
 refine ⟨?_,cC.mpr ⟨hx.1,hy2.2.1,fun x dG y cw=>?_⟩,hy⟩
 ·rw [<- List.append_assoc,List.append_assoc (a.take na)]
  exact hp
 ·rcases List.mem_append.mp cw with z | z
  ·exact hl x dG y z
  ·exact hx.2.2 x dG y z
theorem sP {l:List Keyed}{n:Nat}{x:Keyed}(e:l[n]?=some x):(l.take (n+1)).drop n=[x]:=by
 obtain ⟨h1,rfl⟩:=List.getElem?_eq_some_iff.mp e
 rw [List.take_succ_eq_append_getElem h1,List.drop_append_of_le_length (by rw [List.length_take];omega),List.drop_eq_nil_of_le (by rw [List.length_take];omega),List.nil_append]
theorem MH.oR {y:Keyed}(h:MH κ a b r (na+1) nb)(e:a[na]?=some y)(hl:∀ z ∈ b.take nb,κ.kle (kf κ z) (kf κ y)):MH κ a b (y::r) na nb:=by
 have:=h.qD na (Nat.le_succ _) (by rw [sP e];intro x hx z hz;rw [List.mem_singleton.mp hz];exact hl x hx)
 rwa [sP e] at this
theorem MH.oS {y:Keyed}(h:MH κ a b r na (nb+1))(e:b[nb]?=some y)(hl:∀ z ∈ a.take na,κ.kle (kf κ z) (kf κ y)):MH κ a b (y::r) na nb:=by
 have:=h.qE nb (Nat.le_succ _) (by rw [sP e];intro x hx z hz;rw [List.mem_singleton.mp hz];exact hl x hx)
 rwa [sP e] at this
theorem MH.done (h:MH κ a b r na nb)(hz:na=0\/nb=0):Gd κ a b (a.take na++b.take nb++r):=by
 refine ⟨h.p,?_⟩
 rcases hz with rfl | rfl
 ·rw [List.take_zero,List.nil_append];exact h.y
 ·rw [List.take_zero,List.append_nil];exact h.x
theorem MH.first (h:MH κ a b r na nb)(hl:∀ x ∈ b.take nb,∀ y ∈ a.take na,κ.kle (kf κ x) (kf κ y)):Gd κ a b (b.take nb++a.take na++r):=by
 refine ⟨(List.Perm.append_right _ List.perm_append_comm).trans h.p,?_⟩
 have hy:=cC.mp h.y
 rw [List.append_assoc]
 refine cC.mpr ⟨hy.1,h.x,fun x hx y cw=>?_⟩
 rcases List.mem_append.mp cw with z | z
 ·exact hl x hx y z
 ·exact hy.2.2 x hx y z
theorem lW {arr:Array Keyed}{n:Nat}{x:Keyed}(h:x ∈ arr.toList.take n):∃ j,j<n/\arr[j]?=some x:=by
 obtain ⟨m,hm,e⟩:=List.getElem_of_mem h
 rw [List.length_take] at hm
 refine ⟨m,by omega,?_⟩
 rw [<- Array.getElem?_toList,<- e,List.getElem_take,List.getElem?_eq_getElem]
theorem yd {arr:Array Keyed}{t n:Nat}{x:Keyed}(h:x ∈ (arr.toList.take n).drop t):∃ j,t<=j/\j<n/\arr[j]?=some x:=by
 obtain ⟨m,hm,e⟩:=List.getElem_of_mem h
 rw [List.length_drop,List.length_take] at hm
 refine ⟨t+m,by omega,by omega,?_⟩
 rw [<- Array.getElem?_toList,<- e,List.getElem_drop,List.getElem_take,List.getElem?_eq_getElem]
theorem qu {α:Type}(a:Array α)(n:Nat):(a.extract 0 n).toList=a.toList.take n:=by
 rw [Array.toList_extract,List.extract_eq_take_drop,List.drop_zero,Nat.sub_zero]
theorem oJ {α:Type}(a:Array α)(t n:Nat):(a.extract t n).toList=(a.toList.take n).drop t:=by
 rw [Array.toList_extract,List.extract_eq_take_drop,List.drop_take]
end
section
variable {prog:Program}{w:World}{A:Around}{E:Value->Shared->Prop}{s:Shared}{kd:SortKind}{κ:KeyKind}
theorem RK (C:gM prog w A E s kd κ){a b:Array Keyed}{st:SortSt}{Q:Array Keyed->SortSt->Prop}(hk:kindOf st=kd)(ka:Kd κ a.toList)(kb:Kd κ b.toList)(sa:dr κ a.toList)(sb:dr κ b.toList)(na0 : 0<a.size)(nb0 : 0<b.size)
  (h0:∀ x y,b[0]?=some x->a[0]?=some y -> κ.kle (kf κ x) (kf κ y)) (hl:∀ x ∈ b.toList,∀ y,a[a.size-1]?=some y -> κ.kle (kf κ x) (kf κ y))
  (h:∀ (m:Array Keyed) g,Gd κ a.toList b.toList m.toList->Q m (de st g)):wpS (model prog w) A E s (mHi a b) Q st:=by
 have la:a.toList.length=a.size:=Array.length_toList
 have lb:b.toList.length=b.size:=Array.length_toList
 have ga:∀ {i x},a[i]?=some x->a.toList[i]?=some x:=fun {i x} e=>by rw [Array.getElem?_toList];exact e
 have gb:∀ {i x},b[i]?=some x->b.toList[i]?=some x:=fun {i x} e=>by rw [Array.getElem?_toList];exact e
 have Jl:∀ {n j:Nat} {x y:Keyed},x ∈ a.toList.take n->a[j]?=some y->n<=j+1 -> κ.kle (kf κ x) (kf κ y):=fun {n j x y} hx ey hn=>by
  obtain ⟨i,hi,ex⟩:=lW hx
  have:=kz (arr:=a) (κ:=κ) sa (i:=i) (j:=j) (by omega) (Array.getElem?_eq_some_iff.mp ey).1
  rwa [bD ex,bD ey] at this
 have Jm:∀ {n j:Nat} {x y:Keyed},x ∈ b.toList.take n->b[j]?=some y->n<=j+1 -> κ.kle (kf κ x) (kf κ y):=fun {n j x y} hx ey hn=>by
  obtain ⟨i,hi,ex⟩:=lW hx
  have:=kz (arr:=b) (κ:=κ) sb (i:=i) (j:=j) (by omega) (Array.getElem?_eq_some_iff.mp ey).1
  rwa [bD ex,bD ey] at this
 have dl:∀ (out:Array Keyed) na nb,(a.extract 0 na++b.extract 0 nb++out.reverse).toList=a.toList.take na++b.toList.take nb++out.toList.reverse:=fun out na nb=>by
  rw [Array.toList_append,Array.toList_append,qu,qu,Array.toList_reverse]
 have first:∀ {out:Array Keyed} {na nb},MH κ a.toList b.toList out.toList.reverse na nb->nb=1->Gd κ a.toList b.toList (b.extract 0 nb++a.extract 0 na++out.reverse).toList:=fun {out na nb} mi e=>by
  rw [Array.toList_append,Array.toList_append,qu,qu,Array.toList_reverse]
  refine mi.first fun x hx y hy=>?_
  obtain ⟨i,hi,ex⟩:=lW hx
  have hi0:i=0:=by omega
  subst hi0
  obtain ⟨j,hj,ey⟩:=lW hy
  obtain ⟨y0,f0,_⟩:=dv na0
  have:=kz (arr:=a) (κ:=κ) sa (i:=0) (j:=j) (by omega) (Array.getElem?_eq_some_iff.mp ey).1
  rw [bD f0,bD ey] at this
  exact KeyOrd.kle_trans (h0 x y0 ex f0) this
 refine wpS_bind (wpS_lift (wpAny_rule ⟨rfl,?_⟩))
 (with_reducible conv=>arg 5;whnf)
 obtain ⟨x0,e0,m0⟩:=dv (arr:=a) (i:=a.size-1) (by omega)
 refine wpS_bind (cG e0 ?_)
 (with_reducible conv=>arg 5;whnf)
 have rV:MH κ a.toList b.toList [x0] (a.size-1) b.size:=by
  have:MH κ a.toList b.toList [] (a.size-1+1) b.size:=by
   refine ⟨?_,?_,?_⟩
   ·rw [List.append_nil,List.take_of_length_le (by omega),List.take_of_length_le (by omega)]
   ·rw [List.append_nil,List.take_of_length_le (by omega)];exact sa
   ·rw [List.append_nil,List.take_of_length_le (by omega)];exact sb
  exact this.oR (ga e0) fun z hz=>hl z (List.mem_of_mem_take hz) x0 e0
 have zt:MH κ a.toList b.toList (#[x0]:Array Keyed).toList.reverse (a.size-1) b.size:=rV
 by_cases eV:(a.size-1==0)=true
 ·rw [if_pos eV]
  have:=beq_iff_eq.mp eV
  exact wpS_pure (h _ (gallopOf st) (by rw [dl];exact zt.done (.inl this)))
 rw [if_neg eV]
 have U9:a.size-1 ≠ 0:=fun z=>eV (beq_iff_eq.mpr z)
 by_cases j6:(b.size==1)=true
 ·rw [if_pos j6]
  exact wpS_pure (h _ (gallopOf st) (first zt (beq_iff_eq.mp j6)))
 rw [if_neg j6]
 have Va:b.size ≠ 1:=fun z=>j6 (beq_iff_eq.mpr z)
 refine wpS_bind (wpS_get ?_)
 (with_reducible conv=>arg 5;whnf)
 generalize gallopOf st=mg0
 refine wpS_bind (wpS_mono (wpS_forRange (I:=fun t c af=>(∃ g,af=de st g)/\∃ out na nb mg,c=(none,na,nb,out,mg)/\MH κ a.toList b.toList out.toList.reverse na nb/\0<na/\1<nb/\na<=a.size/\nb<=b.size/\na+nb+t<=a.size+b.size)
  (Q:=fun c af=>(∃ g,af=de st g)/\∃ m,c.1=some m/\Gd κ a.toList b.toList m.toList) ?_ ?_ ⟨⟨gallopOf st,rfl⟩,_,_,_,_,rfl,zt,by omega,by omega,by omega,by omega,by omega⟩) ?_)
 rotate_left
 ·rintro c af ⟨_,out,na,nb,mg,rfl,mi,h1,h2,h3,h4,h5⟩
  omega
 ·rintro c af ⟨⟨g,rfl⟩,m,e,gd⟩
  dsimp only
  rw [e]
  exact wpS_pure (h m g gd)
 rintro t c af _ ht ⟨⟨g,rfl⟩,out,na,nb,mg,rfl,mi,h1,h2,h3,h4,h5⟩
 (with_reducible conv=>arg 5;whnf)
 (try dsimp -zeta only)
 refine wpS_bind (wpS_mono (wpS_forRange (I:=fun q c af=>af=de st g/\∃ out na nb ac bc,c=(none,na,nb,out,ac,bc)/\MH κ a.toList b.toList out.toList.reverse na nb/\0<na/\1<nb/\na<=a.size/\nb<=b.size/\na+nb+t+q<=a.size+b.size)
  (Q:=fun c af=>af=de st g/\((∃ m,c.1=some m/\Gd κ a.toList b.toList m.toList)\/∃ out na nb ac bc,c=(none,na,nb,out,ac,bc)/\MH κ a.toList b.toList out.toList.reverse na nb/\0<na/\1<nb/\na<=a.size/\nb<=b.size/\na+nb+t+1<=a.size+b.size)) ?_ ?_ ⟨rfl,out,na,nb,0,0,rfl,mi,h1,h2,h3,h4,by omega⟩) ?_)
 rotate_left
 ·rintro c af ⟨_,out,na,nb,ac,bc,rfl,mi,h1,h2,h3,h4,h5⟩
  omega
 rotate_left
 ·clear mi h1 h2 h3 h4 h5
  rintro q c af _ hq ⟨rfl,out,na,nb,ac,bc,rfl,mi,h1,h2,h3,h4,h5⟩
  (with_reducible conv=>arg 5;whnf)
  (try dsimp -zeta only)
  obtain ⟨na,rfl⟩:∃ n,na=n+1:=⟨na-1,by omega⟩
  obtain ⟨nb,rfl⟩:∃ n,nb=n+1:=⟨nb-1,by omega⟩
  obtain ⟨xb,eb,mb⟩:=dv (arr:=b) (i:=nb) (by omega)
  obtain ⟨xa,ea,ma⟩:=dv (arr:=a) (i:=na) (by omega)
  simp only [Nat.add_sub_cancel]
  refine wpS_bind (cG eb (wpS_bind (cG ea (wpS_bind (C.lt _ xb xa _ hk (kb _ mb) (ka _ ma) ?_)))))
  (try dsimp -zeta only)
  cases aX : κ.blt (kf κ xb) (kf κ xa) with
  |true =>
   rw [if_pos rfl]
   (try dsimp -zeta only)
   refine wpS_bind (cG ea ?_)
   (try dsimp -zeta only)
   have bx:MH κ a.toList b.toList (out.push xa).toList.reverse na (nb+1):=by
    rw [Array.toList_push,List.reverse_append]
    exact mi.oR (ga ea) fun z hz=>KeyOrd.kle_trans (Jm hz eb (Nat.le_refl _)) (KeyOrd.kle_of_klt aX)
   by_cases hz:(na==0)=true
   ·rw [if_pos hz]
    exact wpS_pure ⟨rfl,.inl ⟨_,rfl,by rw [dl];exact bx.done (.inl (beq_iff_eq.mp hz))⟩⟩
   ·rw [if_neg hz]
    have dH:na ≠ 0:=fun z=>hz (beq_iff_eq.mpr z)
    split
    ·exact wpS_pure ⟨rfl,.inr ⟨_,_,_,_,_,rfl,bx,by omega,by omega,by omega,by omega,by omega⟩⟩
    ·exact wpS_pure ⟨rfl,_,_,_,_,_,rfl,bx,by omega,by omega,by omega,by omega,by omega⟩
  |false =>
   rw [if_neg (by decide)]
   (try dsimp -zeta only)
   refine wpS_bind (cG eb ?_)
   (try dsimp -zeta only)
   have bx:MH κ a.toList b.toList (out.push xb).toList.reverse (na+1) nb:=by
    rw [Array.toList_push,List.reverse_append]
    exact mi.oS (gb eb) fun z hz=>KeyOrd.kle_trans (Jl hz ea (Nat.le_refl _)) aX
   by_cases hz:(nb==1)=true
   ·rw [if_pos hz]
    exact wpS_pure ⟨rfl,.inl ⟨_,rfl,first bx (beq_iff_eq.mp hz)⟩⟩
   ·rw [if_neg hz]
    have dH:nb ≠ 1:=fun z=>hz (beq_iff_eq.mpr z)
    split
    ·exact wpS_pure ⟨rfl,.inr ⟨_,_,_,_,_,rfl,bx,by omega,by omega,by omega,by omega,by omega⟩⟩
    ·exact wpS_pure ⟨rfl,_,_,_,_,_,rfl,bx,by omega,by omega,by omega,by omega,by omega⟩
 clear mi h1 h2 h3 h4 h5
 rintro c af ⟨rfl,⟨m,e,gd⟩ | ⟨out,na,nb,ac,bc,rfl,mi,h1,h2,h3,h4,h5⟩⟩
 ·obtain ⟨c1,c2⟩:=c
  simp only at e
  subst e
  (with_reducible conv=>arg 5;whnf)
  (try dsimp -zeta only)
  exact wpS_pure ⟨⟨g,rfl⟩,m,rfl,gd⟩
 (with_reducible conv=>arg 5;whnf)
 (try dsimp -zeta only)
 refine wpS_bind (wpS_lift (wpAny_rule ⟨rfl,?_⟩))
 (with_reducible conv=>arg 5;whnf)
 refine wpS_bind (wpS_mono (wpS_forRange (I:=fun q c af=>(∃ g,af=de st g)/\∃ out na nb mg ac bc,c=(none,na,nb,out,mg,ac,bc)/\MH κ a.toList b.toList out.toList.reverse na nb/\0<na/\1<nb/\na<=a.size/\nb<=b.size/\na+nb+t+1+q<=a.size+b.size)
  (Q:=fun c af=>(∃ g,af=de st g)/\((∃ m,c.1=some m/\Gd κ a.toList b.toList m.toList)\/∃ out na nb mg ac bc,c=(none,na,nb,out,mg,ac,bc)/\MH κ a.toList b.toList out.toList.reverse na nb/\0<na/\1<nb/\na<=a.size/\nb<=b.size/\na+nb+t+1<=a.size+b.size)) ?_ ?_ ⟨⟨g,rfl⟩,out,na,nb,_,ac,bc,rfl,mi,h1,h2,h3,h4,by omega⟩) ?_)
 rotate_left
 ·rintro c af ⟨_,out,na,nb,mg,ac,bc,rfl,mi,h1,h2,h3,h4,h5⟩
  omega
 ·rintro c af ⟨⟨g,rfl⟩,⟨m,e,gd⟩ | ⟨out,na,nb,mg,ac,bc,rfl,mi,h1,h2,h3,h4,h5⟩⟩
  ·obtain ⟨c1,c2⟩:=c
   simp only at e
   subst e
   (with_reducible conv=>arg 5;whnf)
   (try dsimp -zeta only)
   exact wpS_pure ⟨⟨g,rfl⟩,m,rfl,gd⟩
  ·(with_reducible conv=>arg 5;whnf)
   (try dsimp -zeta only)
   (with_reducible conv=>arg 5;whnf)
   exact wpS_bind (wpS_modify (wpS_pure ⟨⟨_,rfl⟩,out,na,nb,_,rfl,mi,h1,h2,h3,h4,h5⟩))
 clear mi h1 h2 h3 h4 h5
 rintro q c af _ hq ⟨⟨g,rfl⟩,out,na,nb,mg,ac,bc,rfl,mi,h1,h2,h3,h4,h5⟩
 (extract_lets +onlyGivenNames -merge -underBinder RL RM RN RO RP RQ RR RT RU RV Qz;subst RL RM RN RO RP RQ RR RT RU RV Qz)
 (try dsimp -zeta only)
 extract_lets +onlyGivenNames -merge -underBinder GP
 obtain ⟨jp,dX⟩:∃ z,z=GP:=⟨GP,rfl⟩
 rw [<- dX]
 suffices J:∀ mg,wpS (model prog w) A E s (jp () mg) _ (de st g) by
  (try dsimp -zeta only)
  split
  ·(with_reducible conv=>arg 5;whnf);exact J _
  ·exact J _
 intro mg
 rw [dX]
 (try dsimp -zeta only)
 refine wpS_bind (wpS_modify ?_)
 obtain ⟨xb,eb,mb⟩:=dv (arr:=b) (i:=nb-1) (by omega)
 refine wpS_bind (cG eb ?_)
 refine wpS_bind (wV C (key:=xb) hk (kb _ mb) ka (by omega) (by omega) (fun i j bw hj=>kz sa (by omega) (by omega)) fun k k1 k2 k3=>?_)
 simp only [Nat.zero_add] at k2 k3
 (try dsimp -zeta only)
 (try dsimp -zeta only)
 (extract_lets +onlyGivenNames -merge -underBinder RW RX;subst RW RX)
 extract_lets +onlyGivenNames -merge -underBinder GQ
 obtain ⟨rW,iF⟩:∃ z,z=GQ:=⟨GQ,rfl⟩
 rw [<- iF]
 suffices J2:∀ (na:Nat) (out:Array Keyed),MH κ a.toList b.toList out.toList.reverse na nb->0<na->na<=a.size->na+nb+t+1+q<=a.size+b.size->(∀ i,i<na -> κ.kle (kA κ a i) (kf κ xb))->wpS (model prog w) A E s (rW () na out) _ (de st mg) by
  by_cases iV:na-k > 0
  ·rw [if_pos iV]
   (with_reducible conv=>arg 5;whnf)
   have bx:MH κ a.toList b.toList (out++(a.extract k na).reverse).toList.reverse k nb:=by
    rw [Array.toList_append,Array.toList_reverse,List.reverse_append,List.reverse_reverse,oJ]
    refine mi.qD k (by omega) fun x hx y hy=>?_
    obtain ⟨j,jl,j4,ey⟩:=yd hy
    have:=k3 j jl j4
    rw [bD ey] at this
    exact KeyOrd.kle_trans (Jm hx eb (by omega)) (KeyOrd.kle_of_klt this)
   by_cases hz:(k==0)=true
   ·rw [if_pos hz]
    exact wpS_pure ⟨⟨_,rfl⟩,.inl ⟨_,rfl,by rw [dl];exact bx.done (.inl (beq_iff_eq.mp hz))⟩⟩
   ·rw [if_neg hz]
    have dH:k ≠ 0:=fun z=>hz (beq_iff_eq.mpr z)
    exact J2 _ _ bx (by omega) (by omega) (by omega) k2
  ·rw [if_neg iV]
   have:k=na:=by omega
   subst this
   exact J2 _ _ mi h1 h3 (by omega) k2
 clear mi h1 h3 h5 k1 k2 k3
 intro na out mi h1 h3 h5 hle
 rw [iF]
 (with_reducible conv=>arg 5;whnf)
 obtain ⟨nb,rfl⟩:∃ n,nb=n+1:=⟨nb-1,by omega⟩
 simp -zeta only [Nat.add_sub_cancel] at eb ⊢
 refine wpS_bind (cG eb ?_)
 (with_reducible conv=>arg 5;whnf)
 have bx:MH κ a.toList b.toList (out.push xb).toList.reverse na nb:=by
  rw [Array.toList_push,List.reverse_append]
  refine mi.oS (gb eb) fun z hz=>?_
  obtain ⟨i,hi,ez⟩:=lW hz
  have:=hle i hi
  rwa [bD ez] at this
 by_cases hz:(nb==1)=true
 ·rw [if_pos hz]
  exact wpS_pure ⟨⟨_,rfl⟩,.inl ⟨_,rfl,first bx (beq_iff_eq.mp hz)⟩⟩
 rw [if_neg hz]
 have dH:nb ≠ 1:=fun z=>hz (beq_iff_eq.mpr z)
 obtain ⟨xa,ea,ma⟩:=dv (arr:=a) (i:=na-1) (by omega)
 refine wpS_bind (cG ea ?_)
 refine wpS_bind (xt C (key:=xa) hk (ka _ ma) kb (by omega) (by omega) (fun i j bw hj=>kz sb (by omega) (by omega)) fun k k1 k2 k3=>?_)
 simp only [Nat.zero_add] at k2 k3
 (try dsimp -zeta only)
 (try dsimp -zeta only)
 (extract_lets +onlyGivenNames -merge -underBinder RY RZ;subst RY RZ)
 extract_lets +onlyGivenNames -merge -underBinder GR
 obtain ⟨Ak,qU⟩:∃ z,z=GR:=⟨GR,rfl⟩
 rw [<- qU]
 suffices J3:∀ (nb:Nat) (out:Array Keyed),MH κ a.toList b.toList out.toList.reverse na nb->1<nb->nb<=b.size->na+nb+t+1+q+1<=a.size+b.size->(∀ i,i<nb -> κ.kle (kA κ b i) (kf κ xa))->wpS (model prog w) A E s (Ak () nb out) _ (de st mg) by
  by_cases iV:nb-k > 0
  ·rw [if_pos iV]
   (with_reducible conv=>arg 5;whnf)
   have ph:MH κ a.toList b.toList (out.push xb++(b.extract k nb).reverse).toList.reverse na k:=by
    rw [Array.toList_append,Array.toList_reverse,List.reverse_append,List.reverse_reverse,oJ]
    refine bx.qE k (by omega) fun x hx y hy=>?_
    obtain ⟨j,jl,j4,ey⟩:=yd hy
    have:=k3 j jl j4
    rw [bD ey] at this
    exact KeyOrd.kle_trans (Jl hx ea (by omega)) this
   by_cases hy:(k==1)=true
   ·rw [if_pos hy]
    exact wpS_pure ⟨⟨_,rfl⟩,.inl ⟨_,rfl,first ph (beq_iff_eq.mp hy)⟩⟩
   ·rw [if_neg hy]
    have cw:k ≠ 1:=fun z=>hy (beq_iff_eq.mpr z)
    by_cases hx:(k==0)=true
    ·rw [if_pos hx]
     exact wpS_pure ⟨⟨_,rfl⟩,.inl ⟨_,rfl,by rw [dl];exact ph.done (.inr (beq_iff_eq.mp hx))⟩⟩
    ·rw [if_neg hx]
     have dG:k ≠ 0:=fun z=>hx (beq_iff_eq.mpr z)
     exact J3 _ _ ph (by omega) (by omega) (by omega) fun i hi=>KeyOrd.kle_of_klt (k2 i hi)
  ·rw [if_neg iV]
   have:k=nb:=by omega
   subst this
   exact J3 _ _ bx (by omega) (by omega) (by omega) fun i hi=>KeyOrd.kle_of_klt (k2 i hi)
 clear mi bx h2 h4 h5 k1 k2 k3 hz dH eb
 intro nb out mi h2 h4 h5 Vb
 rw [qU]
 (with_reducible conv=>arg 5;whnf)
 obtain ⟨na,rfl⟩:∃ n,na=n+1:=⟨na-1,by omega⟩
 simp only [Nat.add_sub_cancel] at ea ⊢
 refine wpS_bind (cG ea ?_)
 (try dsimp -zeta only)
 have bx:MH κ a.toList b.toList (out.push xa).toList.reverse na nb:=by
  rw [Array.toList_push,List.reverse_append]
  refine mi.oR (ga ea) fun z hz=>?_
  obtain ⟨i,hi,ez⟩:=lW hz
  have:=Vb i hi
  rwa [bD ez] at this
 by_cases hz:(na==0)=true
 ·rw [if_pos hz]
  exact wpS_pure ⟨⟨_,rfl⟩,.inl ⟨_,rfl,by rw [dl];exact bx.done (.inl (beq_iff_eq.mp hz))⟩⟩
 ·rw [if_neg hz]
  have dH:na ≠ 0:=fun z=>hz (beq_iff_eq.mpr z)
  split
  ·exact wpS_pure ⟨⟨_,rfl⟩,.inr ⟨_,_,_,_,_,_,rfl,bx,by omega,h2,by omega,h4,by omega⟩⟩
  ·exact wpS_pure ⟨⟨_,rfl⟩,_,_,_,_,_,_,rfl,bx,by omega,h2,by omega,h4,by omega⟩
end
end So
namespace So
open PySem PyProof.Rows
structure SB (kd:SortKind) (a0:Array Keyed) (p:Array (Nat×Nat×Nat)) (lo:Nat) (x0:Array Keyed) (st:SortSt):Prop where
 perm:(arrOf st).Perm a0
 kind:kindOf st=kd
 fail:failedOf st=none
 pend:pendingOf st=p
 low:∀ i,i<lo->(arrOf st)[i]?=x0[i]?
def SS (κ:KeyKind)(xs:Array Keyed)(lo n:Nat):Prop:=∀ i j,i<=j->j<n -> κ.kle (kA κ xs (lo+i)) (kA κ xs (lo+j))
def DS (κ:KeyKind)(xs:Array Keyed)(lo n:Nat):Prop:=∀ i j,i<=j->j<n -> κ.kle (kA κ xs (lo+j)) (kA κ xs (lo+i))
section
variable {κ:KeyKind}{kd:SortKind}{a0 x0:Array Keyed}{p:Array (Nat×Nat×Nat)}{lo:Nat}{st:SortSt}
theorem SB.size (h:SB kd a0 p lo x0 st):(arrOf st).size=a0.size:=h.perm.size_eq
theorem SB.set (h:SB kd a0 p lo x0 st){xs:Array Keyed}(hp:xs.Perm (arrOf st))(hl:∀ i,i<lo->xs[i]?=(arrOf st)[i]?):SB kd a0 p lo x0 (setArr st xs) :=
 ⟨hp.trans h.perm,h.kind,h.fail,h.pend,fun i hi=>(hl i hi).trans (h.low i hi)⟩
theorem SB.keys (h:SB kd a0 p lo x0 st)(k:Kd κ a0.toList):Kd κ (arrOf st).toList:=fun x hx=>k x ((Array.perm_iff_toList_perm.mp h.perm).mem_iff.mp hx)
theorem lH {xs ys:Array Keyed}{i j:Nat}(e:xs[i]?=ys[j]?):kA κ xs i=kA κ ys j:=by unfold kA;rw [e]
theorem wW {xs:Array Keyed}{i j:Nat}(hj:j<=xs.size)(k:Nat):kA κ (mirror xs i j ((j-i) / 2)) k=if i<=k/\k<j then kA κ xs (i+j-1-k) else kA κ xs k:=by
 have e:=getElem?_mirror_all (i:=i) hj k
 split
 ·rename_i z;rw [if_pos z] at e;exact lH e
 ·rename_i z;rw [if_neg z] at e;exact lH e
theorem sL {xs:Array Keyed}{i j:Nat}(hj:j<=xs.size)(k:Nat)(hk:k<i):(mirror xs i j ((j-i) / 2))[k]?=xs[k]?:=by
 rw [getElem?_mirror_all hj,if_neg (by omega)]
theorem qd {xs:Array Keyed}{i j:Nat}(hj:j<=xs.size)(he:∀ k,i<=k->k<j->kA κ xs k=kA κ xs (j-1))(k:Nat):kA κ (mirror xs i j ((j-i) / 2)) k=kA κ xs k:=by
 rw [wW hj]
 split
 ·rw [he _ (by omega) (by omega),he k (by omega) (by omega)]
 ·rfl
theorem DW {xs:Array Keyed}{src d:Nat}(hs:src<xs.size)(hd:d<=src)(k:Nat):kA κ (bubble xs src d) k=if k=src-d then kA κ xs src else if src-d<k/\k<=src then kA κ xs (k-1) else kA κ xs k:=by
 have e:=getElem?_bubble hs d hd k
 split
 ·rename_i z;rw [if_pos z] at e;exact lH e
 ·rename_i z
  rw [if_neg z] at e
  split
  ·rename_i z2;rw [if_pos z2] at e;exact lH e
  ·rename_i z2;rw [if_neg z2] at e;exact lH e
theorem OD {xs:Array Keyed}{src d:Nat}(hs:src<xs.size)(hd:d<=src)(k:Nat)(hk:k<src-d):(bubble xs src d)[k]?=xs[k]?:=by
 rw [getElem?_bubble hs d hd,if_neg (by omega),if_neg (by omega)]
end
section
variable {prog:Program}{w:World}{A:Around}{E:Value->Shared->Prop}{s:Shared}{kd:SortKind}{κ:KeyKind}{a0 x0:Array Keyed}{p:Array (Nat×Nat×Nat)}{lo:Nat}
theorem oK (C:gM prog w A E s kd κ)(k0:Kd κ a0.toList){st:SortSt}(hB:SB kd a0 p lo x0 st){i j:Nat}{Q:Option Bool->SortSt->Prop}(hi:i<a0.size)(hj:j<a0.size)(h:Q (some (κ.blt (kA κ (arrOf st) i) (kA κ (arrOf st) j))) st):wpS (model prog w) A E s (ltAt' i j) Q st:=by
 obtain ⟨x,ex,mx⟩:=dv (arr:=arrOf st) (i:=i) (by rw [hB.size];exact hi)
 obtain ⟨y,ey,my⟩:=dv (arr:=arrOf st) (i:=j) (by rw [hB.size];exact hj)
 rw [bD ex,bD ey] at h
 rw [ltAt'_eq]
 refine wpS_bind (wpS_get ?_)
 show wpS _ _ _ _ (elem' (arrOf st) i >>= fun x=>elem' (arrOf st) j >>= fun y=>lt' x y) Q st
 exact wpS_bind (cG ex (wpS_bind (cG ey (C.lt st x y _ hB.kind (hB.keys k0 x mx) (hB.keys k0 y my) h))))
theorem GU (C:gM prog w A E s kd κ)(k0:Kd κ a0.toList){st:SortSt}(hB:SB kd a0 p lo x0 st){n dz:Nat}(n1 : 1<=n)(hn:n<=dz)(hr:lo+dz<=a0.size)(hs:SS κ (arrOf st) lo n)
  (f:Nat->(Option (Option Nat)×Nat)->SM (ForInStep (Option (Option Nat)×Nat)))
  (hf:∀ (x n:Nat) (Q:ForInStep (Option (Option Nat)×Nat)->SortSt->Prop),1<=n->n<dz->(κ.klt (kA κ (arrOf st) (lo+n)) (kA κ (arrOf st) (lo+n-1))->Q (.done (none,n)) st)->(κ.kle (kA κ (arrOf st) (lo+n-1)) (kA κ (arrOf st) (lo+n))->Q (.yield (none,n+1)) st)->wpS (model prog w) A E s (f x (none,n)) Q st) :
  wpS (model prog w) A E s (forIn [n:dz] ((none,n):Option (Option Nat)×Nat) f) (fun c af=>af=st/\∃ m,c=(none,m)/\n<=m/\m<=dz/\SS κ (arrOf st) lo m/\(m=dz \/ κ.klt (kA κ (arrOf st) (lo+m)) (kA κ (arrOf st) (lo+m-1)))) st:=by
 refine wpS_forRange (I:=fun t c af=>af=st/\c=(none,t)/\SS κ (arrOf st) lo t) ?_ ?_ ⟨rfl,rfl,hs⟩
 ·rintro t c af h1 h2 ⟨rfl,rfl,j7⟩
  refine hf t t _ (by omega) h2 (fun z=>⟨rfl,t,rfl,h1,by omega,j7,.inr z⟩) (fun z=>⟨rfl,rfl,fun i j bw hj=>?_⟩)
  by_cases e:j<t
  ·exact j7 i j bw e
  ·have:j=t:=by omega
   subst this
   by_cases e2:i=j
   ·subst e2;exact KeyOrd.kle_refl _
   ·refine KeyOrd.kle_trans (j7 i (j-1) (by omega) (by omega)) ?_
    rw [show lo+(j-1)=lo+j-1 by omega];exact z
 ·rintro c af ⟨rfl,rfl,j7⟩
  rw [show max n dz=dz by omega] at j7 ⊢
  exact ⟨rfl,dz,rfl,hn,Nat.le_refl _,j7,.inl rfl⟩
theorem GV (C:gM prog w A E s kd κ)(k0:Kd κ a0.toList){st:SortSt}(hB:SB kd a0 p lo x0 st){dz:Nat}{Q:Option Nat->SortSt->Prop}(n1 : 1<=dz)(hr:lo+dz<=a0.size)
  (h:∀ m af,SB kd a0 p lo x0 af->1<=m->m<=dz->SS κ (arrOf af) lo m->Q (some m) af):wpS (model prog w) A E s (countRun' lo dz) Q st:=by
 have s1:SS κ (arrOf st) lo 1:=fun i j bw hj=>by
  have:i=j:=by omega
  subst this
  exact KeyOrd.kle_refl _
 refine wpS_bind (wpS_mono (GU C k0 hB (Nat.le_refl 1) n1 hr s1 _ fun x n Q h1 h2 q1 q2=>?_) ?_)
 ·(with_reducible conv=>arg 5;whnf)
  refine wpS_bind (oK C k0 hB (by omega) (by omega) ?_)
  (try dsimp -zeta only)
  cases e : κ.blt (kA κ (arrOf st) (lo+n)) (kA κ (arrOf st) (lo+n-1)) with
  |true=>rw [if_pos rfl];exact wpS_pure (q1 e)
  |false=>rw [if_neg (by decide)];(with_reducible conv=>arg 5;whnf);exact wpS_pure (q2 e)
 rintro c af ⟨rfl,n,rfl,m1,m2,hs,vk⟩
 (with_reducible conv=>arg 5;whnf)
 (try dsimp -zeta only)
 by_cases hz:(n==dz)=true
 ·rw [if_pos hz]
  exact wpS_pure (h n _ hB m1 m2 hs)
 rw [if_neg hz]
 have dH:n ≠ dz:=fun z=>hz (beq_iff_eq.mpr z)
 have aX:=vk.resolve_left dH
 extract_lets +onlyGivenNames -merge -underBinder Ik
 obtain ⟨jp,dX⟩:∃ z,z=Ik:=⟨Ik,rfl⟩
 rw [<- dX]
 suffices J:∀ st,SB kd a0 p lo x0 st->DS κ (arrOf st) lo (n+1)->wpS (model prog w) A E s (jp ()) Q st by
  by_cases hg:n > 1
  ·rw [if_pos hg]
   refine wpS_bind (oK C k0 hB (by omega) (by omega) ?_)
   (try dsimp -zeta only)
   cases e : κ.blt (kA κ (arrOf af) lo) (kA κ (arrOf af) (lo+n-1)) with
   |true=>rw [if_pos rfl];exact wpS_pure (h n _ hB m1 m2 hs)
   |false =>
    rw [if_neg (by decide)]
    have bR:lo+n<=(arrOf af).size:=by rw [hB.size];omega
    have all:∀ k,lo<=k->k<lo+n->kA κ (arrOf af) k=kA κ (arrOf af) (lo+n-1):=fun k b1 b2=>by
     have c1:=hs 0 (k-lo) (by omega) (by omega)
     have c2:=hs (k-lo) (n-1) (by omega) (by omega)
     rw [show lo+(k-lo)=k by omega] at c1 c2
     rw [show lo+(n-1)=lo+n-1 by omega] at c2
     exact KeyOrd.kle_antisymm c2 (KeyOrd.kle_trans (show κ.kle _ _ from e) c1)
    refine wpS_bind (wpS_modify (J _ (hB.set (mirror_perm _ _ _ _) fun i hi=>sL bR i hi) fun i j bw hj=>?_))
    show κ.kle (kA κ (mirror (arrOf af) _ _ _) _) (kA κ (mirror (arrOf af) _ _ _) _)
    rw [qd bR all,qd bR all]
    by_cases hjn:j<n
    ·rw [all (lo+i) (by omega) (by omega),all (lo+j) (by omega) (by omega)];exact KeyOrd.kle_refl _
    ·have:j=n:=by omega
     subst this
     by_cases e2:i=j
     ·subst e2;exact KeyOrd.kle_refl _
     ·rw [all (lo+i) (by omega) (by omega)];exact KeyOrd.kle_of_klt aX
  ·rw [if_neg hg]
   have:n=1:=by omega
   subst this
   refine J _ hB fun i j bw hj=>?_
   by_cases e2:i=j
   ·subst e2;exact KeyOrd.kle_refl _
   ·have i0:i=0:=by omega
    have j1:j=1:=by omega
    subst i0 j1
    exact KeyOrd.kle_of_klt aX
 clear hs vk aX hB s1
 intro st hB hd
 rw [dX]
 (try dsimp -zeta only)
 refine wpS_bind (wpS_lift (wpAny_rule ⟨rfl,?_⟩))
 (with_reducible conv=>arg 5;whnf)
 refine wpS_bind (wpS_mono (wpS_forRange (I:=fun t c af=>∃ q,c=(none,t,q)/\SB kd a0 p lo x0 af/\DS κ (arrOf af) lo t/\q+1<=t/\∀ i,t-(q+1)<=i->i<t->kA κ (arrOf af) (lo+i)=kA κ (arrOf af) (lo+t-1))
  (Q:=fun c af=>∃ t q,c=(none,t,q)/\1<=t/\t<=dz/\SB kd a0 p lo x0 af/\DS κ (arrOf af) lo t/\q+1<=t/\∀ i,t-(q+1)<=i->i<t->kA κ (arrOf af) (lo+i)=kA κ (arrOf af) (lo+t-1)) ?_ ?_ ⟨0,rfl,hB,hd,by omega,fun i b1 b2=>by rw [show lo+i=lo+(n+1)-1 by omega]⟩) ?_)
 ·rintro t c af t1 t2 ⟨q,rfl,hB,hd,hq,he⟩
  have bR:lo+t<=(arrOf af).size:=by rw [hB.size];omega
  (with_reducible conv=>arg 5;whnf)
  (try dsimp -zeta only)
  refine wpS_bind (oK C k0 hB (by omega) (by omega) ?_)
  (try dsimp -zeta only)
  extract_lets +onlyGivenNames -merge -underBinder GW
  obtain ⟨j1,jl⟩:∃ z,z=GW:=⟨GW,rfl⟩
  rw [<- jl]
  cases e : κ.blt (kA κ (arrOf af) (lo+t)) (kA κ (arrOf af) (lo+t-1)) with
  |true =>
   rw [if_pos rfl]
   extract_lets +onlyGivenNames -merge -underBinder GX
   obtain ⟨j2,j4⟩:∃ z,z=GX:=⟨GX,rfl⟩
   rw [<- j4]
   have step:∀ xs:Array Keyed,(∀ k,kA κ xs k=kA κ (arrOf af) k)->DS κ xs lo (t+1):=fun xs hk i j bw hj=>by
    rw [hk,hk]
    by_cases Al:j<t
    ·exact hd i j bw Al
    ·have:j=t:=by omega
     subst this
     by_cases e2:i=j
     ·subst e2;exact KeyOrd.kle_refl _
     ·refine KeyOrd.kle_trans (KeyOrd.kle_of_klt e) ?_
      have:=hd i (j-1) (by omega) (by omega)
      rwa [show lo+(j-1)=lo+j-1 by omega] at this
   have hW:∀ k,lo+t-(q+1)<=k->k<lo+t->kA κ (arrOf af) k=kA κ (arrOf af) (lo+t-1):=fun k b1 b2=>by
    have:=he (k-lo) (by omega) (by omega)
    rwa [show lo+(k-lo)=k by omega] at this
   split
   ·refine wpS_bind (wpS_modify ?_)
    rw [j4]
    (with_reducible conv=>arg 5;whnf)
    rw [jl]
    (with_reducible conv=>arg 5;whnf)
    exact wpS_pure ⟨0,rfl,hB.set (mirror_perm _ _ _ _) fun i hi=>sL bR i (by omega),step _ (qd bR hW),by omega,fun i b1 b2=>by rw [show lo+i=lo+(t+1)-1 by omega]⟩
   ·rw [j4]
    (with_reducible conv=>arg 5;whnf)
    rw [jl]
    (with_reducible conv=>arg 5;whnf)
    exact wpS_pure ⟨0,rfl,hB,step _ (fun _=>rfl),by omega,fun i b1 b2=>by rw [show lo+i=lo+(t+1)-1 by omega]⟩
  |false =>
   rw [if_neg (by decide)]
   refine wpS_bind (oK C k0 hB (by omega) (by omega) ?_)
   (try dsimp -zeta only)
   cases e2 : κ.blt (kA κ (arrOf af) (lo+t-1)) (kA κ (arrOf af) (lo+t)) with
   |true =>
    rw [if_pos rfl]
    exact wpS_pure ⟨t,q,rfl,by omega,by omega,hB,hd,hq,he⟩
   |false =>
    rw [if_neg (by decide)]
    (with_reducible conv=>arg 5;whnf)
    rw [jl]
    (with_reducible conv=>arg 5;whnf)
    have eq:kA κ (arrOf af) (lo+t)=kA κ (arrOf af) (lo+t-1):=KeyOrd.kle_antisymm e2 e
    refine wpS_pure ⟨q+1,rfl,hB,fun i j bw hj=>?_,by omega,fun i b1 b2=>?_⟩
    ·by_cases Al:j<t
     ·exact hd i j bw Al
     ·have:j=t:=by omega
      subst this
      by_cases e3:i=j
      ·subst e3;exact KeyOrd.kle_refl _
      ·rw [eq]
       have:=hd i (j-1) (by omega) (by omega)
       rwa [show lo+(j-1)=lo+j-1 by omega] at this
    ·rw [show lo+(t+1)-1=lo+t by omega]
     by_cases hit:i=t
     ·subst hit;rfl
     ·rw [eq];exact he i (by omega) (by omega)
 ·rintro c af ⟨q,rfl,hB,hd,hq,he⟩
  rw [show max (n+1) dz=dz by omega] at hd hq he ⊢
  exact ⟨dz,q,rfl,by omega,Nat.le_refl _,hB,hd,hq,he⟩
 clear hB hd
 rintro c af ⟨t,q,rfl,t1,t2,hB,hd,hq,he⟩
 have bR:lo+t<=(arrOf af).size:=by rw [hB.size];omega
 (extract_lets +onlyGivenNames -merge -underBinder R0 R1 R3 R4;subst R0 R1 R3 R4)
 (try dsimp -zeta only)
 extract_lets +onlyGivenNames -merge -underBinder GY
 obtain ⟨j3,KH⟩:∃ z,z=GY:=⟨GY,rfl⟩
 rw [<- KH]
 suffices J3:∀ st,SB kd a0 p lo x0 st->DS κ (arrOf st) lo t->wpS (model prog w) A E s (j3 ()) Q st by
  split
  ·have hW:∀ k,lo+t-(q+1)<=k->k<lo+t->kA κ (arrOf af) k=kA κ (arrOf af) (lo+t-1):=fun k b1 b2=>by
    have:=he (k-lo) (by omega) (by omega)
    rwa [show lo+(k-lo)=k by omega] at this
   refine wpS_bind (wpS_modify (J3 _ (hB.set (mirror_perm _ _ _ _) fun i hi=>sL bR i (by omega)) fun i j bw hj=>?_))
   show κ.kle (kA κ (mirror (arrOf af) _ _ _) _) (kA κ (mirror (arrOf af) _ _ _) _)
   rw [qd bR hW,qd bR hW]
   exact hd i j bw hj
  ·exact J3 _ hB hd
 clear hB hd he bR
 intro st hB hd
 rw [KH]
 (try dsimp -zeta only)
 have bR:lo+t<=(arrOf st).size:=by rw [hB.size];omega
 refine wpS_bind (wpS_modify ?_)
 have iW:SB kd a0 p lo x0 (setArr st (mirror (arrOf st) lo (lo+t) ((lo+t-lo) / 2))):=hB.set (mirror_perm _ _ _ _) fun i hi=>sL bR i hi
 refine wpS_bind (wpS_mono (GU C k0 iW t1 t2 hr (fun i j bw hj=>?_) _ fun x n Q h1 h2 q1 q2=>?_) ?_)
 ·show κ.kle (kA κ (mirror (arrOf st) _ _ _) _) (kA κ (mirror (arrOf st) _ _ _) _)
  rw [wW bR,wW bR,if_pos (by omega),if_pos (by omega)]
  have:=hd (t-1-j) (t-1-i) (by omega) (by omega)
  rwa [show lo+(t-1-i)=lo+(lo+t)-1-(lo+i) by omega,show lo+(t-1-j)=lo+(lo+t)-1-(lo+j) by omega] at this
 ·(with_reducible conv=>arg 5;whnf)
  refine wpS_bind (oK C k0 iW (by omega) (by omega) ?_)
  (try dsimp -zeta only)
  cases e : κ.blt (kA κ (arrOf (setArr st (mirror (arrOf st) lo (lo+t) ((lo+t-lo) / 2)))) (lo+n)) (kA κ (arrOf (setArr st (mirror (arrOf st) lo (lo+t) ((lo+t-lo) / 2)))) (lo+n-1)) with
  |true=>rw [if_pos rfl];exact wpS_pure (q1 e)
  |false=>rw [if_neg (by decide)];(with_reducible conv=>arg 5;whnf);exact wpS_pure (q2 e)
 ·rintro c af ⟨rfl,m,rfl,b1,b2,hs,_⟩
  (with_reducible conv=>arg 5;whnf)
  (try dsimp -zeta only)
  exact wpS_pure (h m _ iW (by omega) b2 hs)
end
end So
namespace So
open PySem PyProof.Rows
section
variable {prog:Program}{w:World}{A:Around}{E:Value->Shared->Prop}{s:Shared}{kd:SortKind}{κ:KeyKind}{a0 x0:Array Keyed}{p:Array (Nat×Nat×Nat)}{lo:Nat}
theorem GZ (C:gM prog w A E s kd κ)(k0:Kd κ a0.toList){st:SortSt}(hB:SB kd a0 p lo x0 st){n ok:Nat}{Q:Bool->SortSt->Prop}(hn:lo+n<=a0.size)(az:ok<=n)(hs:SS κ (arrOf st) lo ok)
  (h:∀ af,SB kd a0 p lo x0 af->SS κ (arrOf af) lo n->Q true af):wpS (model prog w) A E s (binarySort' lo n ok) Q st:=by
 refine wpS_bind (wpS_mono (wpS_forRange (I:=fun t c af=>c=(none,())/\SB kd a0 p lo x0 af/\SS κ (arrOf af) lo (min t n))
  (Q:=fun c af=>c=(none,())/\SB kd a0 p lo x0 af/\SS κ (arrOf af) lo n) ?_ ?_ ⟨rfl,hB,fun i j bw hj=>?_⟩) ?_)
 ·rintro t c af t1 t2 ⟨rfl,hB,hs⟩
  rw [show min t n=t by omega] at hs
  (with_reducible conv=>arg 5;whnf)
  refine wpS_bind (wpS_mono (wpS_forRange (I:=fun x c aG=>aG=af/\∃ l r,c=(none,l,r)/\l<=r/\r<=t/\r-l<=t-x/\(∀ i,i<l -> κ.kle (kA κ (arrOf af) (lo+i)) (kA κ (arrOf af) (lo+t)))/\(∀ i,r<=i->i<t -> κ.klt (kA κ (arrOf af) (lo+t)) (kA κ (arrOf af) (lo+i))))
   (Q:=fun c aG=>aG=af/\∃ l,c=(none,l,l)/\l<=t/\(∀ i,i<l -> κ.kle (kA κ (arrOf af) (lo+i)) (kA κ (arrOf af) (lo+t)))/\(∀ i,l<=i->i<t -> κ.klt (kA κ (arrOf af) (lo+t)) (kA κ (arrOf af) (lo+i)))) ?_ ?_ ⟨rfl,0,t,rfl,by omega,by omega,by omega,fun i z=>by omega,fun i z1 z2=>by omega⟩) ?_)
  ·rintro x c aG _ hx ⟨rfl,l,r,rfl,a1,a2,a3,a4,a5⟩
   (with_reducible conv=>arg 5;whnf)
   (try dsimp -zeta only)
   by_cases hg:l >= r
   ·rw [if_pos hg]
    have:l=r:=by omega
    subst this
    exact wpS_pure ⟨rfl,l,rfl,a2,a4,a5⟩
   ·rw [if_neg hg]
    (with_reducible conv=>arg 5;whnf)
    refine wpS_bind (oK C k0 hB (by omega) (by omega) ?_)
    (try dsimp -zeta only)
    cases e : κ.blt (kA κ (arrOf aG) (lo+t)) (kA κ (arrOf aG) (lo+(l+r) / 2)) with
    |true =>
     rw [if_pos rfl]
     (with_reducible conv=>arg 5;whnf)
     exact wpS_pure ⟨rfl,l,(l+r) / 2,rfl,by omega,by omega,by omega,a4,fun i z1 z2=>KeyOrd.klt_of_klt_of_kle e (hs _ _ z1 z2)⟩
    |false =>
     rw [if_neg (by decide)]
     (with_reducible conv=>arg 5;whnf)
     exact wpS_pure ⟨rfl,(l+r) / 2+1,r,rfl,by omega,by omega,by omega,fun i z=>KeyOrd.kle_trans (hs i ((l+r) / 2) (by omega) (by omega)) e,a5⟩
  ·rintro c aG ⟨rfl,l,r,rfl,a1,a2,a3,a4,a5⟩
   have:l=r:=by omega
   subst this
   exact ⟨rfl,l,rfl,a2,a4,a5⟩
  ·rintro c aG ⟨rfl,l,rfl,a2,a4,a5⟩
   (with_reducible conv=>arg 5;whnf)
   (try dsimp -zeta only)
   have bR:lo+t<(arrOf aG).size:=by rw [hB.size];omega
   refine wpS_bind (wpS_modify (wpS_pure ⟨rfl,hB.set (bubble_perm _ _ _) fun i hi=>OD bR (by omega) i (by omega),?_⟩))
   rw [show min (t+1) n=t+1 by omega]
   intro i j bw hj
   show κ.kle (kA κ (bubble (arrOf aG) (lo+t) (lo+t-(lo+l))) _) (kA κ (bubble (arrOf aG) (lo+t) (lo+t-(lo+l))) _)
   rw [DW bR (by omega),DW bR (by omega),show lo+t-(lo+t-(lo+l))=lo+l by omega]
   repeat' split
   all_goals first
    |(exfalso;omega)
    |exact KeyOrd.kle_refl _
    |exact a4 _ (by omega)
    |exact hs _ _ (by omega) (by omega)
    |(have z:=a5 (j-1) (by omega) (by omega);rw [show lo+(j-1)=lo+j-1 by omega] at z;exact KeyOrd.kle_of_klt z)
    |(have z:=hs (i-1) (j-1) (by omega) (by omega);rw [show lo+(i-1)=lo+i-1 by omega,show lo+(j-1)=lo+j-1 by omega] at z;exact z)
    |(have z:=hs i (j-1) (by omega) (by omega);rw [show lo+(j-1)=lo+j-1 by omega] at z;exact z)
 ·rintro c af ⟨rfl,hB,hs⟩
  rw [show min (max (max ok 1) n) n=n by omega] at hs
  exact ⟨rfl,hB,hs⟩
 ·by_cases e:ok=0
  ·have:i=j:=by omega
   subst this;exact KeyOrd.kle_refl _
  ·exact hs i j bw (by omega)
 ·rintro c af ⟨rfl,hB,hs⟩
  (with_reducible conv=>arg 5;whnf)
  (try dsimp -zeta only)
  exact wpS_pure (h af hB hs)
theorem Ep {α:Type}(sa:Nat):∀ (m:List α) (k:Nat) (xs:Array α),sa+k+m.length<=xs.size->((m.zipIdx k).foldl (fun a x=>a.setIfInBounds (sa+x.2) x.1) xs).toList=xs.toList.take (sa+k)++m++xs.toList.drop (sa+k+m.length)
 |[],k,xs,h=>by
  rw [List.zipIdx_nil,List.foldl_nil,List.append_nil,List.length_nil,Nat.add_zero,List.take_append_drop]
 |x::m,k,xs,h=>by
  rw [List.length_cons] at h
  rw [List.zipIdx_cons,List.foldl_cons,Ep sa m (k+1) _ (by rw [Array.size_setIfInBounds];omega),Array.toList_setIfInBounds]
  have hl:sa+k<xs.toList.length:=by rw [Array.length_toList];omega
  rw [show sa+(k+1)=sa+k+1 by omega,List.take_succ_eq_append_getElem (by rw [List.length_set];exact hl),List.getElem_set_self,List.take_set_of_le (Nat.le_refl _),List.drop_set_of_lt (by omega),List.length_cons,show sa+k+1+m.length=sa+k+(m.length+1) by omega]
  simp
theorem oA {arr:Array Keyed}{x:Keyed}{i n:Nat}(h:x ∈ (arr.extract i n).toList):∃ j,i<=j/\j<n/\arr[j]?=some x:=by
 rw [oJ] at h
 exact yd h
theorem tK {arr:Array Keyed}{i n:Nat}(h:∀ a b,i<=a->a<=b->b<n -> κ.kle (kA κ arr a) (kA κ arr b))(hn:n<=arr.size):dr κ (arr.extract i n).toList:=by
 unfold dr
 rw [List.pairwise_iff_getElem]
 intro a b ha hb bE
 have get:∀ c (hc:c<(arr.extract i n).toList.length),arr[i+c]?=some ((arr.extract i n).toList[c]):=fun c hc=>by
  have e1:(arr.extract i n).toList[c]?=some ((arr.extract i n).toList[c]):=List.getElem?_eq_getElem hc
  have e3:c<(arr.extract i n).size:=by rw [<- Array.length_toList];exact hc
  rw [Array.size_extract] at e3
  rw [<- e1,oJ,List.getElem?_drop,List.getElem?_take,if_pos (by omega),Array.getElem?_toList]
 have lb:b<(arr.extract i n).size:=by rw [<- Array.length_toList];exact hb
 rw [Array.size_extract] at lb
 have:=h (i+a) (i+b) (by omega) (by omega) (by omega)
 rwa [bD (get a ha),bD (get b hb)] at this
end
end So
namespace So
open PySem PyProof.Rows
section
variable {prog:Program}{w:World}{A:Around}{E:Value->Shared->Prop}{s:Shared}{kd:SortKind}{κ:KeyKind}{a0 x0:Array Keyed}
theorem Fq {arr:Array Keyed}{n1 n:Nat}(h1:SS κ arr 0 n1)(h2:SS κ arr n1 (n-n1))(h:∀ i j,i<n1->n1<=j->j<n -> κ.kle (kA κ arr i) (kA κ arr j)):∀ i j,i<=j->j<n -> κ.kle (kA κ arr i) (kA κ arr j):=fun i j bw hj=>by
 by_cases z1:j<n1
 ·have:=h1 i j bw z1
  rwa [Nat.zero_add,Nat.zero_add] at this
 ·by_cases z2:i<n1
  ·exact h i j z2 (by omega) hj
  ·have:=h2 (i-n1) (j-n1) (by omega) (by omega)
   rwa [show n1+(i-n1)=i by omega,show n1+(j-n1)=j by omega] at this
structure zu (kd:SortKind) (κ:KeyKind) (a0:Array Keyed) (st:SortSt):Prop where
 perm:(arrOf st).Perm a0
 fail:failedOf st=none
 one:(pendingOf st).size=1
 rT:∀ i j,i<=j->j<a0.size -> κ.kle (kA κ (arrOf st) i) (kA κ (arrOf st) j)
theorem N3 (C:gM prog w A E s kd κ)(k0:Kd κ a0.toList){st:SortSt}{n1 pw q:Nat}(hB:SB kd a0 #[(0,n1,pw),(n1,a0.size-n1,q)] 0 x0 st){Q:Bool->SortSt->Prop}(h1 : 1<=n1)(h2:n1<a0.size)(s1:SS κ (arrOf st) 0 n1)(s2:SS κ (arrOf st) n1 (a0.size-n1))
  (h:∀ af,zu kd κ a0 af->Q true af):wpS (model prog w) A E s (mergeAt' 0) Q st:=by
 have sz:=hB.size
 have kk:=hB.keys k0
 refine wpS_bind (wpS_get ?_)
 (try dsimp -zeta only)
 have e0:(pendingOf st)[0]?=some (0,n1,pw):=by rw [hB.pend];rfl
 have e1:(pendingOf st)[0+1]?=some (n1,a0.size-n1,q):=by rw [hB.pend];rfl
 obtain ⟨P,eP,hP⟩:∃ P,((pendingOf st).setIfInBounds 0 (0,n1+(a0.size-n1),pw)).eraseIdxIfInBounds (0+1)=P/\P.size=1:=⟨_,rfl,by rw [hB.pend];simp [Array.eraseIdxIfInBounds]⟩
 show wpS (model prog w) A E s (match ((pendingOf st)[0]?,(pendingOf st)[0+1]?) with | _=>_) Q st
 rw [e0,e1]
 (try dsimp -zeta only)
 refine wpS_bind ?_
 show wpS (model prog w) A E s (set (SortSt.mk' (kindOf st) (arrOf st) (((pendingOf st).setIfInBounds 0 (0,n1+(a0.size-n1),pw)).eraseIdxIfInBounds (0+1)) (gallopOf st) (failedOf st))) _ st
 rw [eP]
 unfold wpS
 rw [StateT.run_set]
 refine wpAny_pure ⟨rfl,?_⟩
 show wpS (model prog w) A E s _ Q (SortSt.mk' (kindOf st) (arrOf st) P (gallopOf st) (failedOf st))
 obtain ⟨xb,eb,mb⟩:=dv (arr:=arrOf st) (i:=n1) (by omega)
 refine wpS_bind (cG eb ?_)
 refine wpS_bind (wV C (arr:=arrOf st) (key:=xb) hB.kind (kk _ mb) kk (by omega) (by omega) (fun i j bw hj=>s1 i j bw hj) fun k k1 k2 k3=>?_)
 simp only [Nat.zero_add] at k2 k3
 (try dsimp -zeta only)
 have up:∀ i j,n1<=i->i<=j->j<a0.size -> κ.kle (kA κ (arrOf st) i) (kA κ (arrOf st) j):=fun i j z1 z2 z3=>by
  have:=s2 (i-n1) (j-n1) (by omega) (by omega)
  rwa [show n1+(i-n1)=i by omega,show n1+(j-n1)=j by omega] at this
 have dn:∀ i j,i<=j->j<n1 -> κ.kle (kA κ (arrOf st) i) (kA κ (arrOf st) j):=fun i j z1 z2=>by
  have:=s1 i j z1 z2
  rwa [Nat.zero_add,Nat.zero_add] at this
 by_cases hz:(n1-k==0)=true
 ·rw [if_pos hz]
  have dH:=beq_iff_eq.mp hz
  refine wpS_pure (h _ ⟨hB.perm,hB.fail,hP,Fq s1 s2 fun i j z1 z2 z3=>?_⟩)
  have:=k2 i (by omega)
  rw [<- bD (κ:=κ) eb] at this
  exact KeyOrd.kle_trans this (up n1 j (Nat.le_refl _) z2 z3)
 rw [if_neg hz]
 have dH:n1-k ≠ 0:=fun z=>hz (beq_iff_eq.mpr z)
 obtain ⟨xa,ea,ma⟩:=dv (arr:=arrOf st) (i:=0+k+(n1-k)-1) (by omega)
 refine wpS_bind (cG ea ?_)
 rw [show 0+k+(n1-k)-1=n1-1 by omega] at ea
 refine wpS_bind (xt C (arr:=arrOf st) (key:=xa) hB.kind (kk _ ma) kk (by omega) (by omega) (fun i j bw hj=>s2 i j bw hj) fun l l1 l2 l3=>?_)
 (try dsimp -zeta only)
 by_cases hy:(l==0)=true
 ·rw [if_pos hy]
  have cw:=beq_iff_eq.mp hy
  refine wpS_pure (h _ ⟨hB.perm,hB.fail,hP,Fq s1 s2 fun i j z1 z2 z3=>?_⟩)
  have:=l3 (j-n1) (by omega) (by omega)
  rw [<- bD (κ:=κ) ea,show n1+(j-n1)=j by omega] at this
  exact KeyOrd.kle_trans (dn i (n1-1) (by omega) (by omega)) this
 rw [if_neg hy]
 have cw:l ≠ 0:=fun z=>hy (beq_iff_eq.mpr z)
 (extract_lets +onlyGivenNames -merge -underBinder TB TC;subst TB TC)
 extract_lets +onlyGivenNames -merge -underBinder yA
 obtain ⟨jp,dX⟩:∃ z,z=yA:=⟨yA,rfl⟩
 rw [<- dX]
 unfold yA at dX
 rw [Nat.zero_add] at dX ⊢
 have sA:dr κ ((arrOf st).extract k n1).toList:=tK (fun a b z1 z2 z3=>dn a b z2 z3) (by omega)
 have sB:dr κ ((arrOf st).extract n1 (n1+l)).toList:=tK (fun a b z1 z2 z3=>up a b z1 z2 (by omega)) (by omega)
 have KI:Kd κ ((arrOf st).extract k n1).toList:=fun x hx=>by
  obtain ⟨j,_,_,e⟩:=oA hx
  exact kk x (by have:=List.mem_of_getElem? (by rw [Array.getElem?_toList];exact e:(arrOf st).toList[j]?=some x);exact this)
 have KJ:Kd κ ((arrOf st).extract n1 (n1+l)).toList:=fun x hx=>by
  obtain ⟨j,_,_,e⟩:=oA hx
  exact kk x (by have:=List.mem_of_getElem? (by rw [Array.getElem?_toList];exact e:(arrOf st).toList[j]?=some x);exact this)
 have zA:((arrOf st).extract k n1).size=n1-k:=by rw [Array.size_extract];omega
 have zB:((arrOf st).extract n1 (n1+l)).size=l:=by rw [Array.size_extract];omega
 have gA:∀ i,i<n1-k->((arrOf st).extract k n1)[i]?=(arrOf st)[k+i]?:=fun i hi=>by rw [Array.getElem?_extract,if_pos (by omega)]
 have gB:∀ i,i<l->((arrOf st).extract n1 (n1+l))[i]?=(arrOf st)[n1+i]?:=fun i hi=>by rw [Array.getElem?_extract,if_pos (by omega)]
 have first:∀ x y,((arrOf st).extract n1 (n1+l))[0]?=some x->((arrOf st).extract k n1)[0]?=some y -> κ.kle (kf κ x) (kf κ y):=fun x y ex ey=>by
  rw [gB 0 (by omega)] at ex
  rw [gA 0 (by omega)] at ey
  have:=k3 k (Nat.le_refl _) (by omega)
  rw [<- bD (κ:=κ) eb] at this
  rw [<- bD (κ:=κ) ex,<- bD (κ:=κ) ey]
  exact KeyOrd.kle_of_klt this
 have last:∀ x ∈ ((arrOf st).extract n1 (n1+l)).toList,∀ y,((arrOf st).extract k n1)[((arrOf st).extract k n1).size-1]?=some y -> κ.kle (kf κ x) (kf κ y):=fun x hx y ey=>by
  obtain ⟨j,j1,j2,e⟩:=oA hx
  rw [zA,gA _ (by omega),show k+(n1-k-1)=n1-1 by omega,ea] at ey
  cases ey
  have:=l2 (j-n1) (by omega)
  rw [show n1+(j-n1)=j by omega,bD e] at this
  exact KeyOrd.kle_of_klt this
 suffices J:∀ (m:Array Keyed) g,Gd κ ((arrOf st).extract k n1).toList ((arrOf st).extract n1 (n1+l)).toList m.toList->wpS (model prog w) A E s (jp m) Q (de (SortSt.mk' (kindOf st) (arrOf st) P (gallopOf st) (failedOf st)) g) by
  split
  ·exact wpS_bind (Ry C (a:=(arrOf st).extract k n1) (b:=(arrOf st).extract n1 (n1+l)) hB.kind KI KJ sA sB (by rw [zA];omega) (by rw [zB];omega) first last J)
  ·exact wpS_bind (RK C (a:=(arrOf st).extract k n1) (b:=(arrOf st).extract n1 (n1+l)) hB.kind KI KJ sA sB (by rw [zA];omega) (by rw [zB];omega) first last J)
 intro m g gd
 rw [dX]
 (try dsimp -zeta only)
 have lm:m.toList.length=(n1-k)+l:=by
  rw [gd.1.length_eq,List.length_append,Array.length_toList,Array.length_toList,zA,zB]
 have eL:=Ep k m.toList 0 (arrOf st) (by omega)
 rw [Nat.add_zero,lm,show k+(n1-k+l)=n1+l by omega] at eL
 refine wpS_bind (wpS_modify (wpS_bind (wpS_get ?_)))
 have fin:∀ xs:Array Keyed,xs.toList=(arrOf st).toList.take k++m.toList++(arrOf st).toList.drop (n1+l)->xs.Perm a0/\∀ i j,i<=j->j<a0.size -> κ.kle (kA κ xs i) (kA κ xs j):=fun xs ex=>by
  have hp:xs.toList.Perm (arrOf st).toList:=by
   rw [ex]
   have e1:(arrOf st).toList=(arrOf st).toList.take k++(((arrOf st).extract k n1).toList++((arrOf st).extract n1 (n1+l)).toList)++(arrOf st).toList.drop (n1+l):=by
    rw [oJ,oJ]
    have t1:(arrOf st).toList.take k++((arrOf st).toList.take n1).drop k=(arrOf st).toList.take n1:=by
     have:=List.take_append_drop k ((arrOf st).toList.take n1)
     rwa [List.take_take,Nat.min_eq_left (by omega)] at this
    have t2:(arrOf st).toList.take n1++((arrOf st).toList.take (n1+l)).drop n1=(arrOf st).toList.take (n1+l):=by
     have:=List.take_append_drop n1 ((arrOf st).toList.take (n1+l))
     rwa [List.take_take,Nat.min_eq_left (by omega)] at this
    rw [<- List.append_assoc,t1,t2,List.take_append_drop]
   exact (List.Perm.append_right _ (List.Perm.append_left _ gd.1)).trans (by rw [<- e1])
  refine ⟨(Array.perm_iff_toList_perm.mpr hp).trans hB.perm,fun i j bw hj=>?_⟩
  have hs:dr κ xs.toList:=by
   rw [ex]
   have mm:∀ x ∈ m.toList,(∃ j,k<=j/\j<n1/\(arrOf st)[j]?=some x)\/(∃ j,n1<=j/\j<n1+l/\(arrOf st)[j]?=some x):=fun x hx=>by
    rcases List.mem_append.mp (gd.1.mem_iff.mp hx) with z | z
    ·exact .inl (oA z)
    ·exact .inr (oA z)
   have mT:∀ x ∈ (arrOf st).toList.take k,∃ j,j<k/\(arrOf st)[j]?=some x:=fun x hx=>lW hx
   have mD:∀ x ∈ (arrOf st).toList.drop (n1+l),∃ j,n1+l<=j/\j<a0.size/\(arrOf st)[j]?=some x:=fun x hx=>by
    rw [<- oz] at hx
    obtain ⟨j,j1,j2,e⟩:=oA hx
    exact ⟨j,j1,by omega,e⟩
   refine cC.mpr ⟨cC.mpr ⟨?_,gd.2,fun x hx y hy=>?_⟩,?_,fun x hx y hy=>?_⟩
   ·rw [<- qu]
    exact tK (fun a b z1 z2 z3=>dn a b z2 (by omega)) (by omega)
   ·obtain ⟨i,i1,ei⟩:=mT x hx
    rw [<- bD (κ:=κ) ei]
    rcases mm y hy with ⟨j,j1,j2,ej⟩ | ⟨j,j1,j2,ej⟩
    ·rw [<- bD (κ:=κ) ej]
     exact dn i j (by omega) j2
    ·rw [<- bD (κ:=κ) ej]
     have:=k2 i i1
     rw [<- bD (κ:=κ) eb] at this
     exact KeyOrd.kle_trans this (up n1 j (Nat.le_refl _) j1 (by omega))
   ·rw [<- oz]
    exact tK (fun a b z1 z2 z3=>up a b (by omega) z2 (by omega)) (Nat.le_refl _)
   ·obtain ⟨j,j1,j2,ej⟩:=mD y hy
    rw [<- bD (κ:=κ) ej]
    have tail:∀ i,i<n1 -> κ.kle (kA κ (arrOf st) i) (kA κ (arrOf st) j):=fun i hi=>by
     have:=l3 (j-n1) (by omega) (by omega)
     rw [<- bD (κ:=κ) ea,show n1+(j-n1)=j by omega] at this
     exact KeyOrd.kle_trans (dn i (n1-1) (by omega) (by omega)) this
    rcases List.mem_append.mp hx with z | z
    ·obtain ⟨i,i1,ei⟩:=mT x z
     rw [<- bD (κ:=κ) ei]
     exact tail i (by omega)
    ·rcases mm x z with ⟨i,i1,i2,ei⟩ | ⟨i,i1,i2,ei⟩
     ·rw [<- bD (κ:=κ) ei]
      exact tail i i2
     ·rw [<- bD (κ:=κ) ei]
      exact up i j i1 (by omega) j2
  refine kz hs bw ?_
  rw [<- Array.length_toList,hp.length_eq,Array.length_toList];omega
 obtain ⟨f1,f2⟩:=fin _ eL
 have:=wpS_pure (M:=model prog w) (A:=A) (E:=E) (s:=s) (a:=true) (Q:=Q) (h (SortSt.mk' (kindOf st) ((m.toList.zipIdx 0).foldl (fun a x=>a.setIfInBounds (k+x.2) x.1) (arrOf st)) P g (failedOf st)) ⟨f1,hB.fail,hP,f2⟩)
 show wpS (model prog w) A E s (pure (failedOf st).isNone) Q _
 have e:(failedOf st).isNone=true:=by rw [hB.fail];rfl
 rw [e]
 exact this
end
end So
namespace So
open PySem PyProof.Rows
theorem R5 {n:Nat}(h2 : 2<=n)(h:n<128):n<=2*minRun' n n 0/\minRun' n n 0<=n:=by
 obtain ⟨f,rfl⟩:∃ f,n=f+2:=⟨n-2,by omega⟩
 have e:minRun' (f+2) (f+2) 0=if f+2<64 then f+2+0 else if (f+2) / 2<64 then (f+2) / 2+max 0 ((f+2) % 2) else minRun' f ((f+2) / 2 / 2) (max (max 0 ((f+2) % 2)) ((f+2) / 2 % 2)):=by
  rw [minRun'_succ,minRun'_succ]
 rw [e]
 split
 ·omega
 ·rw [if_pos (by omega)];omega
section
variable {prog:Program}{w:World}{A:Around}{E:Value->Shared->Prop}{s:Shared}{kd:SortKind}{κ:KeyKind}{a0:Array Keyed}
theorem QA (C:gM prog w A E s kd κ)(k0:Kd κ a0.toList){st:SortSt}(hB:SB kd a0 #[] 0 a0 st){Q:Unit->SortSt->Prop}(h2 : 2<=a0.size)(uG:a0.size<128)
  (h:∀ af,(arrOf af).Perm a0->failedOf af=none->(∀ i j,i<=j->j<a0.size -> κ.kle (kA κ (arrOf af) i) (kA κ (arrOf af) j))->Q () af):wpS (model prog w) A E s sortRuns' Q st:=by
 obtain ⟨m1,m2⟩:=R5 h2 uG
 refine wpS_bind (wpS_get ?_)
 show wpS (model prog w) A E s (have size:=(arrOf st).size;have aac:=minRun' size size 0;_) Q st
 rw [hB.size]
 (with_reducible conv=>arg 5;whnf)
 obtain ⟨mr,KL⟩:∃ mr,minRun' a0.size a0.size 0=mr:=⟨_,rfl⟩
 rw [KL] at m1 m2
 rw [show (sortPriv% PySem.Builtin.minRun) a0.size a0.size 0=mr from KL]
 refine wpS_bind (wpS_mono (wpS_forRange (I:=fun t c af=>(t=0/\c=(none,0)/\SB kd a0 #[] 0 a0 af) \/
   (t=1/\∃ n1,c=(none,n1)/\1<=n1/\n1<=a0.size/\mr<=n1/\SB kd a0 #[(0,n1,0)] 0 a0 af/\SS κ (arrOf af) 0 n1) \/
   (2<=t/\∃ n1 pw,c=(none,a0.size)/\1<=n1/\n1<a0.size/\SB kd a0 #[(0,n1,pw),(n1,a0.size-n1,0)] 0 a0 af/\SS κ (arrOf af) 0 n1/\SS κ (arrOf af) n1 (a0.size-n1)))
  (Q:=fun c af=>c.1=none/\((SB kd a0 #[(0,a0.size,0)] 0 a0 af/\SS κ (arrOf af) 0 a0.size)\/∃ n1 pw,1<=n1/\n1<a0.size/\SB kd a0 #[(0,n1,pw),(n1,a0.size-n1,0)] 0 a0 af/\SS κ (arrOf af) 0 n1/\SS κ (arrOf af) n1 (a0.size-n1))) ?_ ?_ (.inl ⟨rfl,rfl,hB⟩)) ?_)
 ·rintro t c af _ ht (⟨rfl,rfl,hB⟩ | ⟨rfl,n1,rfl,b1,b2,b3,hB,s1⟩ | ⟨t2,n1,pw,rfl,b1,b2,hB,s1,s2⟩)
  ·(with_reducible conv=>arg 5;whnf)
   rw [if_neg (by show ¬ 0 >= a0.size;omega)]
   refine wpS_bind (GV C k0 hB (by show 1<=a0.size-0;omega) (by show 0+(a0.size-0)<=a0.size;omega) fun m aG iW r1 r2 hs=>?_)
   (try dsimp -zeta only)
   (rw [show m=id m from rfl];extract_lets +onlyGivenNames -merge -underBinder Vc;subst Vc;(try dsimp -zeta only [id]))
   extract_lets +onlyGivenNames -merge -underBinder Il
   obtain ⟨jp,dX⟩:∃ z,z=Il:=⟨Il,rfl⟩
   rw [<- dX]
   suffices J:∀ n aG,SB kd a0 #[] 0 a0 aG->1<=n->n<=a0.size->mr<=n->SS κ (arrOf aG) 0 n->wpS (model prog w) A E s (jp () n) _ aG by
    by_cases aX:m<mr
    ·rw [if_pos aX]
     refine wpS_bind (wpS_lift (wpAny_rule ⟨rfl,?_⟩))
     (with_reducible conv=>arg 5;whnf)
     rw [show min (a0.size-0) mr=mr by omega]
     refine wpS_bind (GZ C k0 iW (by omega) (by omega) hs fun dU Am eH=>?_)
     rw [if_neg (by decide)]
     (with_reducible conv=>arg 5;whnf)
     exact J _ _ Am (by omega) m2 (Nat.le_refl _) eH
    ·rw [if_neg aX]
     have r2':m<=a0.size-0:=r2
     exact J _ _ iW r1 (by omega) (by omega) hs
   clear hB iW hs
   intro n aG hB r1 r2 r3 hs
   rw [dX]
   (try dsimp -zeta only)
   refine wpS_bind (wpS_get ?_)
   skip
   extract_lets +onlyGivenNames -merge -underBinder Im
   obtain ⟨rW,iF⟩:∃ z,z=Im:=⟨Im,rfl⟩
   rw [<- iF]
   show wpS (model prog w) A E s (match (pendingOf aG).back? with | _=>_) _ aG
   rw [show (pendingOf aG).back?=none by rw [hB.pend];rfl]
   (try dsimp -zeta only)
   rw [iF]
   (try dsimp -zeta only)
   refine wpS_bind (wpS_modify ?_)
   (with_reducible conv=>arg 5;whnf)
   refine wpS_pure (.inr (.inl ⟨rfl,n,by show (none,0+n)=(none,n);rw [Nat.zero_add],r1,r2,r3,⟨hB.perm,hB.kind,hB.fail,?_,hB.low⟩,hs⟩))
   show (pendingOf aG).push _=_
   rw [hB.pend];rfl
  ·(with_reducible conv=>arg 5;whnf)
   by_cases full:n1 >= a0.size
   ·rw [if_pos (by exact full)]
    have:n1=a0.size:=by omega
    subst this
    exact wpS_pure ⟨rfl,.inl ⟨hB,s1⟩⟩
   rw [if_neg (by exact full)]
   have hB1:SB kd a0 #[(0,n1,0)] n1 (arrOf af) af:=⟨hB.perm,hB.kind,hB.fail,hB.pend,fun _ _=>rfl⟩
   refine wpS_bind (GV C k0 hB1 (by show 1<=a0.size-n1;omega) (by show n1+(a0.size-n1)<=a0.size;omega) fun m aG iW r1 r2 hs=>?_)
   have r2':m<=a0.size-n1:=r2
   (try dsimp -zeta only)
   (rw [show m=id m from rfl];extract_lets +onlyGivenNames -merge -underBinder Vd;subst Vd;(try dsimp -zeta only [id]))
   extract_lets +onlyGivenNames -merge -underBinder Io
   obtain ⟨jp,dX⟩:∃ z,z=Io:=⟨Io,rfl⟩
   rw [<- dX]
   suffices J:∀ aG,SB kd a0 #[(0,n1,0)] n1 (arrOf af) aG->SS κ (arrOf aG) n1 (a0.size-n1)->wpS (model prog w) A E s (jp () (a0.size-n1)) _ aG by
    by_cases aX:m<mr
    ·rw [if_pos aX]
     refine wpS_bind (wpS_lift (wpAny_rule ⟨rfl,?_⟩))
     (with_reducible conv=>arg 5;whnf)
     rw [show min (a0.size-n1) mr=a0.size-n1 by omega]
     refine wpS_bind (GZ C k0 iW (by omega) (by omega) hs fun dU Am eH=>?_)
     rw [if_neg (by decide)]
     (with_reducible conv=>arg 5;whnf)
     exact J _ Am eH
    ·rw [if_neg aX]
     have:m=a0.size-n1:=by omega
     subst this
     exact J _ iW hs
   clear hB iW hs
   intro aG hB hs
   have s1':SS κ (arrOf aG) 0 n1:=fun i j bw hj=>by
    have:=s1 i j bw hj
    rwa [lH (κ:=κ) (hB.low (0+i) (by omega)),lH (κ:=κ) (hB.low (0+j) (by omega))]
   rw [dX]
   (try dsimp -zeta only)
   refine wpS_bind (wpS_get ?_)
   skip
   extract_lets +onlyGivenNames -merge -underBinder G7
   obtain ⟨rW,iF⟩:∃ z,z=G7:=⟨G7,rfl⟩
   rw [<- iF]
   show wpS (model prog w) A E s (match (pendingOf aG).back? with | _=>_) _ aG
   rw [show (pendingOf aG).back?=some (0,n1,0) by rw [hB.pend];rfl]
   (try dsimp -zeta only)
   (with_reducible conv=>arg 5;whnf)
   generalize (sortPriv% PySem.Builtin.power) a0.size (2*0+n1) (2*0+n1+n1+(a0.size-n1)) a0.size=pw
   refine wpS_bind (wpS_mono (wpS_forRange (I:=fun t c af=>af=aG/\c=(none,())) (Q:=fun c af=>af=aG/\c=(none,())) ?_ (fun c af z=>z) ⟨rfl,rfl⟩) ?_)
   ·rintro t c dU _ _ ⟨rfl,rfl⟩
    refine wpS_bind (wpS_get ?_)
    show wpS (model prog w) A E s (match if (pendingOf dU).size > 1 then (pendingOf dU)[(pendingOf dU).size-2]? else none with | _=>_) _ dU
    rw [if_neg (by rw [hB.pend];show ¬ 1 > 1;omega)]
    exact wpS_pure ⟨rfl,rfl⟩
   ·rintro c dU ⟨rfl,rfl⟩
    (with_reducible conv=>arg 5;whnf)
    (try dsimp -zeta only)
    refine wpS_bind (wpS_modify ?_)
    rw [iF]
    (try dsimp -zeta only)
    refine wpS_bind (wpS_modify ?_)
    (with_reducible conv=>arg 5;whnf)
    refine wpS_pure (.inr (.inr ⟨Nat.le_refl _,n1,pw,by show (none,n1+(a0.size-n1))=(none,a0.size);rw [show n1+(a0.size-n1)=a0.size by omega],b1,by omega,⟨hB.perm,hB.kind,hB.fail,?_,fun i hi=>by omega⟩,s1',hs⟩))
    show ((pendingOf dU).modify ((pendingOf dU).size-1) _).push _=_
    rw [hB.pend];rfl
  ·(with_reducible conv=>arg 5;whnf)
   rw [if_pos (by show a0.size >= a0.size;exact Nat.le_refl _)]
   exact wpS_pure ⟨rfl,.inr ⟨n1,pw,b1,b2,hB,s1,s2⟩⟩
 ·rintro c af (⟨z,_⟩ | ⟨z,_⟩ | ⟨t2,n1,pw,rfl,b1,b2,hB,s1,s2⟩)
  ·omega
  ·omega
  ·exact ⟨rfl,.inr ⟨n1,pw,b1,b2,hB,s1,s2⟩⟩
 ·rintro c af ⟨e,vk⟩
  obtain ⟨c1,c2⟩:=c
  simp only at e
  subst e
  (with_reducible conv=>arg 5;whnf)
  (try dsimp -zeta only)
  refine wpS_bind (wpS_mono (wpS_forRange (I:=fun t c aG=>c=(none,())/\((t=0/\aG=af)\/(zu kd κ a0 aG)))
   (Q:=fun c aG=>c=(none,())/\zu kd κ a0 aG) ?_ ?_ ⟨rfl,.inl ⟨rfl,rfl⟩⟩) ?_)
  ·rintro t c aG _ ht ⟨rfl,z⟩
   (try dsimp -zeta only)
   refine wpS_bind (wpS_get ?_)
   show wpS (model prog w) A E s (have p:=pendingOf aG;_) _ aG
   rcases z with ⟨rfl,rfl⟩ | f
   ·rcases vk with ⟨hB,hs⟩ | ⟨n1,pw,b1,b2,hB,s1,s2⟩
    ·have hp1:(pendingOf aG).size=1:=by rw [hB.pend];rfl
     (with_reducible conv=>arg 5;whnf)
     rw [if_pos (by show (pendingOf aG).size<=1;omega)]
     exact wpS_pure ⟨rfl,⟨hB.perm,hB.fail,by rw [hB.pend];rfl,fun i j bw hj=>by have:=hs i j bw hj;rwa [Nat.zero_add,Nat.zero_add] at this⟩⟩
    ·have hp2:(pendingOf aG).size=2:=by rw [hB.pend];rfl
     (with_reducible conv=>arg 5;whnf)
     rw [if_neg (by show ¬ (pendingOf aG).size<=1;omega)]
     (with_reducible conv=>arg 5;whnf)
     refine wpS_bind ?_
     show wpS (model prog w) A E s (mergeAt' (if Option.any _ (if (pendingOf aG).size-2 > 0 then _ else none)=true then _ else (pendingOf aG).size-2)) _ aG
     rw [if_neg (c:=(pendingOf aG).size-2 > 0) (by omega),if_neg (by rw [Option.any_none];decide),hp2]
     refine N3 C k0 hB b1 b2 s1 s2 fun dU f=>?_
     rw [if_neg (by decide)]
     exact wpS_pure ⟨rfl,.inr f⟩
   ·(with_reducible conv=>arg 5;whnf)
    rw [if_pos (by show (pendingOf aG).size<=1;rw [f.one];decide)]
    exact wpS_pure ⟨rfl,f⟩
  ·rintro c aG ⟨rfl,z⟩
   rcases z with ⟨z,_⟩ | f
   ·omega
   ·exact ⟨rfl,f⟩
  ·rintro c aG ⟨rfl,f⟩
   (with_reducible conv=>arg 5;whnf)
   (try dsimp -zeta only)
   exact wpS_pure (h aG f.perm f.fail f.rT)
end
end So
namespace So
open PySem PyProof.Rows
def lexLt:List Int->List Int->Bool
 |[],[] => false
 |[],_::_=>true
 |_::_,[] => false
 |x::xs,y::ys=>if x=y then lexLt xs ys else decide (x<y)
theorem oB:∀ a,lexLt a a=false
 |[] => rfl
 |x::xs=>by unfold lexLt;rw [if_pos rfl];exact oB xs
theorem tX:∀ a b c,lexLt a b=true->lexLt b c=true->lexLt a c=true
 |[],[],_,h,_=>by cases h
 |[],_::_,[],_,h=>by cases h
 |[],_::_,_::_,_,_=>rfl
 |_::_,[],_,h,_=>by cases h
 |_::_,_::_,[],_,h=>by cases h
 |x::xs,y::ys,z::zs,h1,h2=>by
  unfold lexLt at h1 h2 ⊢
  by_cases e1:x=y
  ·subst e1
   rw [if_pos rfl] at h1
   by_cases e2:x=z
   ·subst e2
    rw [if_pos rfl] at h2 ⊢
    exact tX xs ys zs h1 h2
   ·rw [if_neg e2] at h2 ⊢;exact h2
  ·rw [if_neg e1] at h1
   have:=of_decide_eq_true h1
   by_cases e2:y=z
   ·subst e2
    rw [if_neg e1];exact h1
   ·rw [if_neg e2] at h2
    have:=of_decide_eq_true h2
    rw [if_neg (by omega)]
    exact decide_eq_true (by omega)
theorem ye:∀ a b c,lexLt a c=true->lexLt a b=true\/lexLt b c=true
 |[],[],c,h=>.inr h
 |[],_::_,_,_=>.inl rfl
 |_::_,_,[],h=>by cases h
 |_::_,[],_::_,_=>.inr rfl
 |x::xs,y::ys,z::zs,h=>by
  unfold lexLt at h ⊢
  by_cases e1:x=y
  ·subst e1
   rw [if_pos rfl]
   by_cases e2:x=z
   ·subst e2
    rw [if_pos rfl] at h ⊢
    exact ye xs ys zs h
   ·rw [if_neg e2] at h ⊢;exact .inr h
  ·rw [if_neg e1]
   by_cases e2:x=z
   ·subst e2
    rw [if_neg (fun z=>e1 z.symm)]
    rcases Int.lt_or_le x y with q | q
    ·exact .inl (decide_eq_true q)
    ·exact .inr (decide_eq_true (by omega))
   ·rw [if_neg e2] at h
    have:=of_decide_eq_true h
    rcases Int.lt_or_le x y with q | q
    ·exact .inl (decide_eq_true q)
    ·refine .inr ?_
     rw [if_neg (by omega)]
     exact decide_eq_true (by omega)
theorem tL:∀ a b,lexLt a b=false->lexLt b a=false->a=b
 |[],[],_,_=>rfl
 |[],_::_,h,_=>by cases h
 |_::_,[],_,h=>by cases h
 |x::xs,y::ys,h1,h2=>by
  unfold lexLt at h1 h2
  by_cases e1:x=y
  ·subst e1
   rw [if_pos rfl] at h1 h2
   rw [tL xs ys h1 h2]
  ·rw [if_neg e1] at h1
   rw [if_neg (fun z=>e1 z.symm)] at h2
   have:=of_decide_eq_false h1
   have:=of_decide_eq_false h2
   omega
def intsOf:List Value->Option (List Int)
 |[] => some []
 | .int n _::r=>(intsOf r).map (n :: ·)
 |_::_=>none
def cI (h:Heap):Value->Option (List Int)
 | .ref t=>match h.get? t with
  |some ⟨.type "tuple",_,.seq vs _,_⟩=>intsOf vs.toList
  |_=>none
 |_=>none
def iX (h:Heap):KeyKind:={ α:=List Int,blt:=lexLt,irrefl:=oB,trans:=tX,negTrans:=ye,total:=tL,keyOf:=cI h,dflt:=[] }
theorem ints_of {vs:List Value}{ns:List Int}(h:IntsAre vs ns):intsOf vs=some ns:=by
 induction h with
 |nil=>rfl
 |cons n t _ ih=>show (intsOf _).map _=_;rw [ih];rfl
theorem Fs:∀ {vs:List Value} {ns:List Int},intsOf vs=some ns->IntsAre vs ns
 |[],_,h=>by cases h;exact .nil
 | .int n t::r,_,h=>by
  have h':(intsOf r).map (n :: ·)=some _:=h
  cases e:intsOf r with
  |none=>rw [e] at h';cases h'
  |some ms=>rw [e] at h';cases h';exact .cons n t (Fs e)
 | .none::_,_,h=>by cases h
 | .ellipsis::_,_,h=>by cases h
 | .notImplemented::_,_,h=>by cases h
 | .bool _::_,_,h=>by cases h
 | .float _ _::_,_,h=>by cases h
 | .str _ _::_,_,h=>by cases h
 | .bytes _ _::_,_,h=>by cases h
 | .type _::_,_,h=>by cases h
 | .builtin _::_,_,h=>by cases h
 | .ref _::_,_,h=>by cases h
theorem G8 {h:Heap}{t:Addr}{ws:List Value}{ns:List Int}(p:IsTup h t ws.toArray)(q:IntsAre ws ns):cI h (.ref t)=some ns:=by
 obtain ⟨⟨c,d,dt,sl⟩,ho,hc,n,hd⟩:=p
 simp only at hc hd
 subst hc hd
 show (match h.get? t with | some ⟨.type "tuple",_,.seq vs _,_⟩=>intsOf vs.toList | _=>none)=_
 rw [ho]
 exact ints_of q
theorem oM {h:Heap}{v:Value}{ns:List Int}(e:cI h v=some ns):∃ t ws,v=.ref t/\IsTup h t ws.toArray/\IntsAre ws ns:=by
 unfold cI at e
 split at e
 next t =>
  split at e
  next o d vs n sl ho=>exact ⟨t,vs.toList,rfl,⟨_,ho,rfl,n,by rw [Array.toArray_toList]⟩,Fs e⟩
  next=>cases e
 next=>cases e
section
variable {prog:Program}{w:World}{A:Around}{E:Value->Shared->Prop}{s:Shared}
theorem wX {t:Addr}{ws:Array Value}{Q:Array Value->Shared->Prop}(p:IsTup s.heap t ws)(h:Q ws s):wpAny (model prog w) A (Builtin.List.listItems (.ref t)) Q E s:=by
 obtain ⟨o,ho,hc,n,hd⟩:=p
 exact listItems_at ho hd h
theorem R6 {a b:Int}{t u:Tok}{Q:Bool->Shared->Prop}(h:Q (decide (a<b)) s):wpAny (model prog w) A (oneLt' false (.int a t) (.int b u)) Q E s:=by
 rw [oneLt'_eq]
 simp only [Bool.false_eq_true,if_false]
 refine wpAny_bind ?_
 exact wpAny_lt_int (wpAny_truthy_bool h)
theorem R7 {a b:Int}{t u:Tok}{c:Bool}{Q:Bool->Shared->Prop}(h:Q (decide (a<b)) s):wpAny (model prog w) A (oneLt' c (.int a t) (.int b u)) Q E s:=by
 cases c with
 |true=>exact oneLt_int h
 |false=>exact R6 h
theorem Ft {g:((Value×Value)×Nat)->(Option Bool×Unit)->Sem (ForInStep (Option Bool×Unit))}
  (hg:∀ (m n:Int) (t t':Tok) (i:Nat) (Q:ForInStep (Option Bool×Unit)->Shared->Prop),(m ≠ n->Q (.done (some (decide (m<n)),())) s)->(m=n->Q (.yield (none,())) s)->wpAny (model prog w) A (g ((.int m t,.int n t'),i) (none,())) Q E s) :
  ∀ {us vs:List Value} {ms ns:List Int},IntsAre us ms->IntsAre vs ns->∀ (k:Nat) (Q:Option Bool×Unit->Shared->Prop),(lexLt ms ns=decide (us.length<vs.length)->Q (none,()) s)->Q (some (lexLt ms ns),()) s ->
   wpAny (model prog w) A (forIn ((us.zip vs).zipIdx k) ((none,()):Option Bool×Unit) g) Q E s
 |[],[],_,_,.nil,.nil,k,Q,h,_=>wpAny_pure (h rfl)
 |[],_::_,_,_,.nil,.cons n t hr,k,Q,h,_=>wpAny_pure (h (by rw [decide_eq_true (by simp)];rfl))
 |_::_,[],_,_,.cons n t hr,.nil,k,Q,h,_=>wpAny_pure (h (by rw [decide_eq_false (by simp)];rfl))
 |_::us,_::vs,_,_,.cons m t hu,.cons n t' hv,k,Q,h,h2=>by
  rw [List.zip_cons_cons,List.zipIdx_cons,List.forIn_cons]
  unfold lexLt at h h2
  refine wpAny_bind (hg m n t t' k _ (fun e=>?_) (fun e=>?_))
  ·rw [if_neg e] at h2
   exact wpAny_pure h2
  ·rw [if_pos e] at h h2
   exact Ft hg hu hv (k+1) Q (fun z=>h (by rw [z];simp)) h2
theorem QB:gM prog w A E s (tuples' true) (iX s.heap) where
 lt st x y Q hk k1 k2 h:=by
  obtain ⟨ms,e1⟩:=Option.isSome_iff_exists.mp k1
  obtain ⟨ns,e2⟩:=Option.isSome_iff_exists.mp k2
  have f1:kf (iX s.heap) x=ms:=by unfold kf;rw [e1];rfl
  have f2:kf (iX s.heap) y=ns:=by unfold kf;rw [e2];rfl
  rw [f1,f2] at h
  obtain ⟨t,us,ex,px,ix⟩:=oM e1
  obtain ⟨t',vs,ey,py,iy⟩:=oM e2
  rw [lt'_eq]
  refine wpS_bind (wpS_get ?_)
  rw [hk,ex,ey]
  refine wpS_bind (wpS_lift (wpAny_attempt ?_))
  refine wpAny_bind (wX px (wpAny_bind (wX py ?_)))
  refine wpAny_bind (Ft (fun m n t t' i Q q1 q2=>?_) ix iy 0 _ (fun e=>?_) ?_)
  ·refine wpAny_bind (wpAny_eqBool_int ?_)
   by_cases e:m=n
   ·rw [show (m==n)=true by simpa using e]
    exact wpAny_pure (q2 e)
   ·rw [show (m==n)=false by simpa using e]
    exact wpAny_bind (R7 (wpAny_pure (q1 e)))
  ·show wpAny _ _ (pure (decide (us.toArray.size<vs.toArray.size))) _ _ _
   refine wpAny_pure ⟨rfl,wpS_pure ?_⟩
   rw [List.size_toArray,List.size_toArray,<- e]
   exact h
  ·exact wpAny_pure ⟨rfl,wpS_pure h⟩
theorem G9:∀ {vs:List Value},(∀ v ∈ vs,∃ n ns,cI s.heap v=some (n::ns))->∀ Q:List (Option Value)->Shared->Prop,(∀ fs:List (Int×Tok),fs.length=vs.length->Q (fs.map fun p=>some (.int p.1 p.2)) s) ->
  wpAny (model prog w) A (vs.mapM firstOfTuple') Q E s
 |[],_,Q,h=>by rw [List.mapM_nil];exact wpAny_pure (h [] rfl)
 |v::vs,hv,Q,h=>by
  obtain ⟨n,ns,e⟩:=hv v (.head _)
  obtain ⟨t,ws,rfl,pt,it⟩:=oM e
  cases it with
  |cons _ tk it =>
   rw [List.mapM_cons]
   refine wpAny_bind ?_
   obtain ⟨o,ho,hc,m,hd⟩:=id pt
   refine wpAny_bind (wpAny_typeOf (T := "tuple") ⟨o,ho,hc⟩ ?_)
   rw [if_neg (by decide)]
   refine wpAny_bind (wX pt (wpAny_pure ?_))
   refine wpAny_bind (G9 (fun v j5=>hv v (.tail _ j5)) _ fun fs hf=>wpAny_pure ?_)
   exact h ((n,tk)::fs) (by rw [List.length_cons,List.length_cons,hf])
theorem DX:∀ (fs:List (Int×Tok)),(fs.map fun p=>Value.int p.1 p.2).mapM typeOf=pure (fs.map fun _=>Value.type "int")
 |[] => by simp
 |p::fs=>by
  rw [List.map_cons,List.mapM_cons,DX fs]
  show (pure (Value.type "int") >>= fun b=>pure _ >>= fun bs=>pure (b::bs))=_
  simp
theorem PH {vs:List Value}{Q:SortKind->Shared->Prop}(hv:∀ v ∈ vs,∃ n ns,cI s.heap v=some (n::ns))(ne:vs ≠ [])(h:Q (tuples' true) s):wpAny (model prog w) A (keyKind' vs.toArray) Q E s:=by
 rw [keyKind'_eq,List.mapM_toArray]
 refine wpAny_bind ?_
 rw [map_eq_pure_bind]
 refine wpAny_bind (G9 hv _ fun fs hf=>wpAny_pure ?_)
 rw [if_pos (by simp)]
 refine wpAny_bind (wpAny_rule ?_)
 have e1:((fs.map fun p=>some (Value.int p.1 p.2)).toArray.filterMap id)=(fs.map fun p=>Value.int p.1 p.2).toArray:=by
  simp [List.filterMap_map]
 rw [e1,oneTypeOnly'_eq,List.mapM_toArray,DX]
 simp only [map_pure,pure_bind]
 have h0:(fs.map fun _=>Value.type "int").toArray[0]?=some (Value.type "int"):=by
  cases fs with
  |nil =>
   cases vs with
   |nil=>exact absurd rfl ne
   |cons _ _=>cases hf
  |cons p fs=>simp
 have gy:((fs.map fun _=>Value.type "int").toArray.all fun x=>x==Value.type "int")=true:=by
  simp only [List.all_toArray,List.all_map,List.all_eq_true]
  intro _ _
  rfl
 rw [h0]
 simp only [gy,if_true,pure_bind]
 exact wpAny_pure h
end
end So
namespace So
open PySem PyProof.Rows
def kI (h:Heap)(v:Value):List Int:=(cI h v).getD []
def mB (h:Heap)(l:List Value):Prop:=l.Pairwise fun x y=>lexLt (kI h y) (kI h x)=false
section
variable {prog:Program}{w:World}{A:Around}{E:Value->Shared->Prop}{s:Shared}
theorem sY {h h':Heap} {v:Value} {ns:List Int} (e:cI h v=some ns) (k:∀ t o,v=.ref t->h.get? t=some o->o.cls=.type "tuple" -> h'.get? t=some o):cI h' v=some ns:=by
 obtain ⟨t,ws,rfl,⟨o,ho,hc,n,hd⟩,it⟩:=oM e
 exact G8 ⟨o,k t o rfl ho hc,hc,n,hd⟩ it
theorem mem_zip_self {α:Type}:∀ {l:List α} {p : α × α},p ∈ l.zip l->p.1=p.2/\p.1 ∈ l
 |x::l,p,h=>by
  rw [List.zip_cons_cons] at h
  rcases List.mem_cons.mp h with rfl | z
  ·exact ⟨rfl,.head _⟩
  ·have:=mem_zip_self z
   exact ⟨this.1,.tail _ this.2⟩
theorem Fu {α:Type}:∀ l:List α,(l.zip l).map Prod.snd=l
 |[] => rfl
 |x::l=>by rw [List.zip_cons_cons,List.map_cons,Fu l]
theorem DY {vs:List Value}{xs:Array Keyed}{h:Heap}(hp:xs.Perm (pairsOf vs))(hs:∀ i j,i<=j->j<(pairsOf vs).size->(iX h).kle (kA (iX h) xs i) (kA (iX h) xs j)) :
  (xs.map (·.2)).toList.Perm vs/\mB h (xs.map (·.2)).toList:=by
 have hl:xs.toList.Perm (vs.zip vs):=by
  have:=Array.perm_iff_toList_perm.mp hp
  unfold pairsOf at this
  rwa [Array.toList_zip] at this
 refine ⟨?_,?_⟩
 ·rw [Array.toList_map]
  have:=hl.map Prod.snd
  rwa [Fu] at this
 ·unfold mB
  rw [Array.toList_map,List.pairwise_map,List.pairwise_iff_getElem]
  intro i j hi hj bw
  have jm:j<(pairsOf vs).size:=by rw [<- hp.size_eq];rw [Array.length_toList] at hj;exact hj
  have:=hs i j (by omega) jm
  have gt:∀ c (hc:c<xs.toList.length),kA (iX h) xs c=kI h (xs.toList[c]).2:=fun c hc=>by
   have e:xs[c]?=some (xs.toList[c]):=by rw [<- Array.getElem?_toList,List.getElem?_eq_getElem hc]
   rw [bD e]
   have:=(mem_zip_self (hl.mem_iff.mp (List.getElem_mem hc))).1
   unfold kf kI
   rw [<- this]
   rfl
  rw [gt i hi,gt j hj] at this
  exact this
theorem Dg {a:Addr} {vs:List Value} {n:Nat} {P:Fin->Shared->Prop} (ho:s.heap.get? a=some (seqObj "list" vs.toArray n)) (hv:∀ v ∈ vs,∃ n ns,cI s.heap v=some (n::ns)) (uG:vs.length<128)
  (h:∀ out:Array Value,out.toList.Perm vs->mB s.heap out.toList->P (.done (.ret .none)) { s with heap:=sortedHeap s.heap a vs out }):wpAny (model prog w) A (Builtin.«list.sort» ⟨[.ref a],[]⟩) P E s:=by
 rw [list_sort_plain]
 have ha:a<s.heap.objs.size:=Heap.lt_size ho
 refine wpAny_bind (listItems_at ho rfl (wpAny_bind (listUpdate_at ho rfl ?_)))
 obtain ⟨e1,rX⟩:∃ e1,(s.heap.update a (Obj.mapSeq fun _=>#[])).get? a=some (seqObj "list" #[] e1):=⟨_,get?_update_seq ho (fun _=>#[])⟩
 refine wpAny_bind (seqEpoch_at rX rfl (wpAny_bind (wpAny_newTuple (wpAny_bind (wpAny_newList (wpAny_holding ?_))))))
 obtain ⟨hB,eB⟩:∃ hB,hB=((s.heap.update a (Obj.mapSeq fun _=>#[])).push (seqObj "tuple" vs.toArray 0)).push (seqObj "list" #[] 0):=⟨_,rfl⟩
 have mS:hB.get? a=some (seqObj "list" #[] e1):=by
  rw [eB,Heap.get?_push_ne _ _ _ (by rw [size_push',Heap.size_update];exact Nat.ne_of_lt (Nat.lt_succ_of_lt ha)),Heap.get?_push_ne _ _ _ (by rw [Heap.size_update];exact Nat.ne_of_lt ha)]
  exact rX
 have keep:∀ t o,s.heap.get? t=some o->t ≠ a->hB.get? t=some o:=fun t o e ne=>by
  have lt:=Heap.lt_size e
  rw [eB,Heap.get?_push_ne _ _ _ (by rw [size_push',Heap.size_update];exact Nat.ne_of_lt (Nat.lt_succ_of_lt lt)),Heap.get?_push_ne _ _ _ (by rw [Heap.size_update];exact Nat.ne_of_lt lt),(Heap.SameBut.update ..).2 t ne]
  exact e
 have keys:∀ v ns,cI s.heap v=some ns->cI hB v=some ns:=fun v ns e=>sY e fun t o _ ht hc=>keep t o ht fun z=>by
  rw [z,ho] at ht
  cases ht
  exact absurd (Value.type.inj hc) (by decide)
 have fin:∀ out:Array Value,out.toList.Perm vs->mB hB out.toList->P (.done (.ret .none)) { s with heap:=sortedHeap s.heap a vs out }:=fun out hp hs=>by
  refine h out hp (hs.imp_of_mem fun {x y} hx hy z=>?_)
  obtain ⟨n1,ns1,q1⟩:=hv x (hp.mem_iff.mp hx)
  obtain ⟨n2,ns2,q2⟩:=hv y (hp.mem_iff.mp hy)
  unfold kI at z ⊢
  rw [keys _ _ q1,keys _ _ q2] at z
  rw [q1,q2]
  exact z
 have last:∀ out:Array Value,out.size<=1000->sortedHeap s.heap a vs out=hB.update a (Obj.mapSeq fun _=>out):=fun out _=>by rw [eB];rfl
 show wpAny (model prog w) A _ P E { s with heap:=((s.heap.update a (Obj.mapSeq fun _=>#[])).push (seqObj "tuple" vs.toArray 0)).push (seqObj "list" #[] 0) }
 rw [<- eB]
 have bR:vs.toArray.size=vs.length:=by simp
 have line:sizeLine=16777216:=sizeLine_eq
 dsimp only
 by_cases h2:vs.toArray.size<2
 ·rw [if_pos h2,if_pos h2]
  refine wpAny_bind (wpAny_pure ?_)
  rw [StateT.run_pure]
  refine wpAny_bind (wpAny_pure ?_)
  dsimp only
  have pp:(pairsOf vs).Perm (pairsOf vs):=Array.Perm.refl _
  obtain ⟨f1,f2⟩:=DY (h:=hB) pp fun i j bw hj=>by
   rw [pairsOf_size] at hj
   have:i=j:=by omega
   subst this
   exact KeyOrd.kle_refl _
  have sz:((pairsOf vs).map (·.2)).size=vs.length:=by rw [Array.size_map,pairsOf_size]
  refine wpAny_bind (seqEpoch_at (s:={ s with heap:=hB }) mS rfl ?_)
  refine wpAny_bind (listUpdate_at (s:={ s with heap:=hB }) mS rfl ?_ (hsz2:=by show ((pairsOf vs).map (·.2)).size<=_;omega))
  simp only [bne_self_eq_false,Bool.false_eq_true,if_false]
  have:=fin _ f1 f2
  rw [last _ (by omega)] at this
  exact wpAny_pure this
 ·rw [if_neg h2,if_neg h2]
  refine wpAny_bind (PH (s:={ s with heap:=hB }) (fun v j5=>?_) (fun z=>by rw [z] at h2;simp at h2) ?_)
  ·obtain ⟨n,ns,e⟩:=hv v j5
   exact ⟨n,ns,keys _ _ e⟩
  have k0:Kd (iX hB) (pairsOf vs).toList:=fun x hx=>by
   unfold pairsOf at hx
   rw [Array.toList_zip] at hx
   obtain ⟨n,ns,e⟩:=hv x.1 (mem_zip_self hx).2
   show (cI hB x.1).isSome=true
   rw [keys _ _ e];rfl
  have run:=QA (prog:=prog) (w:=w) (A:=A) (E:=E) (s:={ s with heap:=hB }) (a0:=pairsOf vs) QB k0 (st:=SortSt.mk' (tuples' true) (pairsOf vs) #[] 7 none) ⟨Array.Perm.refl _,rfl,rfl,rfl,fun _ z=>absurd z (Nat.not_lt_zero _)⟩
   (Q:=fun _ af=>(arrOf af).Perm (pairsOf vs)/\failedOf af=none/\∀ i j,i<=j->j<(pairsOf vs).size->(iX hB).kle (kA (iX hB) (arrOf af) i) (kA (iX hB) (arrOf af) j)) (by rw [pairsOf_size];omega) (by rw [pairsOf_size];omega) fun af p1 p2 p3=>⟨p1,p2,p3⟩
  refine wpAny_bind (wpAny_mono run ?_ fun _ _ e=>e)
  rintro ⟨⟨⟩,af⟩ s' ⟨rfl,hp,hf,hs⟩
  dsimp only
  obtain ⟨f1,f2⟩:=DY hp hs
  have sz:((arrOf af).map (·.2)).size=vs.length:=by rw [Array.size_map,hp.size_eq,pairsOf_size]
  refine wpAny_bind (seqEpoch_at (s:={ s with heap:=hB }) mS rfl ?_)
  refine wpAny_bind (listUpdate_at (s:={ s with heap:=hB }) mS rfl ?_ (hsz2:=by show ((arrOf af).map (·.2)).size<=_;omega))
  rw [hf]
  simp only [bne_self_eq_false,Bool.false_eq_true,if_false]
  have:=fin _ f1 f2
  rw [last _ (by show ((arrOf af).map (·.2)).size<=1000;omega)] at this
  exact wpAny_pure this
theorem N4 {l:Addr}{vs:List Value}{Q:Value->Shared->Prop}(hl:s.heap.IsList l vs.toArray)(hv:∀ v ∈ vs,∃ n ns,cI s.heap v=some (n::ns))(uG:vs.length<128)
  (h:∀ out:Array Value,out.toList.Perm vs->mB s.heap out.toList->Q (.ref (s.heap.objs.size+1)) { s with heap:=sortedAll s.heap vs out }):wpAny (model prog w) A (call (.builtin "sorted") [.ref l]) Q E s:=by
 refine Calls.call_function_entry kind_sorted plain_sorted entry_sorted (args_sorted1 _) ?_
 unfold Builtin.«sorted»
 refine wpAny_bind (m:=checkCount "sorted" 1 1 _) (wpAny_pure (wpAny_bind (collect_list hl (wpAny_bind (wpAny_newList ?_)))))
 have z1:((s.heap.push (seqObj "list" #[] 0)).update s.heap.objs.size (Obj.mapSeq (·++vs.toArray))).objs.size=s.heap.objs.size+1:=by
  rw [Heap.size_update,size_push']
 obtain ⟨hC,eC⟩:∃ hC,hC=((s.heap.push (seqObj "list" #[] 0)).update s.heap.objs.size (Obj.mapSeq (·++vs.toArray))).push (seqObj "list" vs.toArray 0):=⟨_,rfl⟩
 have kM:hC.get? (s.heap.objs.size+1)=some (seqObj "list" vs.toArray 0):=by
  rw [eC,<- z1];exact Heap.get?_push_size _ rfl
 have keep:∀ t o,s.heap.get? t=some o->hC.get? t=some o:=fun t o e=>by
  have lt:=Heap.lt_size e
  rw [eC,Heap.get?_push_ne _ _ _ (by rw [z1];exact Nat.ne_of_lt (Nat.lt_succ_of_lt lt)),(Heap.SameBut.update ..).2 t (Nat.ne_of_lt lt),Heap.get?_push_ne _ _ _ (Nat.ne_of_lt lt)]
  exact e
 have keys:∀ v ns,cI s.heap v=some ns->cI hC v=some ns:=fun v ns e=>sY e fun t o _ ht _=>keep t o ht
 show wpAny _ _ _ _ _ { s with heap:=((s.heap.push (seqObj "list" #[] 0)).update s.heap.objs.size (Obj.mapSeq (·++vs.toArray))).push (seqObj "list" vs.toArray 0) }
 rw [z1,<- eC]
 refine wpAny_bind (wpAny_holding (wpAny_call_entry slot_list_sort ⟨_,kM,rfl⟩ entry_list_sort (Dg (s:={ s with heap:=hC }) kM (fun v j5=>?_) uG fun out p1 p2=>⟨_,rfl,?_⟩) (args_list_sort _)))
 ·obtain ⟨n,ns,e⟩:=hv v j5
  exact ⟨n,ns,keys _ _ e⟩
 ·refine wpAny_pure ⟨_,rfl,?_⟩
  have:=h out p1 (p2.imp_of_mem fun {x y} hx hy z=>?_)
  ·unfold sortedAll at this
   rw [<- eC] at this
   exact this
  ·obtain ⟨n1,ns1,q1⟩:=hv x (p1.mem_iff.mp hx)
   obtain ⟨n2,ns2,q2⟩:=hv y (p1.mem_iff.mp hy)
   unfold kI at z ⊢
   rw [keys _ _ q1,keys _ _ q2] at z
   rw [q1,q2]
   exact z
end
end So
namespace L2
open PySem PySem.Spec PyProof.Rows
def addrOf:Value->Addr
 | .ref a=>a
 |_=>0
theorem wY {l:List Value}{ks:List Addr}(h:l.Perm (ks.map Value.ref)):∃ as:List Addr,as.Perm ks/\l=as.map Value.ref:=by
 refine ⟨l.map addrOf,?_,?_⟩
 ·have:=h.map addrOf
  rw [List.map_map] at this
  rwa [show ks.map (addrOf ∘ Value.ref)=ks from (List.map_congr_left (g:=id) fun _ _=>rfl).trans (List.map_id ks)] at this
 ·rw [List.map_map]
  refine ((List.map_congr_left (g:=id) fun v hv=>?_).trans (List.map_id l)).symm
  obtain ⟨a,_,rfl⟩:=List.mem_map.mp (h.mem_iff.mp hv)
  rfl
theorem wZ:∀ as:List Addr,Vals (as.map V.ref) (as.map Value.ref)
 |[] => .nil
 |a::as=>.cons rfl (wZ as)
end L2
namespace L2
open PySem PySem.Spec PyProof.Rows
theorem Er {K:PySem.W.Frag}{G H:Hp}:∀ {ns:List Int} {vs:List V} {fq:List Addr},aE K G H (ns.map fun n=>Tr.fz (di n)) vs fq->vs=ns.map V.int/\fq=[]
 |[],vs,fq,h=>h
 |n::ns,vs,fq,h=>by
  obtain ⟨v,r,f1,f2,rfl,rfl,⟨rfl,h1⟩,h2⟩:=h
  obtain ⟨rfl,rfl⟩:=Er h2
  rw [aB h1]
  exact ⟨rfl,rfl⟩
end L2
namespace L2
open PySem PySem.Spec PyProof.Rows
theorem cT.Uw {K:PySem.W.Frag}{G0 H0 G H:Hp}{ρ:En}{σ:St}{fp:List Addr}{j:Nat}{t:Tr}(r:cT K G0 H0 G H ρ σ fp)(hj : ρ[j]?=some (some t)) :
  ∃ v f,σ[j]?=some (some v)/\Ow K G H t v f/\f.Nodup/\∀ H2 t2,Md f H H2->Ow K G H2 t2 v f->RS K G0 H0 G H2 (ρ.set j (some t2)) σ:=by
 obtain ⟨v,f,fr,a1,a2,a3,a4⟩:=r.own.split hj
 have cZ:=List.nodup_append.mp (a4.nodup_iff.mp r.d)
 have jY:∀ a ∈ f,a ∈ fp:=fun a ha=>a4.mem_iff.mpr (List.mem_append_left _ ha)
 have ltj:j < ρ.length:=(List.getElem?_eq_some_iff.mp hj).1
 refine ⟨v,f,a1,a2,cZ.1,fun H2 t2 m o2=>?_⟩
 have q3:aL K G H2 (ρ.set j none) σ fr:=a3.agree fun a ha=>by
  obtain ⟨o,ho⟩:=a3.there a ha
  rw [m a o (fun z=>cZ.2.2 a z a ha rfl) ho,ho]
 obtain ⟨Ah,p1,p2⟩:=q3.put (pH ltj) o2
 rw [List.set_set,pU a1] at p1
 have pm:∀ a,a ∈ Ah->a ∈ fp:=fun a ha=>a4.mem_iff.mpr (p2.mem_iff.mp ha)
 exact ⟨Ah,⟨r.st.g,fun b u hb=>m b u (fun z=>by rw [r.n b (jY b z)] at hb;cases hb) (r.st.h b u hb),fun b u hb=>m b u (fun z=>by rw [r.g b (jY b z)] at hb;cases hb) (r.st.s b u hb),r.st.n⟩,p1,fun a ha=>r.g a (pm a ha),fun a ha=>r.n a (pm a ha),p2.nodup_iff.mpr (a4.nodup_iff.mp r.d)⟩
theorem PJ {K:PySem.W.Frag}{G H:Hp}(l:List Int):aE K G H (l.map fun n=>Tr.fz (di n)) (l.map V.int) []:=by
 have:=(lD (K:=K) (G:=G) (ns:=l)).hG (H:=H)
 rw [gQ] at this
 exact this
end L2
namespace Ts
open PySem PySem.SetTable
def jn (m:Nat)(p:Probe):Probe:=if p.more > 0 then { p with j:=p.j+1,more:=p.more-1 } else
 { p with j:=(leap m p.i p.perturb).1,more:=runEnd m (leap m p.i p.perturb).1-(leap m p.i p.perturb).1,i:=(leap m p.i p.perturb).1,perturb:=(leap m p.i p.perturb).2 }
def dY (m i pt:Nat):Probe:={ j:=i,more:=runEnd m i-i,i:=i,perturb:=pt,dummy:=none }
def p0 (m:Nat)(h:Int):Probe:=dY m (bits h % (m+1)) (bits h)
def go (m:Nat):Nat->Probe->Probe
 |0,p=>p
 |n+1,p=>go m n (jn m p)
theorem qv (m:Nat):∀ a b p,go m (a+b) p=go m b (go m a p)
 |0,b,p=>by rw [Nat.zero_add];rfl
 |a+1,b,p=>by rw [Nat.add_right_comm];exact qv m a b _
theorem tY (m i pt:Nat):∀ k r j,k<=r->go m k ⟨j,r,i,pt,none⟩=⟨j+k,r-k,i,pt,none⟩
 |0,r,j,_=>rfl
 |k+1,r,j,h=>by
  show go m k (jn m _)=_
  have e:jn m ⟨j,r,i,pt,none⟩=⟨j+1,r-1,i,pt,none⟩:=by unfold jn;rw [if_pos (show r > 0 by omega)]
  rw [e,tY m i pt k (r-1) (j+1) (by omega),show j+1+k=j+(k+1) by omega,show r-1-k=r-(k+1) by omega]
theorem Jn (m i:Nat):runEnd m i-i<=9:=by unfold runEnd;split<;>omega
theorem Hc {m i:Nat}(h:i<=m):i<=runEnd m i/\runEnd m i<=m:=by unfold runEnd;split<;>omega
theorem xJ (m i pt:Nat):go m (runEnd m i-i+1) (dY m i pt)=dY m (leap m i pt).1 (leap m i pt).2:=by
 rw [qv]
 unfold dY
 rw [tY m i pt _ _ _ (Nat.le_refl _),Nat.sub_self]
 rw [show ∀ p,go m 1 p=jn m p from fun _=>rfl]
 unfold jn
 rw [if_neg (Nat.lt_irrefl 0)]
def lp (m:Nat):Nat->Nat×Nat->Nat×Nat
 |0,s=>s
 |n+1,s=>lp m n (leap m s.1 s.2)
theorem Ip (m:Nat):∀ L i pt,∃ n,n<=10*L/\go m n (dY m i pt)=dY m (lp m L (i,pt)).1 (lp m L (i,pt)).2
 |0,i,pt=>⟨0,by omega,rfl⟩
 |L+1,i,pt=>by
  obtain ⟨n,h1,h2⟩:=Ip m L (leap m i pt).1 (leap m i pt).2
  have:=Jn m i
  exact ⟨runEnd m i-i+1+n,by omega,by rw [qv,xJ,h2];rfl⟩
theorem Hd (m:Nat):∀ a b s,lp m (a+b) s=lp m b (lp m a s)
 |0,b,s=>by rw [Nat.zero_add];rfl
 |a+1,b,s=>by rw [Nat.add_right_comm];exact Hd m a b _
theorem Iq (m:Nat):∀ L s,(lp m L s).2=s.2 / 32 ^ L
 |0,s=>by show s.2=s.2 / 32 ^ 0;rw [Nat.pow_zero,Nat.div_one]
 |L+1,s=>by
  show (lp m L _).2=_
  rw [Iq m L,Nat.pow_succ,Nat.mul_comm,<- Nat.div_div_eq_div_mul]
  rfl
theorem Ir (m:Nat):∀ L s,s.1<=m->(lp m L s).1<=m
 |0,s,h=>h
 |L+1,s,h=>Ir m L _ (Nat.le_of_lt_succ (Nat.mod_lt _ (Nat.succ_pos m)))
def it (m:Nat):Nat->Nat->Nat
 |0,i=>i
 |k+1,i=>it m k ((i*5+1) % (m+1))
theorem tZ (m:Nat):∀ a b i,it m (a+b) i=it m b (it m a i)
 |0,b,i=>by rw [Nat.zero_add];rfl
 |a+1,b,i=>by rw [Nat.add_right_comm];exact tZ m a b _
theorem Fv (m:Nat):∀ k i,lp m k (i,0)=(it m k i,0)
 |0,i=>rfl
 |k+1,i=>by
  show lp m k ((i*5+1+0 / 32) % (m+1),0 / 32)=_
  rw [Nat.zero_div,Nat.add_zero]
  exact Fv m k _
def Good (m:Nat):Prop:=m=7\/m=31\/m=127
theorem orb {m:Nat}(hm:Good m):it m (m+1) 0=0/\∀ j,j<=m->∃ a,a<=m/\it m a 0=j:=by
 have key:∀ m,it m (m+1) 0=0->((List.range (m+1)).all fun j=>((List.range (m+1)).map fun a=>it m a 0).contains j)=true->it m (m+1) 0=0/\∀ j,j<=m->∃ a,a<=m/\it m a 0=j:=fun m h1 h2=>⟨h1,fun j hj=>by
  have:=List.all_eq_true.mp h2 j (List.mem_range.mpr (by omega))
  obtain ⟨a,ha,e⟩:=List.mem_map.mp (List.contains_iff_mem.mp this)
  exact ⟨a,by have:=List.mem_range.mp ha;omega,e⟩⟩
 rcases hm with rfl | rfl | rfl<;>exact key _ (by decide +kernel) (by decide +kernel)
theorem cover {m i pt j:Nat}(hm:Good m)(hp:pt<2 ^ 64)(hi:i<=m)(hj:j<=m):∃ L,L<=m+13/\(lp m L (i,pt)).1=j:=by
 obtain ⟨o1,o2⟩:=orb hm
 have z:(lp m 13 (i,pt)).2=0:=by
  rw [Iq]
  exact Nat.div_eq_of_lt (Nat.lt_of_lt_of_le hp (by decide))
 have l:=Ir m 13 (i,pt) hi
 generalize hs:lp m 13 (i,pt)=s at z l
 obtain ⟨i',pt'⟩:=s
 dsimp only at z l
 subst z
 obtain ⟨a,ha,ea⟩:=o2 i' l
 obtain ⟨b,hb,eb⟩:=o2 j hj
 have:∃ k,k<=m/\it m k i'=j:=by
  rcases Nat.le_total a b with h | h
  ·exact ⟨b-a,by omega,by rw [<- ea,<- tZ,show a+(b-a)=b by omega,eb]⟩
  ·rcases Nat.eq_or_lt_of_le h with h | h
   ·subst h
    exact ⟨0,by omega,by show i'=j;rw [<- ea,eb]⟩
   ·exact ⟨m+1-a+b,by omega,by rw [<- ea,<- tZ,show a+(m+1-a+b)=(m+1)+b by omega,tZ,o1,eb]⟩
 obtain ⟨k,hk,e⟩:=this
 exact ⟨13+k,by omega,by rw [Hd,hs,Fv,e]⟩
theorem An:∀ (n:Nat) (ns:List Nat),(∀ j,j<n->j ∈ ns)->n<=ns.length
 |0,_,_=>Nat.zero_le _
 |n+1,ns,h=>by
  have hn:=h n (Nat.lt_succ_self n)
  have:=An n (ns.erase n) fun j hj=>(List.mem_erase_of_ne (by omega)).mpr (h j (by omega))
  rw [List.length_erase_of_mem hn] at this
  have:=List.length_pos_of_mem hn
  omega
theorem least {p:Nat->Prop}:∀ {n:Nat},p n->∃ k,k<=n/\p k/\∀ i,i<k->¬ p i:=by
 intro n
 induction n using Nat.strongRecOn with
 |_ n ih =>
  intro hn
  by_cases h:∃ i,i<n/\p i
  ·obtain ⟨i,hi,pi⟩:=h
   obtain ⟨k,h1,h2,h3⟩:=ih i hi pi
   exact ⟨k,by omega,h2,h3⟩
  ·exact ⟨n,Nat.le_refl _,hn,fun i hi pi=>h ⟨i,hi,pi⟩⟩
def jo (m:Nat)(ns:List Nat)(h:Int)(j:Nat):Prop:=∃ n,n<10*turns m/\(go m n (p0 m h)).j=j/\∀ k,k<n->(go m k (p0 m h)).j ∈ ns
theorem jo.mono {m:Nat}{ns jQ:List Nat}{h:Int}{j:Nat}(r:jo m ns h j)(s:∀ x ∈ ns,x ∈ jQ):jo m jQ h j :=
 let ⟨n,a,b,c⟩:=r;⟨n,a,b,fun k hk=>s _ (c k hk)⟩
theorem Fw (h:Int):bits h<2 ^ 64:=by
 unfold bits
 have:=Int.emod_lt_of_pos h (show (0:Int)<2 ^ 64 by decide)
 have:=Int.emod_nonneg h (show (2 ^ 64:Int) ≠ 0 by decide)
 omega
theorem PK {m:Nat}{ns:List Nat}(hm:Good m)(h:Int)(hl:ns.length<=m):∃ j,j ∉ ns/\j<=m/\jo m ns h j:=by
 obtain ⟨j0,h0,h1⟩:∃ j,j<=m/\j ∉ ns:=by
  apply Classical.byContradiction
  intro z
  have:=An (m+1) ns fun j hj=>Classical.byContradiction fun q=>z ⟨j,by omega,q⟩
  omega
 obtain ⟨L,hL,eL⟩:=cover (pt:=bits h) (i:=bits h % (m+1)) hm (Fw h) (Nat.le_of_lt_succ (Nat.mod_lt _ (Nat.succ_pos m))) h0
 obtain ⟨n,hn,en⟩:=Ip m L (bits h % (m+1)) (bits h)
 have hpn:(go m n (p0 m h)).j ∉ ns:=by
  show (go m n (dY m _ _)).j ∉ ns
  rw [en]
  show (lp m L _).1 ∉ ns
  rw [eL];exact h1
 obtain ⟨k,k1,k2,k3⟩:=least (p:=fun n=>(go m n (p0 m h)).j ∉ ns) hpn
 refine ⟨(go m k (p0 m h)).j,k2,?_,k,?_,rfl,fun i hi=>Classical.byContradiction fun q=>k3 i hi q⟩
 ·have key:∀ n i pt,i<=m->(go m n (dY m i pt)).j<=m:=by
   intro n
   induction n using Nat.strongRecOn with
   |_ n ih =>
    intro i pt hi
    have:=Hc hi
    rcases Nat.lt_or_ge (runEnd m i-i) n with h | h
    ·rw [show n=runEnd m i-i+1+(n-(runEnd m i-i+1)) by omega,qv,xJ]
     exact ih _ (by omega) _ _ (Nat.le_of_lt_succ (Nat.mod_lt _ (Nat.succ_pos m)))
    ·unfold dY
     rw [tY m i pt n _ _ h]
     show i+n<=m
     omega
  exact key k _ _ (Nat.le_of_lt_succ (Nat.mod_lt _ (Nat.succ_pos m)))
 ·show k<10*(m+15)
  omega
theorem w4 {t:SetTable}{ns:List Nat}{i j:Nat}(hp:t.place=ns.toArray)(up:ns.Pairwise (· < ·))(hi:ns[i]?=some j):t.slot j=.live i:=by
 have hl:=(List.getElem?_eq_some_iff.mp hi).1
 have ej:=(List.getElem?_eq_some_iff.mp hi).2
 have hb:below t.place j=i:=by
  rw [hp]
  refine L2.wU (by rw [List.size_toArray];omega) (fun q h1 h2=>?_) fun q h1 h2=>?_
  ·rw [List.size_toArray] at h2
   rw [L2.getD_list,List.getD_eq_getElem?_getD,List.getElem?_eq_getElem h2]
   have:=List.pairwise_iff_getElem.mp up q i h2 hl h1
   show ns[q]<j
   omega
  ·rw [List.size_toArray] at h2
   rw [L2.getD_list,List.getD_eq_getElem?_getD,List.getElem?_eq_getElem h2]
   show ¬ ns[q]<j
   rcases Nat.eq_or_lt_of_le h1 with h | h
   ·subst h;omega
   ·have:=List.pairwise_iff_getElem.mp up i q hl h2 h;omega
 unfold slot
 dsimp only
 rw [hb,hp,List.getElem?_toArray,hi,if_pos (by simp)]
theorem OG {t:SetTable}{ns:List Nat}{j:Nat}(hp:t.place=ns.toArray)(hd:t.dummies = #[])(hj:j ∉ ns):t.slot j=.empty:=by
 unfold slot
 dsimp only
 rw [if_neg,if_neg]
 ·rw [hd,show has #[] j=false from rfl];exact Bool.false_ne_true
 ·intro z
  have z:=eq_of_beq z
  rw [hp,List.getElem?_toArray] at z
  exact hj (List.mem_of_getElem? z)
theorem Ao (t:SetTable)(hashAt:Nat->Int)(h:Int):∀ n fuel p,n<fuel->(∀ k,k<n->∃ i,t.slot (go t.mask k p).j=.live i/\hashAt i ≠ h)->probe.go t hashAt h fuel p=probe.go t hashAt h (fuel-n) (go t.mask n p)
 |0,fuel,p,_,_=>rfl
 |n+1,0,p,hf,_=>by omega
 |n+1,fuel+1,p,hf,hk=>by
  obtain ⟨i,h1,h2⟩:=hk 0 (Nat.succ_pos n)
  have e:probe.go t hashAt h (fuel+1) p=probe.go t hashAt h fuel (jn t.mask p):=by
   conv=>lhs;unfold probe.go
   rw [show t.slot p.j=.live i from h1]
   dsimp only
   rw [if_neg (by simpa using h2)]
   rfl
  rw [e,Ao t hashAt h n fuel (jn t.mask p) (by omega) fun k fk=>hk (k+1) (by omega)]
  rw [show fuel+1-(n+1)=fuel-n by omega]
  rfl
abbrev Ent:=Nat×Int×Value
structure Tb (led:Bool) (t:SetTable) (L:List Ent):Prop where
 place:t.place=(L.map (·.1)).toArray
 rY:t.dummies = #[]
 plain:t.plain=true
 led:t.led=led
 mask:Good t.mask
 room:L.length*5<t.mask*3
 up:(L.map (·.1)).Pairwise (· < ·)
 le:∀ e ∈ L,e.1<=t.mask
 nd:(L.map (·.2.1)).Nodup
 rZ:∀ e ∈ L,jo t.mask (L.map (·.1)) e.2.1 e.1
theorem Tb.lt {led:Bool}{t:SetTable}{L:List Ent}(T:Tb led t L):L.length<=t.mask:=by have:=T.room;omega
theorem Tb.fits {led:Bool}{t:SetTable}{L:List Ent}(T:Tb led t L):t.fits (L.map (·.2)).toArray.size=true:=by
 unfold SetTable.fits SetTable.fill
 rw [T.place,T.rY]
 have:=T.lt
 simp
 omega
theorem Tb.hit {led:Bool}{t:SetTable}{L:List Ent}(T:Tb led t L){hashAt:Nat->Int}(hh:∀ i e,L[i]?=some e->hashAt i=e.2.1){i:Nat}{e:Ent}(hi:L[i]?=some e):∃ nx,t.probe hashAt e.2.1 (t.probeStart e.2.1)=some (.candidate e.1 i nx):=by
 obtain ⟨n,h1,h2,h3⟩:=T.rZ e (List.mem_of_getElem? hi)
 obtain ⟨n0,k1,k2,k3⟩:=least (p:=fun n=>(go t.mask n (p0 t.mask e.2.1)).j=e.1) h2
 have m7:(L.map (·.1))[i]?=some e.1:=by rw [List.getElem?_map,hi];rfl
 have key:=Ao t hashAt e.2.1 n0 (10*turns t.mask) (p0 t.mask e.2.1) (by omega) fun k hk=>by
  have hm:=h3 k (by omega)
  obtain ⟨q,hq,eq⟩:=List.getElem_of_mem hm
  have sd:q<L.length:=by rw [List.length_map] at hq;exact hq
  have e1:(L.map (·.1))[q]?=some (go t.mask k (p0 t.mask e.2.1)).j:=by rw [List.getElem?_eq_getElem hq,eq]
  refine ⟨q,w4 T.place T.up e1,fun z=>?_⟩
  rw [hh q L[q] (List.getElem?_eq_getElem sd)] at z
  have hil:=(List.getElem?_eq_some_iff.mp hi).1
  have ei:=(List.getElem?_eq_some_iff.mp hi).2
  have:q=i:=by
   refine (List.getElem_inj (xs:=L.map (·.2.1)) (h₀:=by rw [List.length_map];exact sd) (h₁:=by rw [List.length_map];exact hil) T.nd).mp ?_
   rw [List.getElem_map,List.getElem_map,z,ei]
  subst this
  rw [e1] at m7
  exact k3 k hk (Option.some.inj m7)
 refine ⟨t.advance (go t.mask n0 (p0 t.mask e.2.1)),?_⟩
 show probe.go t hashAt e.2.1 (10*turns t.mask) (p0 t.mask e.2.1)=_
 rw [key,show 10*turns t.mask-n0=(10*turns t.mask-n0-1)+1 by omega]
 unfold probe.go
 rw [k2,w4 T.place T.up m7]
 dsimp only
 rw [hh i e hi,if_pos (by simp)]
theorem Tb.miss {led:Bool}{t:SetTable}{L:List Ent}(T:Tb led t L){hashAt:Nat->Int}(hh:∀ i e,L[i]?=some e->hashAt i=e.2.1){h:Int}(hn:h ∉ L.map (·.2.1)):∃ j,t.probe hashAt h (t.probeStart h)=some (.empty j none)/\j ∉ L.map (·.1)/\j<=t.mask/\jo t.mask (L.map (·.1)) h j:=by
 obtain ⟨j,j1,j2,r⟩:=PK (ns:=L.map (·.1)) T.mask h (by rw [List.length_map];exact T.lt)
 refine ⟨j,?_,j1,j2,r⟩
 obtain ⟨n,h1,h2,h3⟩:=r
 have dn:∀ n i pt,(go t.mask n (dY t.mask i pt)).dummy=none:=by
  have:∀ n p,(go t.mask n p).dummy=p.dummy:=by
   intro n
   induction n with
   |zero=>intro p;rfl
   |succ n ih =>
    intro p
    show (go t.mask n (jn t.mask p)).dummy=_
    rw [ih]
    unfold jn
    split<;>rfl
  exact fun n i pt=>this n _
 have key:=Ao t hashAt h n (10*turns t.mask) (p0 t.mask h) (by omega) fun k hk=>by
  have hm:=h3 k (by omega)
  obtain ⟨q,hq,eq⟩:=List.getElem_of_mem hm
  have sd:q<L.length:=by rw [List.length_map] at hq;exact hq
  have e1:(L.map (·.1))[q]?=some (go t.mask k (p0 t.mask h)).j:=by rw [List.getElem?_eq_getElem hq,eq]
  refine ⟨q,w4 T.place T.up e1,fun z=>?_⟩
  rw [hh q L[q] (List.getElem?_eq_getElem sd)] at z
  exact hn (List.mem_map.mpr ⟨L[q],List.getElem_mem sd,z⟩)
 show probe.go t hashAt h (10*turns t.mask) (p0 t.mask h)=_
 rw [key,show 10*turns t.mask-n=(10*turns t.mask-n-1)+1 by omega]
 unfold probe.go
 rw [h2,OG T.place T.rY j1]
 dsimp only
 rw [show (go t.mask n (p0 t.mask h)).dummy=none from dn n _ _]
theorem He (j:Nat):∀ ns:List Nat,ns.Pairwise (· < ·)->∃ k,k<=ns.length/\(∀ x ∈ ns.take k,x<j)/\∀ x ∈ ns.drop k,¬ x<j
 |[],_=>⟨0,Nat.le_refl _,(fun x h=>nomatch h),fun x h=>nomatch h⟩
 |n::ns,h=>by
  rw [List.pairwise_cons] at h
  by_cases hn:n<j
  ·obtain ⟨k,h1,h2,h3⟩:=He j ns h.2
   refine ⟨k+1,by rw [List.length_cons];omega,fun x hx=>?_,h3⟩
   rw [List.take_succ_cons] at hx
   rcases List.mem_cons.mp hx with rfl | hx
   ·exact hn
   ·exact h2 x hx
  ·refine ⟨0,Nat.zero_le _,(fun x h=>nomatch h),fun x hx=>?_⟩
   rw [List.drop_zero] at hx
   rcases List.mem_cons.mp hx with rfl | hx
   ·exact hn
   ·have:=h.1 x hx;omega
theorem QC {ns:List Nat}{j k:Nat}(h0:k<=ns.length)(h1:∀ x ∈ ns.take k,x<j)(h2:∀ x ∈ ns.drop k,¬ x<j):below ns.toArray j=k:=by
 refine L2.wU (by rw [List.size_toArray];exact h0) (fun q a b=>?_) fun q a b=>?_
 ·rw [List.size_toArray] at b
  rw [L2.getD_list,List.getD_eq_getElem?_getD,List.getElem?_eq_getElem b]
  exact h1 _ (List.mem_iff_getElem?.mpr ⟨q,by rw [List.getElem?_take_of_lt a,List.getElem?_eq_getElem b];rfl⟩)
 ·rw [List.size_toArray] at b
  rw [L2.getD_list,List.getD_eq_getElem?_getD,List.getElem?_eq_getElem b]
  exact h2 _ (List.mem_iff_getElem?.mpr ⟨q-k,by rw [List.getElem?_drop,show k+(q-k)=q by omega,List.getElem?_eq_getElem b];rfl⟩)
def dP (L:List Ent)(k:Nat)(e:Ent):List Ent:=L.take k++[e]++L.drop k
theorem xK {L:List Ent}{k:Nat}{e x:Ent}:x ∈ dP L k e ↔ x=e\/x ∈ L:=by
 unfold dP
 simp only [List.mem_append,List.mem_singleton]
 conv=>rhs;rw [<- List.take_append_drop k L,List.mem_append]
 constructor
 ·rintro ((h | h) | h)
  ·exact .inr (.inl h)
  ·exact .inl h
  ·exact .inr (.inr h)
 ·rintro (h | h | h)
  ·exact .inl (.inr h)
  ·exact .inl (.inl h)
  ·exact .inr h
theorem Es (L:List Ent)(k:Nat)(e:Ent):(dP L k e).Perm (e::L):=by
 unfold dP
 rw [List.append_assoc,List.singleton_append]
 refine List.perm_middle.trans ?_
 rw [List.take_append_drop]
theorem Tb.put {led:Bool}{t:SetTable}{L:List Ent}(T:Tb led t L){h:Int}{j:Nat}{x:Value}(hn:h ∉ L.map (·.2.1))(j1:j ∉ L.map (·.1))(j2:j<=t.mask)(r:jo t.mask (L.map (·.1)) h j) :
  ∃ k,t.put j=({ t with place:=((dP L k (j,h,x)).map (·.1)).toArray },k)/\SetTable.insertAt (L.map (·.2)).toArray k (h,x)=((dP L k (j,h,x)).map (·.2)).toArray /\
   ((dP L k (j,h,x)).length*5<t.mask*3->Tb led { t with place:=((dP L k (j,h,x)).map (·.1)).toArray } (dP L k (j,h,x)))/\((dP L k (j,h,x)).map (·.1)).Pairwise (· < ·)/\((dP L k (j,h,x)).map (·.2.1)).Nodup:=by
 obtain ⟨k,k0,k1,k2⟩:=He j _ T.up
 have hb:below t.place j=k:=by rw [T.place];exact QC k0 k1 k2
 have up:((dP L k (j,h,x)).map (·.1)).Pairwise (· < ·):=by
  unfold dP
  rw [List.map_append,List.map_append,List.map_take,List.map_drop]
  rw [List.pairwise_append,List.pairwise_append]
  have hT:=T.up
  rw [<- List.take_append_drop k (L.map (·.1)),List.pairwise_append] at hT
  refine ⟨⟨hT.1,List.pairwise_singleton _ _,fun a ha b hb=>?_⟩,hT.2.1,fun a ha b hb=>?_⟩
  ·rw [List.mem_singleton.mp hb];exact k1 a ha
  ·rcases List.mem_append.mp ha with ha | ha
   ·exact hT.2.2 a ha b hb
   ·rw [List.mem_singleton.mp ha]
    have h1:=k2 b hb
    have h2:b ≠ j:=fun z=>j1 (z ▸ List.mem_of_mem_drop hb)
    show j<b
    omega
 have nd:((dP L k (j,h,x)).map (·.2.1)).Nodup:=by
  refine ((Es L k (j,h,x)).map (·.2.1)).nodup_iff.mpr ?_
  rw [List.map_cons,List.nodup_cons]
  exact ⟨hn,T.nd⟩
 refine ⟨k,?_,?_,fun hr=>?_,up,nd⟩
 ·unfold SetTable.put
  dsimp only
  rw [hb]
  have hh:has t.dummies j=false:=by rw [T.rY];rfl
  rw [hh]
  have:insertAt t.place k j=((dP L k (j,h,x)).map (·.1)).toArray:=by
   apply Array.ext'
   rw [SetTable.toList_insertAt,T.place]
   unfold dP
   rw [List.map_append,List.map_append,List.map_take,List.map_drop]
   simp
  rw [this]
  rfl
 ·apply Array.ext'
  rw [SetTable.toList_insertAt]
  unfold dP
  rw [List.map_append,List.map_append,List.map_take,List.map_drop]
  simp
 ·refine ⟨rfl,T.rY,T.plain,T.led,T.mask,hr,up,fun e he=>?_,nd,fun e he=>?_⟩
  ·rcases xK.mp he with rfl | he
   ·exact j2
   ·exact T.le e he
  ·have sub:∀ y ∈ L.map (·.1),y ∈ (dP L k (j,h,x)).map (·.1):=fun y hy=>by
    obtain ⟨q,hq,rfl⟩:=List.mem_map.mp hy
    exact List.mem_map.mpr ⟨q,xK.mpr (.inr hq),rfl⟩
   rcases xK.mp he with rfl | he
   ·exact r.mono sub
   ·exact (T.rZ e he).mono sub
end Ts
namespace Ts
open PySem PySem.SetTable
structure Ow (m:Nat) (hs:List Int) (ss:List Nat) (owner:Array (Option Nat)):Prop where
 len:ss.length=hs.length
 size:owner.size=m+1
 nd:ss.Nodup
 le:∀ s ∈ ss,s<=m
 own:∀ (j i:Nat),j<=m->(owner[j]?=some (some i) ↔ ss[i]?=some j)
 emp:∀ (j:Nat),j<=m->(owner[j]?=some none ↔ j ∉ ss)
 rZ:∀ (i s:Nat) (h:Int),ss[i]?=some s->hs[i]?=some h->jo m ss h s
theorem Ow.Ap {m:Nat}{hs:List Int}{ss:List Nat}{owner:Array (Option Nat)}(O:Ow m hs ss owner){j:Nat}(hj:j<=m):(owner.getD j (some 0)).isNone=true ↔ j ∉ ss:=by
 rw [<- O.emp j hj]
 have:j<owner.size:=by rw [O.size];omega
 rw [Array.getD_eq_getD_getElem?,Array.getElem?_eq_getElem this]
 show Option.isNone owner[j]=true ↔ some owner[j]=some none
 rw [Option.isNone_iff_eq_none]
 exact ⟨fun h=>by rw [h],fun h=>Option.some.inj h⟩
theorem PL {m:Nat}{hs:List Int}{ss:List Nat}{owner:Array (Option Nat)}(O:Ow m hs ss owner):∀ fuel L i pt,i<=m->L<fuel->(lp m L (i,pt)).1 ∉ ss ->
  ∃ n,n<10*fuel/\layClean.free m owner fuel i pt=some (go m n (dY m i pt)).j/\(go m n (dY m i pt)).j ∉ ss/\(go m n (dY m i pt)).j<=m/\∀ k,k<n->(go m k (dY m i pt)).j ∈ ss:=by
 intro fuel
 induction fuel with
 |zero=>intro L i pt _ h;omega
 |succ fuel ih =>
  intro L i pt hi hL hn
  have r:=Hc hi
  have r9:=Jn m i
  have at_:∀ k,k<=runEnd m i-i->(go m k (dY m i pt)).j=i+k:=fun k hk=>by
   unfold dY
   rw [tY m i pt k _ _ hk]
  unfold layClean.free
  cases hf:(List.range (runEnd m i+1-i)).find? fun k=>(owner.getD (i+k) (some 0)).isNone with
  |some k =>
   dsimp only
   obtain ⟨h1,h2,h3⟩:=List.find?_range_eq_some.mp hf
   have hk:=List.mem_range.mp h2
   have e:=at_ k (by omega)
   refine ⟨k,by omega,by rw [e],by rw [e];exact (O.Ap (by omega)).mp h1,by rw [e];omega,fun q hq=>?_⟩
   rw [at_ q (by omega)]
   have:=h3 q hq
   exact Classical.byContradiction fun z=>by
    rw [(O.Ap (by omega)).mpr z] at this
    cases this
  |none =>
   dsimp only
   have h3:=List.find?_range_eq_none.mp hf
   have KN:∀ k,k<=runEnd m i-i->i+k ∈ ss:=fun k hk=>Classical.byContradiction fun z=>by
    have:=h3 k (by omega)
    rw [(O.Ap (by omega)).mpr z] at this
    cases this
   cases L with
   |zero=>exact absurd (KN 0 (Nat.zero_le _)) hn
   |succ L =>
    obtain ⟨n,a1,a2,a3,a4,a5⟩:=ih L (leap m i pt).1 (leap m i pt).2 (Nat.le_of_lt_succ (Nat.mod_lt _ (Nat.succ_pos m))) (by omega) hn
    have eg:∀ q,go m (runEnd m i-i+1+q) (dY m i pt)=go m q (dY m (leap m i pt).1 (leap m i pt).2):=fun q=>by rw [qv,xJ]
    refine ⟨runEnd m i-i+1+n,by omega,by rw [eg];exact a2,by rw [eg];exact a3,by rw [eg];exact a4,fun q hq=>?_⟩
    rcases Nat.lt_or_ge (runEnd m i-i) q with z | z
    ·rw [show q=runEnd m i-i+1+(q-(runEnd m i-i+1)) by omega,eg]
     exact a5 _ (by omega)
    ·rw [at_ q z]
     exact KN q z
theorem Eu {α β:Type}{f g : α->Option β}:∀ {l:List α},(∀ x ∈ l,f x=g x)->l.filterMap f=l.filterMap g
 |[],_=>rfl
 |a::l,h=>by
  rw [List.filterMap_cons,List.filterMap_cons,h a (List.mem_cons_self ..),Eu fun x hx=>h x (List.mem_cons_of_mem _ hx)]
def qF (m:Nat)(acc:Option (Array (Option Nat)×Nat))(h:Int):Option (Array (Option Nat)×Nat):=do
 let (owner,k) <- acc
 let j <- layClean.free m owner (turns m) (bits h % (m+1)) (bits h)
 pure (owner.setIfInBounds j (some k),k+1)
theorem R8 {m:Nat}{hs:List Int}{ss:List Nat}{owner:Array (Option Nat)}(hm:Good m)(O:Ow m hs ss owner)(h:Int)(hl:hs.length<=m):∃ j,qF m (some (owner,ss.length)) h=some (owner.setIfInBounds j (some ss.length),ss.length+1)/\Ow m (hs++[h]) (ss++[j]) (owner.setIfInBounds j (some ss.length)):=by
 obtain ⟨j0,h0,h1⟩:∃ j,j<=m/\j ∉ ss:=by
  apply Classical.byContradiction
  intro z
  have:=An (m+1) ss fun j hj=>Classical.byContradiction fun q=>z ⟨j,by omega,q⟩
  have:=O.len
  omega
 obtain ⟨L,hL,eL⟩:=cover (pt:=bits h) (i:=bits h % (m+1)) hm (Fw h) (Nat.le_of_lt_succ (Nat.mod_lt _ (Nat.succ_pos m))) h0
 obtain ⟨n,a1,a2,a3,a4,a5⟩:=PL O (turns m) L (bits h % (m+1)) (bits h) (Nat.le_of_lt_succ (Nat.mod_lt _ (Nat.succ_pos m))) (by show L<m+15;omega) (by rw [eL];exact h1)
 generalize hj:(go m n (dY m (bits h % (m+1)) (bits h))).j=j at a2 a3 a4
 refine ⟨j,?_,?_⟩
 ·unfold qF
  dsimp only [Option.bind_eq_bind,Option.bind_some]
  rw [a2]
  rfl
 ·have sj:j<owner.size:=by rw [O.size];omega
  refine ⟨by rw [List.length_append,List.length_append,O.len];rfl,by rw [Array.size_setIfInBounds];exact O.size,?_,fun s hs=>?_,fun q i hq=>?_,fun q hq=>?_,fun i s h' e1 e2=>?_⟩
  ·rw [List.nodup_append]
   exact ⟨O.nd,List.nodup_cons.mpr ⟨(fun z=>nomatch z),.nil⟩,fun a ha b hb z=>by rw [List.mem_singleton.mp hb] at z;exact a3 (z ▸ ha)⟩
  ·rcases List.mem_append.mp hs with hs | hs
   ·exact O.le s hs
   ·rw [List.mem_singleton.mp hs];exact a4
  ·rw [Array.getElem?_setIfInBounds]
   by_cases e:j=q
   ·subst e
    rw [if_pos rfl,if_pos sj]
    constructor
    ·intro z
     have:ss.length=i:=Option.some.inj (Option.some.inj z)
     subst this
     rw [List.getElem?_append_right (Nat.le_refl _),Nat.sub_self]
     rfl
    ·intro z
     rcases Nat.lt_or_ge i ss.length with hi | hi
     ·rw [List.getElem?_append_left hi] at z
      exact absurd (List.mem_of_getElem? z) a3
     ·rw [List.getElem?_append_right hi] at z
      have:i-ss.length=0:=by
       have:=(List.getElem?_eq_some_iff.mp z).1
       rw [List.length_singleton] at this
       omega
      have:i=ss.length:=by omega
      rw [this]
   ·rw [if_neg e,O.own q i hq]
    constructor
    ·intro z
     rw [List.getElem?_append_left (List.getElem?_eq_some_iff.mp z).1];exact z
    ·intro z
     rcases Nat.lt_or_ge i ss.length with hi | hi
     ·rw [List.getElem?_append_left hi] at z;exact z
     ·rw [List.getElem?_append_right hi] at z
      have:=List.mem_singleton.mp (List.mem_of_getElem? z)
      exact absurd this.symm e
  ·rw [Array.getElem?_setIfInBounds]
   by_cases e:j=q
   ·subst e
    rw [if_pos rfl,if_pos sj]
    exact ⟨fun z=>(nomatch Option.some.inj z),fun z=>absurd (by simp) z⟩
   ·rw [if_neg e,O.emp q hq]
    refine ⟨fun z z'=>?_,fun z z'=>z (List.mem_append_left _ z')⟩
    rcases List.mem_append.mp z' with z' | z'
    ·exact z z'
    ·exact e (List.mem_singleton.mp z').symm
  ·have sub:∀ x ∈ ss,x ∈ ss++[j]:=fun x hx=>List.mem_append_left _ hx
   rcases Nat.lt_or_ge i ss.length with hi | hi
   ·rw [List.getElem?_append_left hi] at e1
    rw [List.getElem?_append_left (by rw [<- O.len];exact hi)] at e2
    exact (O.rZ i s h' e1 e2).mono sub
   ·rw [List.getElem?_append_right hi] at e1
    rw [List.getElem?_append_right (by rw [<- O.len];exact hi)] at e2
    have q1:=List.mem_singleton.mp (List.mem_of_getElem? e1)
    have q2:=List.mem_singleton.mp (List.mem_of_getElem? e2)
    subst q1 q2
    exact ⟨n,a1,hj,fun k hk=>sub _ (a5 k hk)⟩
theorem Fx {m:Nat}(hm:Good m):∀ (rest hs:List Int) (ss:List Nat) (owner:Array (Option Nat)),Ow m hs ss owner->hs.length+rest.length<=m+1->∃ vm t4,rest.foldl (qF m) (some (owner,ss.length))=some (t4,vm.length)/\Ow m (hs++rest) vm t4
 |[],hs,ss,owner,O,_=>⟨ss,owner,rfl,by rw [List.append_nil];exact O⟩
 |h::rest,hs,ss,owner,O,hl=>by
  rw [List.length_cons] at hl
  obtain ⟨j,h1,h2⟩:=R8 hm O h (by omega)
  obtain ⟨vm,t4,h3,h4⟩:=Fx hm rest (hs++[h]) (ss++[j]) _ h2 (by rw [List.length_append,List.length_singleton];omega)
  refine ⟨vm,t4,?_,by rw [List.append_assoc] at h4;exact h4⟩
  rw [List.foldl_cons,h1,<- h3,List.length_append]
  rfl
theorem QD {m:Nat}(hm:Good m)(hs:Array Int)(hl:hs.size<=m+1):∃ ss owner,layClean m hs=some owner/\Ow m hs.toList ss owner:=by
 have O0:Ow m [] [] (Array.replicate (m+1) none):=by
  refine ⟨rfl,Array.size_replicate,.nil,(fun s h=>nomatch h),fun j i hj=>?_,fun j hj=>?_,fun i s h e=>by cases e⟩
  ·rw [Array.getElem?_replicate,if_pos (by omega)]
   exact ⟨fun z=>(nomatch Option.some.inj z),fun z=>(nomatch z)⟩
  ·rw [Array.getElem?_replicate,if_pos (by omega)]
   exact ⟨fun _ z=>(nomatch z),fun _=>rfl⟩
 obtain ⟨ss,owner,h1,h2⟩:=Fx hm hs.toList [] [] _ O0 (by simpa using hl)
 refine ⟨ss,owner,?_,by simpa using h2⟩
 show (hs.foldl (qF m) (some (Array.replicate (m+1) none,0)) |>.map (·.1))=some owner
 rw [<- Array.foldl_toList]
 have jT:hs.toList.foldl (qF m) (some (Array.replicate (m+1) none,0))=some (owner,ss.length):=h1
 rw [jT]
 rfl
theorem R9 {m:Nat}(hm:Good m){L:List Ent}(hl:L.length<=m+1)(nd:(L.map (·.2.1)).Nodup)(fg mv:Nat)(led plain:Bool) :
  ∃ (L':List Ent) (order:Array Nat),laid m fg mv led plain ((L.map (·.2)).toArray.map (·.1))=some ({ mask:=m,place:=(L'.map (·.1)).toArray,dummies:=#[],finger:=fg,led:=led,moves:=mv,plain:=plain },order)/\order.filterMap ((L.map (·.2)).toArray[·]?)=(L'.map (·.2)).toArray/\(L'.map (·.2)).Perm (L.map (·.2)) /\
   (L'.map (·.1)).Pairwise (· < ·)/\(∀ e ∈ L',e.1<=m)/\∀ e ∈ L',jo m (L'.map (·.1)) e.2.1 e.1:=by
 have eh:((L.map (·.2)).toArray.map (·.1)).toList=L.map (·.2.1):=by simp
 obtain ⟨ss,owner,h1,O⟩:=QD hm ((L.map (·.2)).toArray.map (·.1)) (by simpa using hl)
 rw [eh] at O
 have sl:ss.length=L.length:=by rw [O.len,List.length_map]
 obtain ⟨live,yB⟩:∃ live,live=(List.range (m+1)).filterMap fun j=>(owner.getD j none).map (j,·):=⟨_,rfl⟩
 have mem:∀ j i,(j,i) ∈ live ↔ ss[i]?=some j:=fun j i=>by
  rw [yB,List.mem_filterMap]
  constructor
  ·rintro ⟨q,hq,e⟩
   have hq:=List.mem_range.mp hq
   have sq:q<owner.size:=by rw [O.size];omega
   rw [Array.getD_eq_getD_getElem?,Array.getElem?_eq_getElem sq,Option.getD_some] at e
   obtain ⟨i',e1,e2⟩:=Option.map_eq_some_iff.mp e
   cases e2
   exact (O.own j i (by omega)).mp (by rw [Array.getElem?_eq_getElem sq,e1])
  ·intro e
   have hj:=O.le j (List.mem_of_getElem? e)
   have sq:j<owner.size:=by rw [O.size];omega
   refine ⟨j,List.mem_range.mpr (by omega),?_⟩
   have:=(O.own j i hj).mpr e
   rw [Array.getD_eq_getD_getElem?,this]
   rfl
 have lt:∀ q ∈ live,q.2<L.length:=fun q hq=>by
  have:=(List.getElem?_eq_some_iff.mp ((mem q.1 q.2).mp hq)).1
  omega
 have up:(live.map (·.1)).Pairwise (· < ·):=by
  rw [yB,List.pairwise_map,List.pairwise_filterMap]
  refine (List.pairwise_lt_range (n:=m+1)).imp fun {a b} bE x hx y hy=>?_
  obtain ⟨_,_,rfl⟩:=Option.map_eq_some_iff.mp hx
  obtain ⟨_,_,rfl⟩:=Option.map_eq_some_iff.mp hy
  exact bE
 obtain ⟨L',vo⟩:∃ L':List Ent,L'=live.map fun q=>(q.1,(L.getD q.2 (0,0,.none)).2):=⟨_,rfl⟩
 have e1:L'.map (·.1)=live.map (·.1):=by rw [vo,List.map_map];rfl
 have gd:∀ i,i<L.length->∃ e,L[i]?=some e/\L.getD i (0,0,.none)=e:=fun i hi=>⟨L[i],List.getElem?_eq_getElem hi,by rw [List.getD_eq_getElem?_getD,List.getElem?_eq_getElem hi];rfl⟩
 have uH:∀ e,e ∈ L' ↔ ∃ (i:Nat) (e0:Ent),ss[i]?=some e.1/\L[i]?=some e0/\e.2=e0.2:=fun e=>by
  rw [vo,List.mem_map]
  constructor
  ·rintro ⟨q,hq,rfl⟩
   obtain ⟨e0,z1,z2⟩:=gd q.2 (lt q hq)
   exact ⟨q.2,e0,(mem q.1 q.2).mp hq,z1,by show (L.getD q.2 _).2=_;rw [z2]⟩
  ·rintro ⟨i,e0,z1,z2,z3⟩
   refine ⟨(e.1,i),(mem e.1 i).mpr z1,?_⟩
   show (e.1,(L.getD i _).2)=e
   rw [List.getD_eq_getElem?_getD,z2,Option.getD_some,<- z3]
 have KO:(L'.map (·.2.1)).Nodup:=by
  rw [vo,List.map_map]
  unfold List.Nodup
  rw [List.pairwise_map]
  rw [List.pairwise_map] at up
  refine up.imp_of_mem fun {a b} ha hb bE z=>?_
  obtain ⟨ea,a1,a2⟩:=gd a.2 (lt a ha)
  obtain ⟨eb,b1,b2⟩:=gd b.2 (lt b hb)
  have z':ea.2.1=eb.2.1:=by rw [<- a2,<- b2];exact z
  have:a.2=b.2:=by
   refine (List.getElem_inj (xs:=L.map (·.2.1)) (h₀:=by rw [List.length_map];exact lt a ha) (h₁:=by rw [List.length_map];exact lt b hb) nd).mp ?_
   rw [List.getElem_map,List.getElem_map,(List.getElem?_eq_some_iff.mp a1).2,(List.getElem?_eq_some_iff.mp b1).2,z']
  have s1:=(mem a.1 a.2).mp ha
  have s2:=(mem b.1 b.2).mp hb
  rw [this,s2] at s1
  have:=Option.some.inj s1
  omega
 refine ⟨L',(live.map (·.2)).toArray,?_,?_,?_,by rw [e1];exact up,fun e he=>?_,fun e he=>?_⟩
 ·unfold laid
  rw [h1]
  dsimp only [Option.bind_eq_bind,Option.bind_some,Option.pure_def]
  rw [<- yB,e1]
 ·apply Array.ext'
  rw [Array.toList_filterMap]
  show (live.map (·.2)).filterMap _=L'.map (·.2)
  rw [List.filterMap_map,vo,List.map_map,show ∀ (f:Nat×Nat->Int×Value),live.map f=live.filterMap (some ∘ f) from fun f=>by rw [List.filterMap_eq_map]]
  refine Eu fun q hq=>?_
  obtain ⟨e0,z1,z2⟩:=gd q.2 (lt q hq)
  show (L.map (·.2)).toArray[q.2]?=some (L.getD q.2 (0,0,.none)).2
  rw [List.getElem?_toArray,List.getElem?_map,z1,z2]
  rfl
 ·have vg:(L'.map (·.2)).Nodup:=by
   have:(L'.map (·.2)).map (·.1)=L'.map (·.2.1):=by rw [List.map_map];rfl
   rw [<- this] at KO
   exact List.Pairwise.of_map _ (fun a b bE z=>bE (by rw [z])) KO
  have vh:(L.map (·.2)).Nodup:=by
   have:(L.map (·.2)).map (·.1)=L.map (·.2.1):=by rw [List.map_map];rfl
   rw [<- this] at nd
   exact List.Pairwise.of_map _ (fun a b bE z=>bE (by rw [z])) nd
  refine (List.perm_ext_iff_of_nodup vg vh).mpr fun x=>?_
  rw [List.mem_map,List.mem_map]
  constructor
  ·rintro ⟨e,he,rfl⟩
   obtain ⟨i,e0,_,z2,z3⟩:=(uH e).mp he
   exact ⟨e0,List.mem_of_getElem? z2,z3.symm⟩
  ·rintro ⟨e0,he,rfl⟩
   obtain ⟨i,hi,ei⟩:=List.getElem_of_mem he
   have z2:L[i]?=some e0:=by rw [List.getElem?_eq_getElem hi,ei]
   exact ⟨(ss[i]'(by omega),e0.2),(uH _).mpr ⟨i,e0,List.getElem?_eq_getElem (by omega),z2,rfl⟩,rfl⟩
 ·obtain ⟨i,e0,z1,_,_⟩:=(uH e).mp he
  exact O.le _ (List.mem_of_getElem? z1)
 ·obtain ⟨i,e0,z1,z2,z3⟩:=(uH e).mp he
  have:=O.rZ i e.1 e.2.1 z1 (by rw [List.getElem?_map,z2,z3];rfl)
  refine this.mono fun s hs=>?_
  obtain ⟨q,hq,eq⟩:=List.getElem_of_mem hs
  rw [e1]
  exact List.mem_map.mpr ⟨(s,q),(mem s q).mpr (by rw [List.getElem?_eq_getElem hq,eq]),rfl⟩
end Ts
namespace Ts
open PySem PySem.Spec PyProof.Rows
def hP (p:Nat×Nat):Int:=reduceHash (Builtin.Tuple.tupleHashOf [hashInt (p.1:Int),hashInt (p.2:Int)])
def jM:List (Nat×Nat):=(List.range 7).flatMap fun a=>(List.range 7).map fun b=>(a,b)
theorem Hf {p q:Nat×Nat}(hp:p.1<=6/\p.2<=6)(hq:q.1<=6/\q.2<=6)(h:hP p=hP q):p=q:=by
 have key:(jM.all fun p=>jM.all fun q=>decide (hP p=hP q->p=q))=true:=by decide +kernel
 have mem:∀ p:Nat×Nat,p.1<=6/\p.2<=6->p ∈ jM:=fun p h=>List.mem_flatMap.mpr ⟨p.1,List.mem_range.mpr (by omega),List.mem_map.mpr ⟨p.2,List.mem_range.mpr (by omega),rfl⟩⟩
 have:=List.all_eq_true.mp (List.all_eq_true.mp key p (mem p hp)) q (mem q hq)
 exact of_decide_eq_true this h
abbrev kP (p:Nat×Nat):List L2.Key:=[.inl (p.1:Int),.inl (p.2:Int)]
def dZ (h:Heap) (p:Nat×Nat) (a:Addr):Prop:=∃ o n t u,h.get? a=some o/\o.cls=.type "tuple" /\ o.data=.seq #[.int (p.1:Int) t,.int (p.2:Int) u] n
theorem dZ.key {prog:Program}{w:World}{h:Heap}{p:Nat×Nat}{a:Addr}(x:dZ h p a):IsTupleKey (L2.ki prog w) h (kP p) a:=by
 obtain ⟨o,n,t,u,h1,h2,h3⟩:=x
 exact ⟨o,_,n,h1,h2,h3,.cons (L2.Ds _ _ _ _) (.cons (L2.Ds _ _ _ _) .nil)⟩
theorem dZ.typeIs {s:Shared} {p:Nat×Nat} {a:Addr} (x:dZ s.heap p a):s.TypeIs (.ref a) "tuple" := let ⟨o,_,_,_,ho,hc,_⟩:=x;⟨o,ho,hc⟩
theorem dZ.at {h h':Heap}{p:Nat×Nat}{a:Addr}(x:dZ h p a)(e:∀ o,h.get? a=some o->h'.get? a=some o):dZ h' p a:=let ⟨o,n,t,u,ho,r⟩:=x;⟨o,n,t,u,e o ho,r⟩
section
variable {prog:Program}{w:World}{A:Around}{E:Value->Shared->Prop}{s:Shared}
theorem Ux {p:Nat×Nat}{a:Addr}{Q:Bool->Shared->Prop}(x:dZ s.heap p a)(h:Q true s):wpAny (model prog w) A (hashByValue 8 (.ref a)) Q E s:=by
 have hT:=x.typeIs
 obtain ⟨o,n,t,u,ho,_,hd⟩:=x
 unfold hashByValue
 refine wpAny_bind (wpAny_specialOf hT F.slot_tuple_hash.lookup ?_)
 show wpAny _ _ (seqItems? (.ref a) >>= _) _ _ s
 refine wpAny_bind (wpAny_seqItems ho hd ?_)
 refine wpAny_bind ?_
 show wpAny _ _ (forIn (#[Value.int (p.1:Int) t,Value.int (p.2:Int) u]) _ _) _ _ s
 rw [<- Array.forIn_toList]
 refine wpAny_forIn_list _ (fun rest r s'=>r.1=none/\s'=s/\∀ v ∈ rest,∃ i t,v=Value.int i t) _ ?_ ?_ _ _ ⟨rfl,rfl,fun v hv=>?_⟩
 ·rintro v rest r s' ⟨hr,rfl,gy⟩
  obtain ⟨i,t',rfl⟩:=gy v List.mem_cons_self
  unfold hashByValue
  refine wpAny_bind (wpAny_pure ?_)
  simp only [Bool.not_true,Bool.false_eq_true,if_false]
  exact wpAny_pure ⟨rfl,rfl,fun u aJ=>gy u (List.mem_cons_of_mem _ aJ)⟩
 ·rintro ⟨r1,r2⟩ s' ⟨hr,rfl,_⟩
  simp only at hr
  subst hr
  exact wpAny_pure h
 ·rcases List.mem_cons.mp hv with rfl | hv
  ·exact ⟨_,_,rfl⟩
  ·rw [List.mem_singleton.mp hv];exact ⟨_,_,rfl⟩
theorem ofClass {p:Nat×Nat}{a:Addr}{Q:Bool->Shared->Prop}(x:dZ s.heap p a)(h:Q false s):wpAny (model prog w) A (ofAClassStatement 8 (.ref a)) Q E s:=by
 have hT:=x.typeIs
 obtain ⟨o,n,t,u,ho,_,hd⟩:=x
 unfold ofAClassStatement
 refine wpAny_bind (wpAny_typeOf hT ?_)
 dsimp only
 rw [if_pos (by decide)]
 refine wpAny_bind (wpAny_pure ?_)
 simp only [Bool.not_true,Bool.false_eq_true,if_false]
 refine wpAny_bind (wpAny_seqItems ho hd ?_)
 dsimp only
 refine wpAny_bind ?_
 rw [<- Array.forIn_toList]
 refine wpAny_forIn_list _ (fun rest r s'=>r.1=none/\s'=s/\∀ v ∈ rest,∃ i t,v=Value.int i t) _ ?_ ?_ _ _ ⟨rfl,rfl,fun v hv=>?_⟩
 ·rintro v rest r s' ⟨hr,rfl,gy⟩
  obtain ⟨i,t',rfl⟩:=gy v List.mem_cons_self
  unfold ofAClassStatement
  refine wpAny_bind (wpAny_pure ?_)
  simp only [Bool.false_eq_true,if_false]
  exact wpAny_pure ⟨rfl,rfl,fun u aJ=>gy u (List.mem_cons_of_mem _ aJ)⟩
 ·rintro ⟨r1,r2⟩ s' ⟨hr,rfl,_⟩
  simp only at hr
  subst hr
  exact wpAny_pure h
 ·rcases List.mem_cons.mp hv with rfl | hv
  ·exact ⟨_,_,rfl⟩
  ·rw [List.mem_singleton.mp hv];exact ⟨_,_,rfl⟩
theorem seen {p:Nat×Nat}{a:Addr}{l:List Value}{Q:Bool->Shared->Prop}(x:dZ s.heap p a)(hl:∀ v ∈ l,∃ q b,v=.ref b/\dZ s.heap q b)(h:Q false s):wpAny (model prog w) A (searchCouldBeSeen (.ref a) l) Q E s:=by
 unfold searchCouldBeSeen
 refine wpAny_bind ?_
 refine wpAny_forIn_list _ (fun rest r s'=>r.1=none/\s'=s/\∀ v ∈ rest,∃ q b,v=.ref b/\dZ s.heap q b) _ ?_ ?_ _ _ ⟨rfl,rfl,hl⟩
 ·rintro v rest r s' ⟨hr,rfl,gy⟩
  obtain ⟨q,b,rfl,xb⟩:=gy v List.mem_cons_self
  dsimp only
  by_cases bE:(a==b)=true
  ·rw [if_pos (by rw [bE];rfl)]
   exact wpAny_pure ⟨rfl,rfl,fun u aJ=>gy u (List.mem_cons_of_mem _ aJ)⟩
  ·rw [if_neg (by rw [Bool.not_eq_true] at bE;rw [bE];exact Bool.false_ne_true)]
   refine wpAny_bind (wpAny_eqIsQuiet_tuple (knd:=L2.ki prog w) x.key ?_)
   simp only [Bool.not_true,Bool.false_eq_true,if_false]
   refine wpAny_bind (wpAny_eqIsQuiet_tuple (knd:=L2.ki prog w) xb.key ?_)
   simp only [Bool.not_true,Bool.false_eq_true,if_false]
   refine wpAny_bind (ofClass x ?_)
   simp only [Bool.false_eq_true,if_false]
   refine wpAny_bind (ofClass xb ?_)
   simp only [Bool.false_eq_true,if_false]
   exact wpAny_pure ⟨rfl,rfl,fun u aJ=>gy u (List.mem_cons_of_mem _ aJ)⟩
 ·rintro ⟨r1,r2⟩ s' ⟨hr,rfl,_⟩
  simp only at hr
  subst hr
  exact wpAny_pure h
def fc (led:Bool)(h:Heap)(S:Addr)(L:List Ent):Prop:=∃ o t ep,h.get? S=some o/\o.ExactSet/\o.data=.set (L.map (·.2)).toArray ep t/\Tb led t L
theorem fc.at {led:Bool}{h h':Heap}{a:Addr}{L:List Ent}(x:fc led h a L)(e:∀ o,h.get? a=some o->h'.get? a=some o):fc led h' a L :=
 let ⟨o,t,ep,ho,r⟩:=x;⟨o,t,ep,e o ho,r⟩
def Ek (h:Heap)(e:Int×Value)(p:Nat×Nat):Prop:=(p.1<=6/\p.2<=6)/\∃ a,e=(hP p,.ref a)/\dZ h p a
theorem DZ {L:List Ent}(i:Nat)(e:Ent)(h:L[i]?=some e):(((L.map (·.2)).toArray[i]?).map (·.1)).getD 0=e.2.1:=by
 rw [List.getElem?_toArray,List.getElem?_map,h];rfl
theorem Jo {m:Nat}(h:Good m):(m % 2==0)=false:=by rcases h with rfl | rfl | rfl<;>rfl
theorem OH {led:Bool}{S a:Addr}{L:List Ent}{p:Nat×Nat}{o:Obj}{t:SetTable}{ep:Nat}{Q:SetFound->Shared->Prop}(hu:A.units<cLine)(ho:s.heap.get? S=some o)(hd:o.data=.set (L.map (·.2)).toArray ep t)(T:Tb led t L)(hE:∀ e ∈ L,∃ q,Ek s.heap e.2 q)(x:dZ s.heap p a)(sp:p.1<=6/\p.2<=6){e:Ent}(he:e ∈ L)(hh:e.2.1=hP p)(h:Q (.there none) s) :
  wpAny (model prog w) A (setSearch S (.ref a) (hP p) true) Q E s:=by
 obtain ⟨i,hi,ei⟩:=List.getElem_of_mem he
 have fj:L[i]?=some e:=by rw [List.getElem?_eq_getElem hi,ei]
 obtain ⟨nx,hp⟩:=T.hit (hashAt:=fun i=>(((L.map (·.2)).toArray[i]?).map (·.1)).getD 0) DZ fj
 rw [hh] at hp
 obtain ⟨q,sq,b,eb,xb⟩:=hE e he
 have pq:q=p:=Hf sq sp (by rw [<- hh,eb])
 subst pq
 unfold setSearch
 show wpAny _ _ (setSearchFrom S (.ref a) (hP q) true (99999+1) none) _ _ _
 unfold setSearchFrom
 refine wpAny_bind (wpAny_setState_of ho hd T.fits ?_)
 dsimp only
 rw [if_neg (by show ¬ (t.mask % 2==0)=true;rw [Jo T.mask];exact Bool.false_ne_true)]
 have rC:t.probe (fun i=>(((L.map (·.2)).toArray[i]?).map (·.1)).getD 0) (hP q) ((none:Option SetTable.Probe).getD (t.probeStart (hP q)))=some (.candidate e.1 i nx):=hp
 refine wpAny_bind (wpAny_pure ?_)
 show wpAny _ _ (match t.probe (fun i=>(((L.map (·.2)).toArray[i]?).map (·.1)).getD 0) (hP q) ((none:Option SetTable.Probe).getD (t.probeStart (hP q))) with | some met=>_ | _=>_) _ _ _
 rw [rC]
 dsimp only
 have tail:wpAny (model prog w) A (do
   let some (_,y):=(L.map (·.2)).toArray[i]? | unsupported "internal:set-entry"
   let equal <- holding [y] (eqBool y (.ref a))
   let (kK,_,t') <- setState S
   if true&&equal then return .there none
   let some same:=t'.sameMemory t.moves t.mask | unsupported "set.changed-during-lookup:is-the-new-block-at-the-old-address"
   let Uy <- match (if same then t'.slot e.1 else .empty) with
    | .live i'=>match kK[i']? with
     |some (_,y')=>do pure (if <- isSame y' y then some i' else none)
     |none=>pure none
    |_=>pure none
   match Uy with
   |none=>rule "set.search.anew"; setSearchFrom S (.ref a) (hP q) true 99999 none
   |some i'=>if equal then return .there (some i') else setSearchFrom S (.ref a) (hP q) true 99999 (some nx)) Q E s:=by
  have eg:(L.map (·.2)).toArray[i]?=some (hP q,.ref b):=by rw [List.getElem?_toArray,List.getElem?_map,fj,<- eb];rfl
  rw [eg]
  dsimp only
  refine wpAny_bind (wpAny_holding (wpAny_eqBool_tuple (knd:=L2.ki prog w) hu xb.key x.key ?_))
  rw [decide_eq_true rfl]
  refine wpAny_bind (wpAny_setState_of ho hd T.fits ?_)
  dsimp only
  simp only [Bool.and_self,if_true]
  exact wpAny_pure h
 by_cases hl:t.led=true
 ·rw [if_neg (by rw [hl];decide)]
  exact tail
 ·rw [if_pos (by simpa using hl)]
  refine wpAny_bind (seen x (fun v hv=>?_) ?_)
  ·obtain ⟨y,hy,rfl⟩:=List.mem_map.mp hv
   have hy:=(Array.mem_filter.mp (Array.mem_toList_iff.mp hy)).1
   have cw:y ∈ L.map (·.2):=by simpa using hy
   obtain ⟨e',hW,rfl⟩:=List.mem_map.mp cw
   obtain ⟨q',_,b',eb',xb'⟩:=hE e' hW
   exact ⟨q',b',by rw [eb'],xb'⟩
  ·simp only [Bool.false_eq_true,if_false]
   exact tail
theorem N5 {led:Bool}{S a:Addr}{L:List Ent}{h0:Int}{o:Obj}{t:SetTable}{ep:Nat}{Q:SetFound->Shared->Prop}(ho:s.heap.get? S=some o)(hd:o.data=.set (L.map (·.2)).toArray ep t)(T:Tb led t L)(hn:h0 ∉ L.map (·.2.1))(h:∀ j,j ∉ L.map (·.1)->j<=t.mask->jo t.mask (L.map (·.1)) h0 j->Q (.free j false) s) :
  wpAny (model prog w) A (setSearch S (.ref a) h0 true) Q E s:=by
 obtain ⟨j,hp,j1,j2,r⟩:=T.miss (hashAt:=fun i=>(((L.map (·.2)).toArray[i]?).map (·.1)).getD 0) DZ hn
 unfold setSearch
 show wpAny _ _ (setSearchFrom S (.ref a) h0 true (99999+1) none) _ _ _
 unfold setSearchFrom
 refine wpAny_bind (wpAny_setState_of ho hd T.fits ?_)
 dsimp only
 rw [if_neg (by show ¬ (t.mask % 2==0)=true;rw [Jo T.mask];exact Bool.false_ne_true)]
 refine wpAny_bind (wpAny_pure ?_)
 have rC:t.probe (fun i=>(((L.map (·.2)).toArray[i]?).map (·.1)).getD 0) h0 ((none:Option SetTable.Probe).getD (t.probeStart h0))=some (.empty j none):=hp
 show wpAny _ _ (match t.probe (fun i=>(((L.map (·.2)).toArray[i]?).map (·.1)).getD 0) h0 ((none:Option SetTable.Probe).getD (t.probeStart h0)) with | some met=>_ | _=>_) _ _ _
 rw [rC]
 exact wpAny_pure (h j j1 j2 r)
end
end Ts
namespace Ts
open PySem PySem.Spec PyProof.Rows
theorem OI {t:SetTable}{L:List Ent}(hm:t.mask=7/\L.length=5\/t.mask=31/\L.length=19)(nd:(L.map (·.2.1)).Nodup)(hp:t.plain=true):∃ (L':List Ent) (t':SetTable) (order:Array Nat),t.relaid ((L.map (·.2)).toArray.map (·.1)) (SetTable.grown L.length)=some (t',order)/\order.filterMap ((L.map (·.2)).toArray[·]?)=(L'.map (·.2)).toArray/\(L'.map (·.2)).Perm (L.map (·.2))/\Tb t.led t' L'/\SetTable.sizeAbove (SetTable.grown L.length)<=1000:=by
 have key:∀ m,SetTable.sizeAbove (SetTable.grown L.length)-1=m->Good m->L.length*5<m*3->∃ (L':List Ent) (t':SetTable) (order:Array Nat),t.relaid ((L.map (·.2)).toArray.map (·.1)) (SetTable.grown L.length)=some (t',order)/\order.filterMap ((L.map (·.2)).toArray[·]?)=(L'.map (·.2)).toArray/\(L'.map (·.2)).Perm (L.map (·.2))/\Tb t.led t' L':=by
  intro m em gm hr
  obtain ⟨L',order,h1,h2,h3,h4,h5,h6⟩:=R9 gm (L:=L) (by omega) nd t.finger (t.movedTo m) t.led t.plain
  have hl:L'.length=L.length:=by
   have:=h3.length_eq
   rw [List.length_map,List.length_map] at this
   exact this
  refine ⟨L',{ mask:=m,place:=(L'.map (·.1)).toArray,dummies:=#[],finger:=t.finger,led:=t.led,moves:=t.movedTo m,plain:=t.plain },order,?_,h2,h3,⟨rfl,rfl,hp,rfl,gm,by rw [hl];exact hr,h4,h5,?_,h6⟩⟩
  ·unfold SetTable.relaid
   rw [em]
   exact h1
  ·have:=h3.map (·.1)
   rw [List.map_map,List.map_map] at this
   exact this.nodup_iff.mpr nd
 rcases hm with ⟨h1,h2⟩ | ⟨h1,h2⟩
 ·have e:SetTable.sizeAbove (SetTable.grown L.length)=32:=by rw [h2];decide
  obtain ⟨L',t',order,a⟩:=key 31 (by rw [e]) (.inr (.inl rfl)) (by omega)
  exact ⟨L',t',order,a.1,a.2.1,a.2.2.1,a.2.2.2,by omega⟩
 ·have e:SetTable.sizeAbove (SetTable.grown L.length)=128:=by rw [h2];decide
  obtain ⟨L',t',order,a⟩:=key 127 (by rw [e]) (.inr (.inr rfl)) (by omega)
  exact ⟨L',t',order,a.1,a.2.1,a.2.2.1,a.2.2.2,by omega⟩
section
variable {prog:Program}{w:World}{A:Around}{E:Value->Shared->Prop}{s:Shared}
theorem Sa {led:Bool}{S a:Addr}{L:List Ent}{p:Nat×Nat}{Q:Bool->Shared->Prop}(hu:A.units<cLine)(hS:fc led s.heap S L)(hE:∀ e ∈ L,∃ q,Ek s.heap e.2 q)(x:dZ s.heap p a)(sp:p.1<=6/\p.2<=6)(hh:hP p ∈ L.map (·.2.1))(h:Q false s) :
  wpAny (model prog w) A (setAddHashed S (.ref a) (hP p)) Q E s:=by
 obtain ⟨o,t,ep,ho,hex,hd,T⟩:=hS
 obtain ⟨e,he,eh⟩:=List.mem_map.mp hh
 unfold setAddHashed
 refine wpAny_holding ?_
 show wpAny _ _ (setAddHashedIn S (.ref a) (hP p) (99999+1)) _ _ _
 unfold setAddHashedIn
 refine wpAny_bind (wpAny_setState_of ho hd T.fits ?_)
 dsimp only
 rw [if_neg (show ¬ byScan (.ref a) (L.map (·.2)).toArray=true from Bool.false_ne_true)]
 refine wpAny_bind (OH hu ho hd T hE x sp he eh ?_)
 exact wpAny_pure h
theorem Sb {led:Bool}{S a:Addr}{L:List Ent}{p:Nat×Nat}{Q:Bool->Shared->Prop}(hS:fc led s.heap S L)(hl:L.length<70)(x:dZ s.heap p a)(hh:hP p ∉ L.map (·.2.1))
  (h:∀ h' L',Heap.SameBut S s.heap h'->fc led h' S L'->(L'.map (·.2)).Perm ((hP p,.ref a)::L.map (·.2))->Q true { s with heap:=h' }) :
  wpAny (model prog w) A (setAddHashed S (.ref a) (hP p)) Q E s:=by
 obtain ⟨o,t,ep,ho,hex,hd,T⟩:=hS
 have big:sizeLine=16777216:=sizeLine_eq
 unfold setAddHashed
 refine wpAny_holding ?_
 show wpAny _ _ (setAddHashedIn S (.ref a) (hP p) (99999+1)) _ _ _
 unfold setAddHashedIn
 refine wpAny_bind (wpAny_setState_of ho hd T.fits ?_)
 dsimp only
 rw [if_neg (show ¬ byScan (.ref a) (L.map (·.2)).toArray=true from Bool.false_ne_true)]
 refine wpAny_bind (N5 ho hd T hh fun j j1 j2 r=>?_)
 dsimp only
 refine wpAny_bind (wpAny_setState_of ho hd T.fits ?_)
 dsimp only
 obtain ⟨k,k1,k2,k3,k4,k5⟩:=T.put (x:=.ref a) hh j1 j2 r
 generalize hN:dP L k (j,hP p,Value.ref a)=N at k1 k2 k3 k4 k5
 have pm:(N.map (·.2)).Perm ((hP p,.ref a)::L.map (·.2)):=by rw [<- hN];exact (Es L k _).map (·.2)
 have nl:N.length=L.length+1:=by
  have:=pm.length_eq
  rw [List.length_map,List.length_cons,List.length_map] at this
  exact this
 rw [k1]
 dsimp only
 rw [if_pos (show ({ t with place:=(N.map (·.1)).toArray }:SetTable).plain=true from T.plain)]
 refine wpAny_bind (Ux x ?_)
 rw [if_pos rfl]
 have tp:({ t with place:=(N.map (·.1)).toArray }:SetTable).plain=true:=T.plain
 have tl:({ t with place:=(N.map (·.1)).toArray }:SetTable).led=led:=T.led
 have tm:({ t with place:=(N.map (·.1)).toArray }:SetTable).mask=t.mask:=rfl
 have Aq:({ t with place:=(N.map (·.1)).toArray }:SetTable).place=(N.map (·.1)).toArray:=rfl
 have KP:({ t with place:=(N.map (·.1)).toArray }:SetTable).dummies = #[]:=T.rY
 generalize hT1:({ t with place:=(N.map (·.1)).toArray }:SetTable)=t1 at k3 tp tl tm Aq KP
 rw [k2]
 have bR:(N.map (·.2)).toArray.size=N.length:=by rw [List.size_toArray,List.length_map]
 refine wpAny_bind (wpAny_storeSet_of ho hd ?_ (by rw [bR];omega))
 have hg:(s.heap.update S (Obj.putSet (N.map (·.2)).toArray t1)).get? S=some { o with data:=.set (N.map (·.2)).toArray (ep+1) t1 }:=by
  have:=Heap.get?_update_self (Obj.putSet (N.map (·.2)).toArray t1) ho (by rw [putSet_of _ _ hd];rfl)
  rw [putSet_of _ _ hd] at this
  exact this
 have fill:t1.fill=N.length:=by unfold SetTable.fill;rw [Aq,KP,List.size_toArray,List.length_map];rfl
 have full:t1.tooFull=decide (t.mask*3<=N.length*5):=by
  unfold SetTable.tooFull
  rw [fill,tm]
 by_cases hf:t.mask*3<=N.length*5
 ·rw [if_pos (by rw [full,decide_eq_true hf];rfl)]
  have r0:=T.room
  have hm:t1.mask=7/\N.length=5\/t1.mask=31/\N.length=19:=by
   rw [tm]
   rcases T.mask with z | z | z<;>omega
  have Ve:t1.fits (N.map (·.2)).toArray.size=true:=by
   unfold SetTable.fits
   rw [fill,Aq,bR,List.size_toArray,List.length_map,tm]
   rcases T.mask with z | z | z<;>(simp;omega)
  obtain ⟨L',t',order,a1,a2,a3,a4,a5⟩:=OI hm k5 tp
  have l':L'.length=N.length:=by
   have:=a3.length_eq
   rw [List.length_map,List.length_map] at this
   exact this
  refine wpAny_bind ?_
  unfold setRelay
  refine wpAny_bind (wpAny_setState_of (s:={ s with heap:=_ }) hg rfl Ve ?_)
  dsimp only
  have eg:(L.map (·.2)).toArray.size+1=N.length:=by rw [List.size_toArray,List.length_map,nl]
  rw [eg,if_neg (by omega),a1]
  have KQ:∀ {Q':(Array (Int×Value)×SetTable)->Shared->Prop} {s1:Shared},Q' ((L'.map (·.2)).toArray,t') s1->wpAny (model prog w) A (do
    let some (t,order):=(some (t',order):Option (SetTable×Array Nat)) | unsupported "internal:set-table-without-room"
    let kK:=order.filterMap ((N.map (·.2)).toArray[·]?)
    if kK.size != (N.map (·.2)).toArray.size then unsupported "internal:set-table-lost-an-element"
    pure (kK,t)) Q' E s1:=fun {Q' s1} hq=>by
   dsimp only
   rw [a2,if_neg (by rw [List.size_toArray,List.size_toArray,List.length_map,List.length_map,l'];simp)]
   exact wpAny_pure hq
  refine wpAny_bind (KQ ?_)
  dsimp only
  refine wpAny_storeSet_of (s:={ s with heap:=_ }) hg rfl ?_ (by rw [List.size_toArray,List.length_map];omega)
  refine wpAny_pure ?_
  have fY:=Heap.get?_update_self (Obj.putSet (L'.map (·.2)).toArray t') hg (by rw [putSet_of _ _ rfl];rfl)
  rw [putSet_of _ _ rfl] at fY
  rw [tl] at a4
  exact h _ L' ((Heap.SameBut.update ..).trans (Heap.SameBut.update ..)) ⟨_,_,_,fY,hex,rfl,a4⟩ (a3.trans pm)
 ·rw [if_neg (by rw [full,decide_eq_false hf];decide)]
  exact wpAny_pure (h _ N (Heap.SameBut.update ..) ⟨_,_,_,hg,hex,rfl,k3 (by omega)⟩ pm)
end
end Ts
namespace Ts
open PySem PySem.Spec PyProof.Rows
theorem t5 {α:Type} [DecidableEq α]:∀ (l m:List α),l.Nodup->(∀ x ∈ l,x ∈ m)->l.length<=m.length
 |[],m,_,_=>Nat.zero_le _
 |a::l,m,nd,h=>by
  rw [List.nodup_cons] at nd
  have ha:=h a (List.mem_cons_self ..)
  have:=t5 l (m.erase a) nd.2 fun x hx=>(List.mem_erase_of_ne (fun z:x=a=>nd.1 (z ▸ hx))).mpr (h x (List.mem_cons_of_mem _ hx))
  rw [List.length_erase_of_mem ha] at this
  have:=List.length_pos_of_mem ha
  rw [List.length_cons]
  omega
structure Acc (as:List Addr) (ps:List (Nat×Nat)) (i:Nat) (L:List Ent):Prop where
 src:∀ e ∈ L,∃ (j:Nat) (a:Addr) (p:Nat×Nat),j<i/\as[j]?=some a/\ps[j]?=some p/\e.2=(hP p,.ref a)
 all:∀ (j:Nat) (p:Nat×Nat),j<i->ps[j]?=some p->hP p ∈ L.map (·.2.1)
structure jq (h:Heap) (as:List Addr) (ps:List (Nat×Nat)):Prop where
 len:ps.length=as.length
 small:∀ p ∈ ps,p.1<=6/\p.2<=6
 se:∀ (j:Nat) (a:Addr) (p:Nat×Nat),as[j]?=some a->ps[j]?=some p->dZ h p a
theorem jq.at {h h':Heap}{as:List Addr}{ps:List (Nat×Nat)}(x:jq h as ps)(e:∀ a ∈ as,∀ o,h.get? a=some o->h'.get? a=some o):jq h' as ps :=
 ⟨x.len,x.small,fun j a p h1 h2=>(x.se j a p h1 h2).at (e a (List.mem_of_getElem? h1))⟩
theorem Acc.len {h:Heap}{as:List Addr}{ps:List (Nat×Nat)}{i:Nat}{L:List Ent}(c:Acc as ps i L)(x:jq h as ps)(nd:(L.map (·.2.1)).Nodup):L.length<=49:=by
 have:=t5 (L.map (·.2.1)) (jM.map hP) nd fun z hz=>by
  obtain ⟨e,he,rfl⟩:=List.mem_map.mp hz
  obtain ⟨j,a,p,_,_,hp,ee⟩:=c.src e he
  have sm:=x.small p (List.mem_of_getElem? hp)
  rw [ee]
  exact List.mem_map.mpr ⟨p,List.mem_flatMap.mpr ⟨p.1,List.mem_range.mpr (by omega),List.mem_map.mpr ⟨p.2,List.mem_range.mpr (by omega),rfl⟩⟩,rfl⟩
 rw [List.length_map,List.length_map] at this
 exact this
theorem Acc.ek {h:Heap}{as:List Addr}{ps:List (Nat×Nat)}{i:Nat}{L:List Ent}(c:Acc as ps i L)(x:jq h as ps):∀ e ∈ L,∃ q,Ek h e.2 q:=fun e he=>by
 obtain ⟨j,a,p,_,ha,hp,ee⟩:=c.src e he
 exact ⟨p,x.small p (List.mem_of_getElem? hp),a,ee,x.se j a p ha hp⟩
section
variable {prog:Program}{w:World}{A:Around}{E:Value->Shared->Prop}{s:Shared}{R:Result->Shared->Prop}{I:Addr}{fp wr:List Addr}{n:Nat}{P:Nat->Value->Prop}{St:Nat->Heap->Prop}
theorem OJ {led:Bool}(W:Walks prog w A.in1 I fp wr n P St)(S:Addr)(hZ:S ∉ fp){as:List Addr}{ps:List (Nat×Nat)}(hu:A.units+1<cLine)(hn:n=as.length)
  (zv:∀ i v,P i v->∃ a,as[i]?=some a/\v=.ref a) (Jp:∀ a ∈ as,a ∉ wr/\a ≠ S) :
  ∀ (k i:Nat) (s:Shared) (L:List Ent),n-i=k->i<=n->St i s.heap->jq s.heap as ps->fc led s.heap S L->Acc as ps i L ->
   (∀ h' tk L',(∀ b o,b ∉ wr->b ≠ S->s.heap.get? b=some o->h'.get? b=some o)->fc led h' S L'->Acc as ps n L'->R (.ok (.ret .none)) { s with heap:=h',toks:=tk }) ->
   codeAny (model prog w) A (.builtin "set.update.loop" ⟨[.ref S,.ref I],[]⟩) R s:=by
 have m9:S ∉ wr:=fun h=>hZ (W.sub _ h)
 intro k
 induction k with
 |zero =>
  intro i s L hk hi gG iY hS hA hR
  have sf:i=n:=by omega
  refine codeAny_builtin F.entry_set_update_loop ?_
  rw [Around.under_plainId F.plain_set_update_loop _]
  show wpAny _ A.in1 (pyNext (.ref I) >>= _) _ _ s
  refine wpAny_bind (W.done s _ _ (sf ▸ gG) fun h' tk hm=>?_)
  show wpAny _ A.in1 (ret Value.none) _ _ _
  exact wpAny_pure (hR h' tk L (fun b o hb _ e=>hm b o hb e) (hS.at fun o e=>hm S o m9 e) (sf ▸ hA))
 |succ k ih =>
  intro i s L hk hi gG iY hS hA hR
  have aX:i<n:=by omega
  refine codeAny_builtin F.entry_set_update_loop ?_
  rw [Around.under_plainId F.plain_set_update_loop _]
  show wpAny _ A.in1 (pyNext (.ref I) >>= _) _ _ s
  refine wpAny_bind (W.item i s _ _ aX gG fun v h1 tk1 hPi kJ hm=>?_)
  obtain ⟨a,ha,rfl⟩:=zv i v hPi
  have cV:fc led h1 S L:=hS.at fun o e=>hm S o m9 e
  have pj:jq h1 as ps:=iY.at fun b hb o e=>hm b o (Jp b hb).1 e
  obtain ⟨p,hp⟩:∃ p,ps[i]?=some p:=⟨_,List.getElem?_eq_getElem (by rw [iY.len];omega)⟩
  have xp:dZ h1 p a:=pj.se i a p ha hp
  have sp:=pj.small p (List.mem_of_getElem? hp)
  have nd:(L.map (·.2.1)).Nodup:=by obtain ⟨_,_,_,_,_,_,T⟩:=cV;exact T.nd
  have ll:=hA.len pj nd
  have ek:=hA.ek pj
  show wpAny _ A.in1 (holding [Value.ref a] (setAdd S (.ref a)) >>= _) _ _ _
  refine wpAny_bind (wpAny_holding ?_)
  unfold setAdd
  refine wpAny_holding ?_
  refine wpAny_bind (wpAny_pyHash_tuple (knd:=L2.ki prog w) (ks:=kP p) (by show A.units+1<cLine;exact hu) xp.key ?_)
  show wpAny _ _ (setAddHashed S (.ref a) (hP p)) _ _ _
  by_cases hh:hP p ∈ L.map (·.2.1)
  ·refine Sa (s:={ s with heap:=h1,toks:=_ }) (by show A.units+1<cLine;exact hu) cV ek xp sp hh ?_
   refine wpAny_pure ⟨plainId_quiet F.plain_set_update_loop _,ih (i+1) _ L (by omega) aX kJ pj cV ⟨fun e he=>?_,fun j q hj hq=>?_⟩ fun h3 pA L3 Ar As Au=>?_⟩
   ·obtain ⟨j,a',q,hj,r⟩:=hA.src e he
    exact ⟨j,a',q,by omega,r⟩
   ·rcases Nat.lt_or_ge j i with z | z
    ·exact hA.all j q z hq
    ·have:j=i:=by omega
     subst this
     rw [hp] at hq
     cases hq
     exact hh
   ·exact hR h3 pA L3 (fun b o hb eZ e=>Ar b o hb eZ (hm b o hb e)) As Au
  ·refine Sb (s:={ s with heap:=h1,toks:=_ }) cV (by omega) xp hh fun h2 L2 Av hS2 pm=>?_
   refine wpAny_pure ⟨plainId_quiet F.plain_set_update_loop _,ih (i+1) _ L2 (by omega) aX (W.frame _ h1 h2 kJ fun b hb o e=>?_) (pj.at fun b hb o e=>?_) hS2 ⟨fun e he=>?_,fun j q hj hq=>?_⟩ fun h3 pA L3 Ar As Au=>?_⟩
   ·rw [Av.2 b (fun h:b=S=>hZ (by rw [<- h];exact hb))];exact e
   ·show h2.get? b=some o
    rw [Av.2 b (Jp b hb).2];exact e
   ·have he2:e.2 ∈ (hP p,Value.ref a)::L.map (·.2):=pm.mem_iff.mp (List.mem_map.mpr ⟨e,he,rfl⟩)
    rcases List.mem_cons.mp he2 with z | z
    ·exact ⟨i,a,p,Nat.lt_succ_self i,ha,hp,z⟩
    ·obtain ⟨e',hW,ee⟩:=List.mem_map.mp z
     obtain ⟨j,a',q,hj,h4,h5,h6⟩:=hA.src e' hW
     exact ⟨j,a',q,by omega,h4,h5,by rw [<- ee,h6]⟩
   ·have mem:∀ z,z ∈ L2.map (·.2.1) ↔ z=hP p\/z ∈ L.map (·.2.1):=fun z=>by
     have:=(pm.map (·.1)).mem_iff (a:=z)
     rw [List.map_map,List.map_cons,List.mem_cons,List.map_map] at this
     exact this
    rw [mem]
    rcases Nat.lt_or_ge j i with z | z
    ·exact .inr (hA.all j q z hq)
    ·have:j=i:=by omega
     subst this
     rw [hp] at hq
     cases hq
     exact .inl rfl
   ·exact hR h3 pA L3 (fun b o hb eZ e=>Ar b o hb eZ (by
     show h2.get? b=some o
     rw [Av.2 b eZ]
     exact hm b o hb e)) As Au
end
section
variable {prog:Program}{w:World}{A:Around}{E:Value->Shared->Prop}{s:Shared}
theorem N6 {b:Bool}{h:Heap}{a:Addr}(e:h.get? a=some (L2.mz b)):fc b h a [] :=
 ⟨_,_,_,e,⟨rfl,rfl,rfl⟩,rfl,⟨rfl,rfl,rfl,rfl,(.inl rfl),(show 0*5<7*3 by decide),.nil,(fun e h=>nomatch h),.nil,fun e h=>nomatch h⟩⟩
theorem OL {led:Bool}{l S:Addr}{as:List Addr}{ps:List (Nat×Nat)}{Q:Value->Shared->Prop}(hh:A.handled=none)(hu:A.units+4<cLine)(hl:s.heap.IsList l (as.map Value.ref).toArray)(iY:jq s.heap as ps)(hS:s.heap.get? S=some (L2.mz led))(hlS:l ≠ S)(haS:∀ a ∈ as,a ≠ S)
  (h:∀ h' tk L,(∀ b o,b ≠ S->s.heap.get? b=some o->h'.get? b=some o)->fc led h' S L->Acc as ps as.length L->Q .none { s with heap:=h',toks:=tk }) :
  wpAny (model prog w) A.in1 (Builtin.«set.__init__» ⟨[.ref S,.ref l],[]⟩) (fun fin s'=>∃ r,fin=.done (.ret r)/\Q r s') E s:=by
 obtain ⟨ol,kU,KR,nl,KU⟩:=id hl
 obtain ⟨aak,aae,aaf,aad⟩:=ol
 simp only at KR KU
 subst KR;subst KU
 have aal:=F.sub_list_set
 have aam:=F.sub_list_frozenset
 have eI:(Value.type "list" == Value.type "dict")=false:=by decide
 unfold L2.mz at hS
 unfold Builtin.«set.__init__» noKeywords Builtin.Frozenset.updateFrom
 generalize hPI:pyIter=PI
 obtain ⟨h0,g0,d0,t0,o0⟩:=s
 wp_walk
 subst hPI
 refine wpAny_pyIter_list hl ?_
 refine wpAny_bind (wpAny_runValue ?_)
 have hh3:A.in1.in1.handled=none:=by simp [hh]
 have Vf:l ≠ h0.objs.size:=Nat.ne_of_lt (Heap.lt_size kU)
 have nc:S ≠ h0.objs.size:=Nat.ne_of_lt (Heap.lt_size hS)
 have bR:(as.map Value.ref).toArray.size=as.length:=by rw [List.size_toArray,List.length_map]
 have aI:∀ a ∈ as,a ≠ h0.objs.size:=fun a ha=>by
  obtain ⟨j,hj,ej⟩:=List.getElem_of_mem ha
  obtain ⟨o,_,_,_,ho,_⟩:=iY.se j a _ (by rw [List.getElem?_eq_getElem hj,ej]) (List.getElem?_eq_getElem (by rw [iY.len];exact hj))
  exact Nat.ne_of_lt (Heap.lt_size ho)
 refine OJ (led:=led) (ps:=ps) (Walks.list hh3 h0.objs.size l Vf (as.map Value.ref).toArray) S (by simp only [List.mem_cons,List.not_mem_nil,or_false,not_or];exact ⟨nc,hlS.symm⟩) (by show A.units+1+1<cLine;omega) bR (fun i v hv=>?_) (fun a ha=>⟨by simp only [List.mem_cons,List.not_mem_nil,or_false];exact aI a ha,haS a ha⟩) _ 0 _ [] rfl (Nat.zero_le _) ?_ (iY.at fun a ha o e=>Heap.get?_push_of_some _ e) ?_ ⟨(fun e h=>nomatch h),fun j p h=>nomatch h⟩ fun h' tk L hk cV pB=>?_
 ·rw [List.getElem?_toArray,List.getElem?_map] at hv
  cases e:as[i]? with
  |none=>rw [e] at hv;cases hv
  |some p=>rw [e] at hv;exact ⟨p,rfl,(Option.some.inj hv).symm⟩
 ·exact ⟨⟨_,Heap.get?_push_size _ rfl,rfl,rfl⟩,hl.push _⟩
 ·exact N6 (b:=led) (Heap.get?_push_of_some _ hS)
 ·show wpAny _ _ _ _ _ _
  refine wpAny_pure ?_
  show wpAny _ _ (ret Value.none) _ _ _
  rw [bR] at pB
  refine wpAny_pure ⟨_,rfl,h h' tk L (fun b o hb e=>hk b o ?_ hb (Heap.get?_push_of_some _ e)) cV pB⟩
  simp only [List.mem_cons,List.not_mem_nil,or_false]
  exact Nat.ne_of_lt (Heap.lt_size e)
set_option maxHeartbeats 3200000 in
theorem OM {l:Addr}{as:List Addr}{ps:List (Nat×Nat)}{Q:Value->Shared->Prop}(hh:A.handled=none)(hu:A.units+8<cLine)(hl:s.heap.IsList l (as.map Value.ref).toArray)(iY:jq s.heap as ps)
  (h:∀ (h':Heap) (tk:Nat) (L:List Ent),fc (!w.params.followText "set-order") h' s.heap.objs.size L->Acc as ps as.length L->(∀ b o,s.heap.get? b=some o->h'.get? b=some o)->Q (.ref s.heap.objs.size) { s with heap:=h',toks:=tk }) :
  wpAny (model prog w) A (call (.type "set") [.ref l]) Q E s:=by
 obtain ⟨c,tl,aan⟩:=F.called_set.mro
 have aag:=F.called_set.made
 have U8:=F.called_set.sub
 refine wpAny_call (codeAny_of_tree ?_)
 show wpAny _ _ (callAny (.type "set") _) _ _ _
 refine wpAny_pure ⟨Code.quiet_builtin _ (by decide +kernel),codeAny_builtin F.entry_type_call ?_⟩
 rw [Around.under_plain (weight_type_call_type "set" [.ref l] []) rfl]
 have h1:=F.called_set.notType
 have h2:=F.called_set.canCreate
 have hct:=F.typeCall_set_1 (.ref l)
 repeat (any_goals (first | assumption | wp_step))
 refine codeAny_mono (L2.PD (.ref l) (E:=E) (Q₁:=fun obj aU=>obj=.ref s.heap.objs.size/\aU = { s with heap:=s.heap.push (L2.mz (!w.params.followText "set-order")) }) ⟨rfl,rfl⟩) fun r aU hr=>?_
 cases r with
 |error e=>exact hr
 |ok fl =>
  cases fl with
  |ret obj =>
   obtain ⟨rfl,rfl⟩:=hr
   have hS:(s.heap.push (L2.mz (!w.params.followText "set-order"))).get? s.heap.objs.size=some (L2.mz (!w.params.followText "set-order")):=Heap.get?_push_size _ rfl
   have hT:Shared.TypeIs { s with heap:=s.heap.push (L2.mz (!w.params.followText "set-order")) } (.ref s.heap.objs.size) "set" := ⟨_,hS,rfl⟩
   have m7:=F.called_set.init.lookup
   have hbi:=F.called_set.init.bind (.ref s.heap.objs.size)
   repeat (any_goals (first | assumption | wp_step))
   refine codeAny_mono (codeAny_call_builtin (R:=wants (fun r me=>r=.none/\∃ h' tk L,me = { s with heap:=h',toks:=tk }/\fc (!w.params.followText "set-order") h' s.heap.objs.size L/\Acc as ps as.length L/\(∀ b o,s.heap.get? b=some o->h'.get? b=some o)) E)
    F.called_set.init.plain F.entry_set_init (check_set_init_1 hT ?_)) fun Vg me yC=>?_
   ·refine wpAny_mono (OL (A:=A.in1) (ps:=ps) (by simp [hh]) (by show A.units+1+4<cLine;omega) (hl.push _) (iY.at fun a ha o e=>Heap.get?_push_of_some _ e) hS ?_ (fun a ha=>?_) (Q:=fun r me=>r=.none/\∃ h' tk L,me = { s with heap:=h',toks:=tk }/\fc (!w.params.followText "set-order") h' s.heap.objs.size L/\Acc as ps as.length L/\(∀ b o,s.heap.get? b=some o->h'.get? b=some o)) fun h' tk L hk cV pB=>?_) (fun fin s' x=>?_) fun e s' x=>x
    ·obtain ⟨ol,kU,_⟩:=hl
     exact Nat.ne_of_lt (Heap.lt_size kU)
    ·obtain ⟨j,hj,ej⟩:=List.getElem_of_mem ha
     obtain ⟨o,_,_,_,ho,_⟩:=iY.se j a _ (by rw [List.getElem?_eq_getElem hj,ej]) (List.getElem?_eq_getElem (by rw [iY.len];exact hj))
     exact Nat.ne_of_lt (Heap.lt_size ho)
    ·exact ⟨rfl,h',tk,L,rfl,cV,pB,fun b o e=>hk b o (Nat.ne_of_lt (Heap.lt_size e)) (Heap.get?_push_of_some _ e)⟩
    ·obtain ⟨r,rfl,x⟩:=x
     exact x
   ·cases Vg with
    |error e=>exact yC
    |ok Uz =>
     cases Uz with
     |ret r =>
      obtain ⟨rfl,h',tk,L,rfl,cV,pB,fk⟩:=yC
      repeat (any_goals (first | assumption | wp_step))
      exact h _ _ L cV pB fk
     |_=>exact yC.elim
  |_=>exact hr.elim
end
end Ts
namespace Ts
open PySem PySem.Spec PyProof.Rows
def iz (w:World) (a:Addr) (ep:Nat) (L:List Ent):List (Int×Value):=if w.params.followText "set-order" then (pickOrder (w.params.setOrder a ep) (L.map (·.2)).toArray).toList else L.map (·.2)
theorem pK (w:World)(a:Addr)(ep:Nat)(L:List Ent):(iz w a ep L).Perm (L.map (·.2)):=by
 unfold iz
 split
 ·exact (L2.PF _ _).trans (by simp)
 ·exact .rfl
def slotAt (b:Bool)(L:List Ent):Nat->Nat
 |0=>0
 |i+1=>if b then 0 else (L.map (·.1)).getD i 0+1
def jC (h:Heap) (it a:Addr) (slot i n ep:Nat):Prop:=∃ o,h.get? it=some o/\o.cls=.type "set_iterator" /\ o.data=.fields #[.int slot 0,.int i 0,.ref a,.int n 0,.int ep 0]
def gW (led:Bool)(h:Heap)(a:Addr)(L:List Ent)(ep:Nat):Prop :=
 ∃ o t,h.get? a=some o/\o.ExactSet/\o.data=.set (L.map (·.2)).toArray ep t/\Tb led t L/\t.fits (L.map (·.2)).toArray.size=true
theorem gW.at {led:Bool}{h h':Heap}{a:Addr}{L:List Ent}{ep:Nat}(x:gW led h a L ep)(e:∀ o,h.get? a=some o->h'.get? a=some o):gW led h' a L ep :=
 let ⟨o,t,ho,r⟩:=x;⟨o,t,e o ho,r⟩
theorem jC.at {h h':Heap}{it a:Addr}{slot i n ep:Nat}(x:jC h it a slot i n ep)(e:∀ o,h.get? it=some o->h'.get? it=some o):jC h' it a slot i n ep :=
 let ⟨o,ho,r⟩:=x;⟨o,e o ho,r⟩
theorem jC.typeIs {s:Shared} {it a:Addr} {slot i n ep:Nat} (x:jC s.heap it a slot i n ep):s.TypeIs (.ref it) "set_iterator" :=
 let ⟨o,ho,hc,_⟩:=x;⟨o,ho,hc⟩
theorem gW.typeIs {led:Bool} {s:Shared} {a:Addr} {L:List Ent} {ep:Nat} (x:gW led s.heap a L ep):s.TypeIs (.ref a) "set" :=
 let ⟨o,t,ho,hc,_⟩:=x;⟨o,ho,hc.1⟩
theorem OO {L:List Ent}(up:(L.map (·.1)).Pairwise (· < ·)){i:Nat}(hi:i<=L.length):SetTable.below (L.map (·.1)).toArray (slotAt false L i)=i:=by
 have key:∀ p q (hp:p<(L.map (·.1)).length) (hq:q<(L.map (·.1)).length),p<q->(L.map (·.1))[p]<(L.map (·.1))[q]:=fun p q hp hq h=>List.pairwise_iff_getElem.mp up p q hp hq h
 have hl:(L.map (·.1)).length=L.length:=List.length_map ..
 refine L2.wU (by rw [List.size_toArray,hl];exact hi) (fun q h1 h2=>?_) (fun q h1 h2=>?_)
 ·rw [List.size_toArray] at h2
  rw [L2.getD_list,List.getD_eq_getElem?_getD,List.getElem?_eq_getElem h2]
  cases i with
  |zero=>omega
  |succ i =>
   have fj:i<(L.map (·.1)).length:=by omega
   show _<(L.map (·.1)).getD i 0+1
   rw [List.getD_eq_getElem?_getD,List.getElem?_eq_getElem fj]
   show (L.map (·.1))[q]<(L.map (·.1))[i]+1
   rcases Nat.lt_or_ge q i with h | h
   ·have:=key q i h2 fj h;omega
   ·have e:q=i:=by omega
    subst e
    omega
 ·rw [List.size_toArray] at h2
  rw [L2.getD_list,List.getD_eq_getElem?_getD,List.getElem?_eq_getElem h2]
  cases i with
  |zero =>
   show ¬ (L.map (·.1))[q]<0
   omega
  |succ i =>
   have fj:i<(L.map (·.1)).length:=by omega
   show ¬ _<(L.map (·.1)).getD i 0+1
   rw [List.getD_eq_getElem?_getD,List.getElem?_eq_getElem fj]
   show ¬ (L.map (·.1))[q]<(L.map (·.1))[i]+1
   have:=key i q fj h2 (by omega)
   omega
section
variable {prog:Program}{w:World}{A:Around}{E:Value->Shared->Prop}{s:Shared}
theorem QE {a:Addr} {L:List Ent} {ep:Nat} {Q:Value->Shared->Prop} (hs:gW (!w.params.followText "set-order") s.heap a L ep)
  (hQ:Q (.ref s.heap.objs.size) { s with heap:=s.heap.push { cls:=.type "set_iterator",data:=.fields #[.int (0:Nat) 0,.int (0:Nat) 0,.ref a,.int (L.length:Nat) 0,.int ep 0] } }) :
  wpAny (model prog w) A (pyIter (.ref a)) Q E s:=by
 obtain ⟨o,t,ho,hex,hd,T,hf⟩:=id hs
 refine wpAny_pyIter_slot hs.typeIs PySem.F.slot_set_iter (wpAny_call_entry PySem.F.slot_set_iter hs.typeIs L2.MD ?_ (PySem.F.args_set_iter_1 _))
 unfold Builtin.«frozenset.__iter__» Builtin.Frozenset.slot0 slotArgs
 simp only [List.isEmpty_nil,Bool.not_true,Bool.false_eq_true,↓reduceIte,bind_assoc,List.length_nil,bne_self_eq_false]
 unfold Builtin.Frozenset.addrOf Builtin.Frozenset.sizeOf
 refine wpAny_bind (wpAny_pure ?_)
 try dsimp only
 refine wpAny_bind (wpAny_pure ?_)
 refine wpAny_bind (wpAny_bind (wpAny_setEntries_of ho hd hf (wpAny_pure ?_)))
 unfold setDrawn
 refine wpAny_bind (wpAny_bind (wpAny_setState_of ho hd hf ?_))
 dsimp only
 unfold setsByText
 refine wpAny_bind (wpAny_bind (wpAny_askSetting (wpAny_pure ?_)))
 refine wpAny_pure ?_
 refine wpAny_ite_split (fun bE=>?_) (fun _=>?_)
 ·exfalso
  rw [Bool.and_eq_true] at bE
  have h2:(!t.plain&&decide ((L.map (·.2)).toArray.size > 1))=true:=bE.2
  rw [T.plain] at h2
  cases h2
 ·refine wpAny_bind (wpAny_pure ?_)
  refine wpAny_bind (wpAny_setEpoch_of ho hd hf ?_)
  unfold newFields
  refine wpAny_bind (wpAny_newObj_type (wpAny_pure ⟨_,rfl, "set_iterator",_,⟨_,Heap.get?_push_size _ rfl,rfl⟩,L2.nA.lookup,?_⟩))
  simpa [rawInt,List.length_map] using hQ
theorem Ex {a:Addr} {L:List Ent} {ep i:Nat} {Q:Option (Value×Nat)->Shared->Prop} (hs:gW (!w.params.followText "set-order") s.heap a L ep) (hi:i<=L.length)
  (hQ:Q ((iz w a ep L)[i]?.map fun e=>(e.2,slotAt (w.params.followText "set-order") L (i+1))) s) :
  wpAny (model prog w) A (setNext a (slotAt (w.params.followText "set-order") L i) i ep) Q E s:=by
 obtain ⟨o,t,ho,hex,hd,T,hf⟩:=id hs
 unfold setNext
 refine wpAny_bind (wpAny_setState_of ho hd hf ?_)
 dsimp only
 unfold setsByText
 refine wpAny_bind (wpAny_bind (wpAny_askSetting (wpAny_pure ?_)))
 show wpAny _ _ (if w.params.followText "set-order" = true then _ else _) _ _ _
 unfold iz at hQ
 cases hb:w.params.followText "set-order" with
 |true =>
  rw [hb] at hQ
  rw [if_pos rfl]
  simp only [bne_self_eq_false,Bool.false_eq_true,↓reduceIte] at hQ ⊢
  refine wpAny_bind ?_
  unfold setWalk
  refine wpAny_bind (wpAny_setState_of ho hd hf ?_)
  dsimp only
  unfold setsByText
  refine wpAny_bind (wpAny_bind (wpAny_askSetting (wpAny_pure ?_)))
  show wpAny _ _ (if w.params.followText "set-order" = true then _ else _) _ _ _
  rw [hb,if_pos rfl]
  refine wpAny_bind (wpAny_askSetting (wpAny_pure ?_))
  refine wpAny_pure ?_
  have e0:∀ i,slotAt true L i=0:=fun i=>by cases i<;>rfl
  rw [e0,Array.getElem?_toList] at hQ
  rw [e0]
  exact hQ
 |false =>
  rw [hb] at hQ T
  rw [if_neg Bool.false_ne_true]
  simp only [Bool.false_eq_true,↓reduceIte] at hQ
  refine wpAny_ite_split (fun bE=>?_) (fun _=>?_)
  ·exfalso
   have h2:(!t.plain&&decide ((L.map (·.2)).toArray.size > 1))=true:=bE
   rw [T.plain] at h2
   cases h2
  ·have hl:t.led=true:=T.led
   have iZ:∀ {Q':Unit->Shared->Prop},Q' () s->wpAny (model prog w) A (if (!t.led && !(L.map (·.2)).toArray.isEmpty)=true then unsupported "set:maker-not-led" else pure ()) Q' E s:=fun hq=>by
    rw [if_neg (by rw [hl];exact Bool.false_ne_true)]
    exact wpAny_pure hq
   refine wpAny_bind (iZ ?_)
   rw [T.place,OO T.up hi]
   rcases Nat.lt_or_ge i L.length with h | h
   ·have e1:(L.map (·.2)).toArray[i]?=some L[i].2:=by
     rw [List.getElem?_toArray,List.getElem?_map,List.getElem?_eq_getElem h]
     rfl
    have e2:(L.map (·.1)).toArray[i]?=some L[i].1:=by
     rw [List.getElem?_toArray,List.getElem?_map,List.getElem?_eq_getElem h]
     rfl
    have e3:(L.map (·.2))[i]?=some L[i].2:=by rw [<- List.getElem?_toArray];exact e1
    have e4:slotAt false L (i+1)=L[i].1+1:=by
     show (L.map (·.1)).getD i 0+1=_
     rw [List.getD_eq_getElem?_getD,List.getElem?_map,List.getElem?_eq_getElem h]
     rfl
    rw [e1,e2]
    rw [e3,e4] at hQ
    exact wpAny_pure hQ
   ·have e1:(L.map (·.2)).toArray[i]?=none:=by
     rw [List.getElem?_toArray,List.getElem?_eq_none_iff,List.length_map]
     exact h
    have e3:(L.map (·.2))[i]?=none:=by rw [<- List.getElem?_toArray];exact e1
    rw [e1]
    rw [e3] at hQ
    exact wpAny_pure hQ
theorem Mu {it a:Addr}{i ep:Nat}{L:List Ent}{e:Int×Value}{Q:Option Value->Shared->Prop}
  (hit:jC s.heap it a (slotAt (w.params.followText "set-order") L i) i L.length ep) (hs:gW (!w.params.followText "set-order") s.heap a L ep) (hx:(iz w a ep L)[i]?=some e) (eI:a ≠ it)
  (hQ:∀ h',jC h' it a (slotAt (w.params.followText "set-order") L (i+1)) (i+1) L.length ep->Heap.SameBut it s.heap h'->Q (some e.2) { s with heap:=h' }) :
  wpAny (model prog w) A (pyNext (.ref it)) Q E s:=by
 obtain ⟨o,ho,hc,hd⟩:=id hit
 obtain ⟨os,t,jR,Vh,kR,T,hf⟩:=id hs
 have hi:i<L.length:=by
  have:=(List.getElem?_eq_some_iff.mp hx).1
  rw [(pK w a ep L).length_eq,List.length_map] at this
  exact this
 unfold pyNext
 refine wpAny_bind (wpAny_attempt (wpAny_callSpecial?_slot (name:=Str.ofString "__next__") hit.typeIs L2.nA
  (wpAny_call_entry L2.nA hit.typeIs L2.Df ?_ (L2.Dj _))))
 unfold Builtin.«set_iterator.__next__»
 refine wpAny_bind (wpAny_pure ?_)
 refine wpAny_bind (wpAny_fieldsOf ho hd ?_)
 dsimp only
 refine wpAny_bind (wpAny_setEntries_of jR kR hf ?_)
 rw [if_neg (by rw [List.size_toArray,List.length_map];simp)]
 dsimp only [Int.toNat_natCast]
 refine wpAny_bind (Ex hs (Nat.le_of_lt hi) ?_)
 rw [hx]
 dsimp only [Option.map_some]
 refine wpAny_bind (wpAny_setField ho hd (by simp) ?_)
 have rX:(s.heap.update it (Obj.mapFields (·.setIfInBounds 0 (rawInt ((slotAt (w.params.followText "set-order") L (i+1):Nat):Int))))).get? it=some _:=Heap.get?_update_self _ ho (Obj.isFreed_of_fields (Obj.data_mapFields hd _))
 refine wpAny_bind (wpAny_setField (s:={ s with heap:=_ }) rX (Obj.data_mapFields hd _) (by simp) ?_)
 refine wpAny_pure ⟨_,rfl,wpAny_pure (hQ _ ?_ ?_)⟩
 ·refine ⟨_,Heap.get?_update_self _ rX (Obj.isFreed_of_fields (Obj.data_mapFields (Obj.data_mapFields hd _) _)),?_,?_⟩
  ·rw [Obj.cls_mapFields,Obj.cls_mapFields,hc]
  ·rw [Obj.data_mapFields (Obj.data_mapFields hd _)]
   simp [rawInt]
 ·exact (Heap.SameBut.update ..).trans (Heap.SameBut.update ..)
theorem ME {it a:Addr}{i ep:Nat}{L:List Ent}{Q:Option Value->Shared->Prop}(hh:A.handled=none)
  (hit:jC s.heap it a (slotAt (w.params.followText "set-order") L i) i L.length ep) (hs:gW (!w.params.followText "set-order") s.heap a L ep) (hi:i=L.length)
  (hQ:∀ h',Heap.ExtBut it s.heap h'->Q none { s with heap:=h' }):wpAny (model prog w) A (pyNext (.ref it)) Q E s:=by
 obtain ⟨o,ho,hc,hd⟩:=id hit
 obtain ⟨os,t,jR,Vh,kR,T,hf⟩:=id hs
 unfold pyNext
 refine wpAny_bind (wpAny_attempt (wpAny_callSpecial?_slot (name:=Str.ofString "__next__") hit.typeIs L2.nA
  (wpAny_call_entry L2.nA hit.typeIs L2.Df ?_ (L2.Dj _))))
 unfold Builtin.«set_iterator.__next__»
 refine wpAny_bind (wpAny_pure ?_)
 refine wpAny_bind (wpAny_fieldsOf ho hd ?_)
 dsimp only
 refine wpAny_bind (wpAny_setEntries_of jR kR hf ?_)
 rw [if_neg (by rw [List.size_toArray,List.length_map];simp)]
 dsimp only [Int.toNat_natCast]
 refine wpAny_bind (Ex hs (Nat.le_of_eq hi) ?_)
 rw [show (iz w a ep L)[i]?=none by rw [List.getElem?_eq_none_iff,(pK w a ep L).length_eq,List.length_map,hi];exact Nat.le_refl _]
 dsimp only [Option.map_none]
 refine wpAny_bind (wpAny_setField ho hd (by simp) ?_)
 show wpAny _ _ (newExc (.type "StopIteration") [] >>= _) _ _ _
 refine wpAny_bind ?_
 simp only [newExc,newTuple]
 refine wpAny_bind (wpAny_newObj_type ?_ (by size_fits))
 refine wpAny_bind (m:=firstArgMember _ _) (wpAny_of_eq (a:=Value.none) (by first | rfl | (simp only [firstArgMember];rfl)) ?_)
 refine wpAny_newObj_type ?_ (by size_fits)
 simp only [raiseNew]
 refine wpAny_bind (wpAny_handled ?_)
 rw [show A.in1.handled=none from hh]
 refine wpAny_bind (wpAny_pure (wpAny_throw ?_))
 refine wpAny_bind (wpAny_isInstance (T := "StopIteration") (b:=true) ⟨_,Heap.get?_push_size _ rfl,rfl⟩ isSubtype_stop ?_)
 exact wpAny_pure (hQ _ (((Heap.SameBut.update ..).extBut.push _).push _))
theorem PN {I a:Addr}{L:List Ent}{ep:Nat}(hh:A.handled=none)(eI:a ≠ I) :
  Walks prog w A I [I,a] [I] L.length (fun i v=>∃ x,(iz w a ep L)[i]?=some (x,v)) (fun i h=>jC h I a (slotAt (w.params.followText "set-order") L i) i L.length ep/\gW (!w.params.followText "set-order") h a L ep) where
 sub:=fun b hb=>by simp at hb;simp [hb]
 frame:=fun _ _ _ st hk=>⟨st.1.at fun o e=>hk I (by simp) o e,st.2.at fun o e=>hk a (by simp) o e⟩
 item:=fun i s Q E hi st hQ=>by
  have hl:i<(iz w a ep L).length:=by rw [(pK w a ep L).length_eq,List.length_map];exact hi
  obtain ⟨⟨x,v⟩,hx⟩:∃ p,(iz w a ep L)[i]?=some p:=⟨_,List.getElem?_eq_getElem hl⟩
  refine Mu st.1 st.2 hx eI fun h' Vi j7=>?_
  exact hQ v h' s.toks ⟨x,hx⟩ ⟨Vi,st.2.at fun o e=>j7.extBut a o eI e⟩ fun b o hb e=>j7.extBut b o (fun h=>hb (by simp [h])) e
 done:=fun s Q E st hQ=>ME hh st.1 st.2 rfl fun h' hW=>hQ h' s.toks fun b o hb e=>hW b o (fun h=>hb (by simp [h])) e
 self:=fun i s Q E st hQ=>by
  refine wpAny_pyIter_slot st.1.typeIs L2.Dk (wpAny_call_entry L2.Dk st.1.typeIs L2.MC ?_ (L2.M4 _))
  show wpAny _ _ (ret (.ref I)) _ _ s
  exact wpAny_pure ⟨_,rfl, "set_iterator",_,st.1.typeIs,L2.nA.lookup,hQ⟩
theorem Sd {a:Addr}{L:List Ent}{ep:Nat} :
  PySem.W.KdlSrc prog w "set" a a L.length (fun i v=>∃ x,(iz w a ep L)[i]?=some (x,v)) (fun h=>gW (!w.params.followText "set-order") h a L ep) where
 type:=fun _ hm=>hm.typeIs
 there:=fun _ hm=>let ⟨_,_,ho,_⟩:=hm;⟨Heap.lt_size ho,Heap.lt_size ho⟩
 keep:=fun _ _ hm hk=>hm.at fun o e=>hk a (.inl rfl) o e
 notList:=by decide
 notTuple:=by decide
 hint:=fun _ _ _ _ hm hq=>L2.Qx hm.typeIs hq
 iter:=fun _ _ hh hm=>⟨_,_,(fun _ _ hq=>QE hm hq),PN hh (let ⟨_,_,ho,_⟩:=hm;Nat.ne_of_lt (Heap.lt_size ho)),⟨⟨_,Heap.get?_push_size _ rfl,rfl,rfl⟩,hm.at fun o e=>Heap.get?_push_of_some _ e⟩⟩
end
end Ts
namespace L2
open PySem PySem.Spec PyProof.Rows
def fm (x y:List Int):Prop:=So.lexLt y x=false
def iG (ds:List (List Int)):List (List Int):=ds.mergeSort fun a b=>!So.lexLt b a
theorem pO (ds:List (List Int)):(iG ds).Perm ds:=List.mergeSort_perm ..
theorem Fy (ds:List (List Int)):(iG ds).Pairwise fm:=by
 have:=List.pairwise_mergeSort (le:=fun a b:List Int=>!So.lexLt b a) (fun a b c h1 h2=>by
  simp only [Bool.not_eq_true'] at *
  cases h:So.lexLt c a with
  |false=>rfl
  |true =>
   rcases So.ye c b a h with z | z
   ·rw [h2] at z;cases z
   ·rw [h1] at z;cases z) (fun a b=>by
  simp only [Bool.or_eq_true,Bool.not_eq_true']
  cases h:So.lexLt b a with
  |false=>exact .inl rfl
  |true =>
   right
   cases z:So.lexLt a b with
   |false=>rfl
   |true =>
    have:=So.tX a b a z h
    rw [So.oB] at this;cases this) ds
 exact this.imp fun h=>by simpa [fm] using h
theorem DC {a b:List (List Int)}(p:a.Perm b)(ha:a.Pairwise fm)(hb:b.Pairwise fm):a=b:=List.Perm.eq_of_pairwise (fun x y _ _ h1 h2=>So.tL x y h2 h1) ha hb p
abbrev dT (d:List Int):Dv:=.tup (d.map di)
theorem tM:∀ {as:List Addr} {its:List Value},Vals (as.map V.ref) its->its=as.map Value.ref
 |[],_,r=>by rw [List.map_nil] at r;cases r;rfl
 |a::as,_,r=>by
  rw [List.map_cons] at r
  cases r with
  |cons h t=>cases h;rw [tM t];rfl
structure vp (K:PySem.W.Frag) (H:Hp) (as:List Addr) (ds:List (List Int)):Prop where
 len:as.length=ds.length
 at_:∀ (j:Nat) (a:Addr) (d:List Int),as[j]?=some a->ds[j]?=some d->bY K H a (d.map V.int)
theorem tN {K:PySem.W.Frag}{G:Hp}:∀ {ds:List (List Int)} {ys:List V},aD K G (ds.map dT) ys->∃ as:List Addr,ys=as.map V.ref/\vp K G as ds
 |[],_,h=>by cases h;exact ⟨[],rfl,rfl,fun j a d h=>nomatch h⟩
 |d::ds,_,h=>by
  obtain ⟨y,ys,rfl,⟨a,vs,rfl,h1,h2⟩,h3⟩:=h
  obtain ⟨as,rfl,T⟩:=tN h3
  have:=lC h2
  subst this
  refine ⟨a::as,rfl,by rw [List.length_cons,List.length_cons,T.len],fun j a' d' e1 e2=>?_⟩
  cases j with
  |zero=>cases e1;cases e2;exact h1
  |succ j=>exact T.at_ j a' d' e1 e2
theorem xu {K:PySem.W.Frag}{G:Hp}:∀ {qs:List (Addr×List Int)},(∀ q ∈ qs,bY K G q.1 (q.2.map V.int))->aD K G (qs.map fun q=>dT q.2) (qs.map fun q=>V.ref q.1)
 |[],_=>rfl
 |q::qs,h=>⟨_,_,rfl,⟨q.1,_,rfl,h q (List.mem_cons_self ..),lD⟩,xu fun x hx=>h x (List.mem_cons_of_mem _ hx)⟩
section
variable {X:Cx}{pins:List (Addr×Obj)}{σ:St}{H:Hp}{s:Shared}
theorem tO {a:Addr}{d:List Int}(I:Inv X pins σ H s)(h:bY X.K H a (d.map V.int)):So.cI s.heap (.ref a)=some d:=by
 obtain ⟨its,r,p,_⟩:=I.tuple h
 exact So.G8 p (intsAre_of r)
def Hg (K:PySem.W.Frag):List V->Hp->VK->Prop:=fun xs H Q=>∃ (p:Addr) (as:List Addr) (ds:List (List Int)),xs=[.ref p]/\aN K H p (as.map V.ref)/\vp K H as ds/\(∀ d ∈ ds,d ≠ [])/\ds.length<128 /\
  ∀ (l:Addr) (qs:List (Addr×List Int)),H l=none->qs.Perm (as.zip ds)->(qs.map (·.2)).Pairwise fm->Q (.ref l) (upd H l (.lst (qs.map fun q=>.ref q.1)))
theorem TF {as:List Addr}{ds:List (List Int)}{kd:Addr->List Int}(hl:as.length=ds.length)(h:∀ (j:Nat) (a:Addr) (d:List Int),as[j]?=some a->ds[j]?=some d->kd a=d):as.zip ds=as.map fun a=>(a,kd a):=by
 refine List.ext_getElem? fun i=>?_
 rw [List.getElem?_map]
 rcases Nat.lt_or_ge i as.length with hi | hi
 ·have fj:i<ds.length:=by omega
  rw [List.getElem?_eq_getElem hi,List.getElem?_eq_getElem (by rw [List.length_zip];omega),List.getElem_zip]
  show some (as[i],ds[i])=some (as[i],kd as[i])
  rw [h i as[i] ds[i] (List.getElem?_eq_getElem hi) (List.getElem?_eq_getElem fj)]
 ·rw [List.getElem?_eq_none hi,List.getElem?_eq_none (by rw [List.length_zip];omega)];rfl
theorem NK:du X (.builtin "sorted") (Hg X.K):=by
 intro pins s σ H xs us Q I r h
 obtain ⟨p,as,ds,rfl,hq,T,ne,hz,q⟩:=h
 obtain ⟨u,rfl,rx⟩:=vals1 r
 cases rx
 obtain ⟨its,rv,pl,dH⟩:=I.list hq
 have:=tM rv
 subst this
 have big : 1000<sizeLine:=by decide
 have hl:=T.len
 obtain ⟨kd,vq⟩:∃ kd:Addr->List Int,kd=fun a=>So.kI s.heap (.ref a):=⟨_,rfl⟩
 have si:∀ (j:Nat) (a:Addr) (d:List Int),as[j]?=some a->ds[j]?=some d->kd a=d:=fun j a d e1 e2=>by
  rw [vq]
  show (So.cI s.heap (.ref a)).getD []=d
  rw [tO I (T.at_ j a d e1 e2)];rfl
 refine So.N4 pl.isList (fun v hv=>?_) (by rw [List.length_map];omega) fun out p1 p2=>?_
 ·obtain ⟨a,ha,rfl⟩:=List.mem_map.mp hv
  obtain ⟨j,hj,ej⟩:=List.getElem_of_mem ha
  have e1:as[j]?=some a:=by rw [List.getElem?_eq_getElem hj,ej]
  have e2:ds[j]?=some (ds[j]'(by omega)):=List.getElem?_eq_getElem (by omega)
  have k:=tO I (T.at_ j a _ e1 e2)
  cases hd:ds[j]'(by omega) with
  |nil=>exact absurd hd (ne _ (List.getElem_mem _))
  |cons n ns=>exact ⟨n,ns,by rw [k,hd]⟩
 ·obtain ⟨bs,pm,eo⟩:=wY p1
  obtain ⟨e,he⟩:=sortedAll_at s.heap (as.map Value.ref) out
  have hb:bs.length=as.length:=pm.length_eq
  have fin:=q (s.heap.objs.size+1) (bs.map fun a=>(a,kd a)) (I.az.fresh (Nat.le_succ _)) (by rw [TF hl si];exact pm.map _) (by
   rw [List.map_map,List.pairwise_map]
   unfold So.mB at p2
   rw [eo,List.pairwise_map] at p2
   refine p2.imp fun {x y} z=>?_
   show So.lexLt (kd y) (kd x)=false
   rw [vq]
   exact z)
  rw [List.map_map] at fin
  refine ⟨.ref (s.heap.objs.size+1),_,I.laid (t':=s.toks) (o:=.lst (bs.map V.ref)) (fun b o e=>sortedAll_old e) (Nat.le_succ _) ?_,rfl,fin⟩
  exact ⟨by rw [List.length_map];omega,out.toList,e,by rw [eo];exact wZ bs,by rw [Array.toArray_toList];exact he⟩
end
abbrev lP (p:Nat×Nat):List Int:=[(p.1:Int),(p.2:Int)]
section
variable {X:Cx}{pins:List (Addr×Obj)}{σ:St}{H:Hp}{s:Shared}
theorem TH {a:Addr}{p:Nat×Nat}(I:Inv X pins σ H s)(h:bY X.K H a ((lP p).map V.int)):Ts.dZ s.heap p a:=by
 obtain ⟨its,r,⟨o,h1,h2,n,h3⟩,_⟩:=I.tuple h
 cases r with
 |cons e1 r =>
  cases r with
  |cons e2 r =>
   cases r
   obtain ⟨t,rfl⟩:=e1
   obtain ⟨u,rfl⟩:=e2
   exact ⟨o,n,t,u,h1,h2,h3⟩
def oU (w:World) (l:Addr) (L:List Ts.Ent):HO:=.ext fun h=>Ts.fc (!w.params.followText "set-order") h l L
def Iu (K:PySem.W.Frag)(w:World):List V->Hp->VK->Prop:=fun xs H Q=>∃ (p:Addr) (as:List Addr) (ps:List (Nat×Nat)),xs=[.ref p]/\aN K H p (as.map V.ref)/\vp K H as (ps.map lP)/\(∀ p ∈ ps,p.1<=6/\p.2<=6) /\
  ∀ l L,H l=none->Ts.Acc as ps as.length L->(L.map (·.2.1)).Nodup->L.length<=49->Q (.ref l) (upd H l (oU w l L))
theorem PQ (hc:X.calm=true) (hu:X.A.units+64<cLine):du X (.type "set") (Iu X.K X.w):=by
 intro pins s σ H xs us Q I r h
 obtain ⟨p,as,ps,rfl,hq,T,sm,q⟩:=h
 obtain ⟨u,rfl,rx⟩:=vals1 r
 cases rx
 obtain ⟨its,rv,pl,_⟩:=I.list hq
 have:=tM rv
 subst this
 have hP:Ts.jq s.heap as ps:=⟨by rw [T.len,List.length_map],sm,fun j a p e1 e2=>TH I (T.at_ j a _ e1 (by rw [List.getElem?_map,e2];rfl))⟩
 refine Ts.OM (I.ok.hd hc) (by omega) pl.isList hP fun h' tk L hs hA kp=>?_
 have nd:(L.map (·.2.1)).Nodup:=by obtain ⟨_,_,_,_,_,_,T⟩:=id hs;exact T.nd
 refine ⟨.ref s.heap.objs.size,_,I.laid (t':=tk) (o:=oU X.w s.heap.objs.size L) kp (Nat.le_refl _) ?_,rfl,q _ L (I.az.fresh (Nat.le_refl _)) hA nd (hA.len hP nd)⟩
 refine ⟨hs,?_,fun h1 h2 x e=>x.at e⟩
 obtain ⟨o,_,_,ho,_⟩:=hs
 exact ⟨o,ho⟩
def Hh (K:PySem.W.Frag)(w:World):List V->Hp->VK->Prop:=fun xs H Q=>∃ (p:Addr) (L:List Ts.Ent) (rs:List (Addr×(Nat×Nat))),xs=[.ref p]/\H p=some (oU w p L)/\L.map (·.2.2)=rs.map (fun r=>Value.ref r.1)/\(∀ r ∈ rs,bY K H r.1 ((lP r.2).map V.int))/\rs.length<128 /\
  ∀ (l:Addr) (qs:List (Addr×List Int)),H l=none->qs.Perm (rs.map fun r=>(r.1,lP r.2))->(qs.map (·.2)).Pairwise fm->Q (.ref l) (upd H l (.lst (qs.map fun q=>.ref q.1)))
theorem NM (hc:X.calm=true):du X (.builtin "sorted") (Hh X.K X.w):=by
 intro pins s σ H xs us Q I r h
 obtain ⟨p,L,rs,rfl,hp,hL,hr,hz,q⟩:=h
 obtain ⟨u,rfl,rx⟩:=vals1 r
 cases rx
 have hS:Ts.fc (!X.w.params.followText "set-order") s.heap p L:=(show cJ X.prog X.w H s.heap p (oU X.w p L) from I.az p _ hp).1
 obtain ⟨o,t,ep,h1,h2,h3,h4⟩:=hS
 have hE:Ts.gW (!X.w.params.followText "set-order") s.heap p L ep:=⟨o,t,h1,h2,h3,h4,h4.fits⟩
 have big : 1000<sizeLine:=by decide
 have Ll:L.length=rs.length:=by
  have:=congrArg List.length hL
  rw [List.length_map,List.length_map] at this
  exact this
 have tup:∀ r ∈ rs,So.cI s.heap (.ref r.1)=some (lP r.2):=fun r ng=>tO I (hr r ng)
 refine Calls.call_function_entry kind_sorted plain_sorted entry_sorted (args_sorted1 _) ?_
 unfold Builtin.«sorted»
 refine wpAny_bind (m:=checkCount "sorted" 1 1 _) (wpAny_pure ?_)
 refine wpAny_bind (PySem.W.kdu_collect (A:=X.A.in1) (Ts.Sd (L:=L) (ep:=ep)) (I.ok.hd hc) hE (by omega) fun h' tk acc hk dO=>?_)
 have ha:acc.toList.length=L.length:=by rw [Array.length_toList,dO.1]
 have zv:acc.toList=(Ts.iz X.w p ep L).map (·.2):=by
  apply List.ext_getElem?
  intro j
  rcases Nat.lt_or_ge j acc.toList.length with hj | hj
  ·obtain ⟨x,hx⟩:=dO.2 j acc.toList[j] (by rw [<- Array.getElem?_toList];exact List.getElem?_eq_getElem hj)
   rw [List.getElem?_eq_getElem hj,List.getElem?_map,hx]
   rfl
  ·rw [List.getElem?_eq_none hj,List.getElem?_eq_none (by rw [List.length_map,(Ts.pK X.w p ep L).length_eq,List.length_map,<- ha];exact hj)]
 have pv:acc.toList.Perm (rs.map fun r=>Value.ref r.1):=by
  rw [zv,<- hL]
  have:=(Ts.pK X.w p ep L).map (·.2)
  rw [List.map_map] at this
  exact this
 have pv':acc.toList.Perm ((rs.map (·.1)).map Value.ref):=by rw [List.map_map];exact pv
 obtain ⟨ks,pk,ea⟩:=wY pv'
 have known:∀ a ∈ ks,∃ r ∈ rs,r.1=a:=fun a hm=>by
  obtain ⟨r,h1,h2⟩:=List.mem_map.mp (pk.mem_iff.mp hm)
  exact ⟨r,h1,h2⟩
 refine wpAny_bind (wpAny_newList ?_ (by rw [ha];omega))
 have kM:(h'.push (seqObj "list" acc.toList.toArray 0)).get? h'.objs.size=some (seqObj "list" acc.toList.toArray 0):=Heap.get?_push_size _ rfl
 have yD:∀ v ns,So.cI s.heap v=some ns->So.cI (h'.push (seqObj "list" acc.toList.toArray 0)) v=some ns:=fun v ns e=>So.sY e fun t o _ ht _=>Heap.get?_push_of_some _ (hk t o ht)
 refine wpAny_bind (wpAny_holding (wpAny_call_entry slot_list_sort ⟨_,kM,rfl⟩ entry_list_sort (So.Dg (s:={ s with heap:=h'.push (seqObj "list" acc.toList.toArray 0),toks:=tk }) kM (fun v hv=>?_) (by rw [ha];omega) fun out p1 p2=>⟨_,rfl,wpAny_pure ⟨_,rfl,?_⟩⟩) (args_list_sort _)))
 ·rw [ea] at hv
  obtain ⟨a,hm,rfl⟩:=List.mem_map.mp hv
  obtain ⟨r,ng,rfl⟩:=known a hm
  exact ⟨_,_,yD _ _ (tup r ng)⟩
 ·rw [ea] at p1
  obtain ⟨bs,pm,eo⟩:=wY p1
  obtain ⟨e,heL⟩:=sortedHeap_at (out:=out) kM
  have I1:Inv X pins σ H { s with heap:=h',toks:=tk }:=I.kept (t':=tk) hk
  obtain ⟨kd,vq⟩:∃ kd:Addr->List Int,kd=fun a=>(So.cI s.heap (.ref a)).getD []:=⟨_,rfl⟩
  have si:∀ r ∈ rs,kd r.1=lP r.2:=fun r ng=>by rw [vq];show (So.cI s.heap (.ref r.1)).getD []=_;rw [tup r ng];rfl
  have lt:bs.length=rs.length:=by rw [pm.length_eq,pk.length_eq,List.length_map]
  have fin:=q h'.objs.size (bs.map fun a=>(a,kd a)) (I1.az.fresh (Nat.le_refl _)) (by
   have:=(pm.trans pk).map fun a=>(a,kd a)
   rw [List.map_map] at this
   refine this.trans (List.Perm.of_eq (List.map_congr_left fun r ng=>?_))
   show (r.1,kd r.1)=_
   rw [si r ng]) (by
   rw [List.map_map,List.pairwise_map]
   unfold So.mB at p2
   rw [eo,List.pairwise_map] at p2
   refine p2.imp_of_mem fun {x y} hx hy z=>?_
   obtain ⟨rx,KW,rfl⟩:=known x (pm.mem_iff.mp hx)
   obtain ⟨ry,KY,rfl⟩:=known y (pm.mem_iff.mp hy)
   unfold So.kI at z
   rw [yD _ _ (tup rx KW),yD _ _ (tup ry KY)] at z
   show So.lexLt (kd ry.1) (kd rx.1)=false
   rw [si rx KW,si ry KY]
   exact z)
  rw [List.map_map] at fin
  refine ⟨.ref h'.objs.size,_,I1.laid (t':=tk) (o:=.lst (bs.map V.ref)) (fun b o eb=>?_) (Nat.le_refl _) ?_,rfl,fin⟩
  ·have lt:b<h'.objs.size:=Heap.lt_size eb
   rw [sortedHeap_old (Nat.ne_of_lt lt) (by rw [size_push'];exact Nat.lt_succ_of_lt lt),Heap.get?_push_ne _ _ _ (Nat.ne_of_lt lt)]
   exact eb
  ·refine ⟨by rw [List.length_map];omega,out.toList,e,?_,by rw [Array.toArray_toList];exact heL⟩
   rw [eo]
   exact wZ bs
end
def gX (ps:List (Nat×Nat)):List (Nat×Nat):=Ts.jM.filter fun p=>ps.contains p
theorem Se:(Ts.jM.map lP).Pairwise fm:=by
 have key:((Ts.jM.map lP).Pairwise fun x y=>So.lexLt y x=false):=by decide +kernel
 exact key
theorem Sf:Ts.jM.Nodup:=by decide +kernel
theorem Ey {p:Nat×Nat}:p ∈ Ts.jM ↔ p.1<=6/\p.2<=6:=by
 constructor
 ·intro h
  obtain ⟨a,ha,h⟩:=List.mem_flatMap.mp h
  obtain ⟨b,hb,rfl⟩:=List.mem_map.mp h
  have:=List.mem_range.mp ha
  have:=List.mem_range.mp hb
  exact ⟨by show a<=6;omega,by show b<=6;omega⟩
 ·intro h
  exact List.mem_flatMap.mpr ⟨p.1,List.mem_range.mpr (by omega),List.mem_map.mpr ⟨p.2,List.mem_range.mpr (by omega),rfl⟩⟩
section
variable {ι:Type}{F:aO ι}{e a b c:Expr}{es:List Expr}{ρ:En}{t ta bA:Tr}{ts:List Tr}{pos:Pos}
theorem N7 {ps:List (Nat×Nat)} (hm:F.mg "sorted" = none) (iR:F.mg "set" = none) (ha:Ev F a ρ ta) (ea:er ta=.lst ((ps.map lP).map dT)) (sm:∀ p ∈ ps,p.1<=6/\p.2<=6) {p1 p2 iE:Pos} (hg:∀ i,Gl (F.cx i) "sorted" := by intro _;rfl) (fY:∀ i,Gl (F.cx i) "set" := by intro _;rfl)
  (hs:∀ i,starEach [a] (F.cx i).env=[(false,eval a (F.cx i).env)]:=by intro _;rfl) (dq:∀ i,starEach [.Call (.Name "set" p2) [a] [] iE] (F.cx i).env=[(false,eval (.Call (.Name "set" p2) [a] [] iE) (F.cx i).env)]:=by intro _;rfl) :
  Ev F (.Call (.Name "sorted" p1) [.Call (.Name "set" p2) [a] [] iE] [] pos) ρ (.ow (((gX ps).map lP).map fun d=>.fz (dT d))):=by
 obtain ⟨τ,p,q⟩:=ha.use
 refine ⟨jP (Hh F.K F.w) (df (jP (Iu F.K F.w) (df τ eA)) eA),fun i=>sS (F.hK i ▸ F.hw i ▸ NM (F.calm i)) (hg i) ((F.hm i).symm ▸ hm) wN (cX (sO (F.hK i ▸ F.hw i ▸ PQ (F.calm i) (F.hr i).units) (fY i) ((F.hm i).symm ▸ iR) GI (cX (p i) dN (hs i)) (by decide) (by decide) (hs i) rfl) dN (dq i)) (by decide) (by decide) (dq i) rfl,fun σ G H Q s rr k=>q σ G H _ s rr fun v G1 H1 s1 hx=>?_⟩
 rw [ea] at hx
 obtain ⟨l,ys,rfl,h1,h2⟩:=hx
 obtain ⟨as,rfl,T⟩:=tN h2
 have pl:ps.length=as.length:=by rw [T.len,List.length_map]
 refine ⟨l,as,ps,rfl,s1.s.seq h1,⟨T.len,fun j a d e1 e2=>ak.tup s1.s (T.at_ j a d e1 e2)⟩,sm,fun l0 L kT hA nd hL=>?_⟩
 have ex:∀ e ∈ L,∃ r:Addr×(Nat×Nat),e.2=(Ts.hP r.2,Value.ref r.1)/\bY F.K G1 r.1 ((lP r.2).map V.int)/\r.2 ∈ ps:=fun e he=>by
  obtain ⟨j,a,p,_,e1,e2,e3⟩:=hA.src e he
  exact ⟨(a,p),e3,T.at_ j a _ e1 (by rw [List.getElem?_map,e2];rfl),List.mem_of_getElem? e2⟩
 obtain ⟨rs,hrs⟩:∃ rs:List (Addr×(Nat×Nat)),L.map (·.2)=rs.map (fun r=>(Ts.hP r.2,Value.ref r.1))/\∀ r ∈ rs,bY F.K G1 r.1 ((lP r.2).map V.int)/\r.2 ∈ ps:=by
  clear hA nd hL
  induction L with
  |nil=>exact ⟨[],rfl,fun r h=>nomatch h⟩
  |cons e L ih =>
   obtain ⟨rs,i1,i2⟩:=ih fun x hx=>ex x (List.mem_cons_of_mem _ hx)
   obtain ⟨r,r1,r2⟩:=ex e (List.mem_cons_self ..)
   refine ⟨r::rs,by rw [List.map_cons,List.map_cons,i1,r1],fun x hx=>?_⟩
   rcases List.mem_cons.mp hx with rfl | hx
   ·exact r2
   ·exact i2 x hx
 obtain ⟨KZ,sk⟩:=hrs
 have eh:L.map (·.2.1)=(rs.map (·.2)).map Ts.hP:=by
  have:=congrArg (List.map (·.1)) KZ
  rw [List.map_map,List.map_map] at this
  rw [List.map_map]
  exact this
 have ev:L.map (·.2.2)=rs.map (fun r=>Value.ref r.1):=by
  have:=congrArg (List.map (·.2)) KZ
  rw [List.map_map,List.map_map] at this
  exact this
 have rl:rs.length=L.length:=by
  have:=congrArg List.length ev
  rw [List.length_map,List.length_map] at this
  exact this.symm
 refine ⟨l0,L,rs,rfl,d8,ev,fun r hr=>ak.tup (s1.s.trans (ak.new kT)) (sk r hr).1,by omega,fun l2 qs uW pm pw=>?_⟩
 have k2:=k.step (s1.trans (Step.kG (o:=oU F.w l0 L) s1.s kT))
 have ndk:(rs.map (·.2)).Nodup:=by
  rw [eh] at nd
  exact List.Pairwise.of_map _ (fun a b bE z=>bE (by rw [z])) nd
 have mem:∀ x,x ∈ rs.map (·.2) ↔ x ∈ gX ps:=fun x=>by
  unfold gX
  rw [List.mem_filter,Ey]
  constructor
  ·intro h
   obtain ⟨r,hr,rfl⟩:=List.mem_map.mp h
   exact ⟨sm _ (sk r hr).2,by simpa using (sk r hr).2⟩
  ·rintro ⟨h1,h2⟩
   have h2:x ∈ ps:=by simpa using h2
   obtain ⟨j,hj,ej⟩:=List.getElem_of_mem h2
   have:=hA.all j x (by omega) (by rw [List.getElem?_eq_getElem hj,ej])
   rw [eh] at this
   obtain ⟨y,hy,e⟩:=List.mem_map.mp this
   obtain ⟨r,hr,rfl⟩:=List.mem_map.mp hy
   have:=Ts.Hf (sm _ (sk r hr).2) h1 e
   rw [<- this];exact hy
 have pp:(rs.map (·.2)).Perm (gX ps):=(List.perm_ext_iff_of_nodup ndk (Sf.sublist List.filter_sublist)).mpr mem
 have e2:qs.map (·.2)=(gX ps).map lP:=DC (by
  refine (pm.map (·.2)).trans ?_
  rw [List.map_map]
  have:=pp.map lP
  rw [List.map_map] at this
  exact this) pw (by
  refine Se.sublist ?_
  exact List.Sublist.map _ List.filter_sublist)
 refine k2.lst (s1.s.trans (ak.new kT)) ?_ uW
 rw [<- e2,List.map_map]
 have:=(xu (K:=F.K) (G:=G1) (qs:=qs) fun q hq=>by
  have hq:=pm.mem_iff.mp hq
  obtain ⟨r,hr,rfl⟩:=List.mem_map.mp hq
  exact (sk r hr).1).hG (H:=upd H1 l0 (oU F.w l0 L))
 rw [List.map_map] at this
 exact this
end
section
variable {ι:Type}{F:aO ι}{e a b c:Expr}{es:List Expr}{ρ:En}{t ta bA:Tr}{ts:List Tr}{pos:Pos}
theorem OQ {ds:List (List Int)} (hm:F.mg "sorted" = none) (ha:Ev F a ρ ta) (ea:er ta=.lst (ds.map dT)) (ne:∀ d ∈ ds,d ≠ []) (hz:ds.length<128) {p':Pos} (hg:∀ i,Gl (F.cx i) "sorted" := by intro _;rfl)
  (hs:∀ i,starEach [a] (F.cx i).env=[(false,eval a (F.cx i).env)]:=by intro _;rfl):Ev F (.Call (.Name "sorted" p') [a] [] pos) ρ (.ow ((iG ds).map fun d=>.fz (dT d))) :=
 lE (r:=Hg F.K) (fun i=>F.hK i ▸ NK) hm wN (ag ha aj hs) (fun G H vs Q s hx k=>by
  obtain ⟨x,rfl,dm⟩:=gV hx
  rw [ea] at dm
  obtain ⟨l,ys,rfl,h1,h2⟩:=dm
  obtain ⟨as,rfl,T⟩:=tN h2
  refine ⟨l,as,ds,rfl,s.seq h1,⟨T.len,fun j a d e1 e2=>ak.tup s (T.at_ j a d e1 e2)⟩,ne,hz,fun l2 qs uW pm pw=>?_⟩
  have e2:qs.map (·.2)=iG ds:=DC ((pm.map (·.2)).trans (by rw [List.map_snd_zip (Nat.le_of_eq T.len.symm)];exact (pO ds).symm)) pw (Fy ds)
  refine k.lst s ?_ uW
  rw [<- e2,List.map_map]
  have:=(xu (K:=F.K) (G:=G) (qs:=qs) fun q hq=>by
   have hq:=pm.mem_iff.mp hq
   obtain ⟨j,hj,ej⟩:=List.getElem_of_mem hq
   rw [List.length_zip] at hj
   rw [List.getElem_zip] at ej
   have e1:as[j]?=some q.1:=by rw [List.getElem?_eq_getElem (by omega),<- ej]
   have e3:ds[j]?=some q.2:=by rw [List.getElem?_eq_getElem (by omega),<- ej]
   exact T.at_ j q.1 q.2 e1 e3).hG (H:=H)
  rw [List.map_map] at this
  exact this) hg (by decide) (by decide) hs (by intro _;rfl)
end
end L2
namespace L2
open PySem PySem.Spec PyProof.Rows
theorem slot_lri_next:Slot "list_reverseiterator" "__next__" "list_reverseiterator.__next__" :=
 .of (owner := "list_reverseiterator") (n := "__next__") (by rw [typeLookup_type,builtinLookup_eq_fast];kernel_rfl) (by decide +kernel) (by decide +kernel) (by decide +kernel)
  (by first | exact .inl (by decide +kernel) | exact .inr (by decide +kernel)) (by rw [isSubtype_type];kernel_rfl)
theorem entry_lri_next:entryFor table "list_reverseiterator.__next__" = some Builtin.«list_reverseiterator.__next__»:=entryFor_of_tree (by kernel_rfl)
theorem owner_lri:Manifest.owners.lookup (String.ofList ['r', 'o', 't', 'a', 'r', 'e', 't', 'i', 'e', 's', 'r', 'e', 'v', 'e', 'r', '_', 't', 's', 'i', 'l'].reverse)=some Manifest.sig_list_reverseiterator:=by kernel_rfl
theorem Dl (a:Value):argsOk "list_reverseiterator.__next__" ⟨[a],[]⟩:=by
 unfold argsOk;rw [signature?_of (id := "list_reverseiterator.__next__") (n:=['_', '_', 't', 'x', 'e', 'n', '_', '_']) (o:=['r', 'o', 't', 'a', 'r', 'e', 't', 'i', 'e', 's', 'r', 'e', 'v', 'e', 'r', '_', 't', 's', 'i', 'l']) (by kernel_rfl) owner_lri];kernel_rfl
theorem slot_lri_iter:Slot "list_reverseiterator" "__iter__" "list_reverseiterator.__iter__" :=
 .of (owner := "list_reverseiterator") (n := "__iter__") (by rw [typeLookup_type,builtinLookup_eq_fast];kernel_rfl) (by decide +kernel) (by decide +kernel) (by decide +kernel)
  (by first | exact .inl (by decide +kernel) | exact .inr (by decide +kernel)) (by rw [isSubtype_type];kernel_rfl)
theorem entry_lri_iter:entryFor table "list_reverseiterator.__iter__" = some Builtin.«dict_keyiterator.__iter__» :=
 entryFor_alias (id' := "dict_keyiterator.__iter__") (by kernel_rfl) rfl (by decide +kernel) (by kernel_rfl)
theorem M5 (a:Value):argsOk "list_reverseiterator.__iter__" ⟨[a],[]⟩:=by
 unfold argsOk;rw [signature?_of (id := "list_reverseiterator.__iter__") (n:=['_', '_', 'r', 'e', 't', 'i', '_', '_']) (o:=['r', 'o', 't', 'a', 'r', 'e', 't', 'i', 'e', 's', 'r', 'e', 'v', 'e', 'r', '_', 't', 's', 'i', 'l']) (by kernel_rfl) owner_lri];kernel_rfl
theorem OS:typeLookup (.type "list_reverseiterator") "__len__" = pure none:=by rw [typeLookup_type,builtinLookup_eq_fast];kernel_rfl
theorem QF:typeLookup (.type "list_reverseiterator") "__length_hint__" = pure (some (.builtin "list_reverseiterator.__length_hint__")):=by rw [typeLookup_type,builtinLookup_eq_fast];kernel_rfl
theorem sub_lri_reversed:isSubtype (.type "list_reverseiterator") (.type "reversed")=pure false:=by rw [isSubtype_type];kernel_rfl
def gD (l:Addr) (x:Int):Obj:={ cls:=.type "list_reverseiterator",data:=.fields #[.ref l,rawInt x] }
section
variable {prog:Program}{w:World}{A:Around}{E:Value->Shared->Prop}{s:Shared}
theorem QG {I l:Addr} {items:Array Value} {n i:Nat} {v:Value} {Q:Option Value->Shared->Prop} (hI:s.heap.get? I=some (gD l (items.size-1-i:Int))) (hl:s.heap.get? l=some { cls:=.type "list",dict:=none,data:=.seq items n,slots:=#[] }) (hi:i<items.size) (hv:items[items.size-1-i]?=some v)
  (hQ:∀ h',h'.get? I=some (gD l (items.size-1-(i+1:Nat):Int))->Heap.SameBut I s.heap h'->Q (some v) { s with heap:=h' }):wpAny (model prog w) A (pyNext (.ref I)) Q E s:=by
 have hT:s.TypeIs (.ref I) "list_reverseiterator" := ⟨_,hI,rfl⟩
 unfold pyNext
 refine wpAny_bind (wpAny_attempt (wpAny_callSpecial?_slot (name:=Str.ofString "__next__") hT slot_lri_next (wpAny_call_entry slot_lri_next hT entry_lri_next ?_ (Dl _))))
 unfold Builtin.«list_reverseiterator.__next__»
 refine wpAny_bind (wpAny_pure ?_)
 unfold field
 refine wpAny_bind (wpAny_bind (wpAny_fieldsOf hI rfl ?_))
 refine wpAny_pure ?_
 show wpAny _ _ (if ((items.size:Int)-1-i)<0 then _ else _) _ _ _
 rw [if_neg (by omega)]
 refine wpAny_bind (wpAny_bind (wpAny_fieldsOf hI rfl ?_))
 refine wpAny_pure ?_
 refine wpAny_bind (wpAny_seqItems hl rfl ?_)
 dsimp only
 rw [show ((items.size:Int)-1-i).toNat=items.size-1-i by omega,hv]
 dsimp only
 refine wpAny_bind (wpAny_setField_rec hI (show 1<2 by decide) fun h' h1 h2=>?_)
 refine wpAny_pure ⟨_,rfl,wpAny_pure (hQ h' ?_ h2)⟩
 rw [h1]
 show some (Obj.mk _ _ (.fields #[.ref l,rawInt ((items.size:Int)-1-i-1)]) _)=some (gD l _)
 rw [show (items.size:Int)-1-i-1=items.size-1-(i+1:Nat) by omega]
 rfl
theorem Sg {I l:Addr}{Q:Option Value->Shared->Prop}(hh:A.handled=none)(hI:s.heap.get? I=some (gD l (-1)))(hQ:∀ h',Heap.ExtBut I s.heap h'->Q none { s with heap:=h' }):wpAny (model prog w) A (pyNext (.ref I)) Q E s:=by
 have hT:s.TypeIs (.ref I) "list_reverseiterator" := ⟨_,hI,rfl⟩
 unfold pyNext
 refine wpAny_bind (wpAny_attempt (wpAny_callSpecial?_slot (name:=Str.ofString "__next__") hT slot_lri_next (wpAny_call_entry slot_lri_next hT entry_lri_next ?_ (Dl _))))
 unfold Builtin.«list_reverseiterator.__next__»
 refine wpAny_bind (wpAny_pure ?_)
 unfold field
 refine wpAny_bind (wpAny_bind (wpAny_fieldsOf hI rfl ?_))
 refine wpAny_pure ?_
 show wpAny _ _ (if (-1:Int)<0 then _ else _) _ _ _
 rw [if_pos (by decide)]
 refine wpAny_bind (wpAny_rule ?_)
 refine wpAny_bind ?_
 show wpAny _ _ (newExc (.type "StopIteration") [] >>= _) _ _ _
 refine wpAny_bind ?_
 simp only [newExc,newTuple]
 refine wpAny_bind (wpAny_newObj_type ?_ (by size_fits))
 refine wpAny_bind (m:=firstArgMember _ _) (wpAny_of_eq (a:=Value.none) (by first | rfl | (simp only [firstArgMember];rfl)) ?_)
 refine wpAny_newObj_type ?_ (by size_fits)
 simp only [raiseNew]
 refine wpAny_bind (wpAny_handled ?_)
 rw [show A.in1.handled=none from hh]
 refine wpAny_bind (wpAny_pure (wpAny_throw ?_))
 refine wpAny_bind (wpAny_isInstance (T := "StopIteration") (b:=true) ⟨_,Heap.get?_push_size _ rfl,rfl⟩ isSubtype_stop ?_)
 refine wpAny_pure (hQ _ fun b o hb e=>Heap.get?_push_of_some _ (Heap.get?_push_of_some _ e))
def so (I l:Addr) (items:Array Value) (c:Nat) (i:Nat) (h:Heap):Prop:=h.get? I=some (gD l (items.size-1-i:Int))/\h.get? l=some { cls:=.type "list",dict:=none,data:=.seq items c,slots:=#[] }
theorem PR {I l:Addr}{items:Array Value}{c:Nat}(hh:A.handled=none)(eI:l ≠ I):Walks prog w A I [I,l] [I] items.size (fun i v=>items[items.size-1-i]?=some v) (so I l items c) where
 sub:=fun b hb=>by simp at hb;simp [hb]
 frame:=fun _ _ _ st hk=>⟨hk I (by simp) _ st.1,hk l (by simp) _ st.2⟩
 item:=fun i s Q E hi st hQ=>by
  obtain ⟨v,hv⟩:∃ v,items[items.size-1-i]?=some v:=⟨_,Array.getElem?_eq_getElem (by omega)⟩
  refine QG st.1 st.2 hi hv fun h' h1 h2=>?_
  exact hQ v h' s.toks hv ⟨h1,(h2.2 l eI).trans st.2⟩ fun b o hb e=>(h2.2 b (fun h=>hb (by simp [h]))).trans e
 done:=fun s Q E st hQ=>Sg hh (by rw [st.1];congr 2;omega) fun h' hW=>hQ h' s.toks fun b o hb e=>hW b o (fun h=>hb (by simp [h])) e
 self:=fun i s Q E st hQ=>by
  have hT:s.TypeIs (.ref I) "list_reverseiterator" := ⟨_,st.1,rfl⟩
  refine wpAny_pyIter_slot hT slot_lri_iter (wpAny_call_entry slot_lri_iter hT entry_lri_iter ?_ (M5 _))
  show wpAny _ _ (ret (.ref I)) _ _ s
  exact wpAny_pure ⟨_,rfl, "list_reverseiterator",_,hT,slot_lri_next.lookup,hQ⟩
theorem QH {r:Addr} {Q:Bool->Shared->Prop} (hT:s.TypeIs (.ref r) "list_reverseiterator") (h:Q false s):wpAny (model prog w) A (Builtin.List.listLengthHint (.ref r)) Q E s:=by
 unfold Builtin.List.listLengthHint
 refine wpAny_bind (wpAny_specialOf hT OS ?_)
 dsimp only
 refine wpAny_ite_split (fun bE=>absurd bE (by decide)) (fun _=>?_)
 refine wpAny_ite_split (fun bE=>absurd bE (by decide)) (fun _=>?_)
 refine wpAny_bind (wpAny_specialOf hT QF ?_)
 generalize rR:("list_reverseiterator.__length_hint__" : String)=Aj
 dsimp only
 rw [show splitId Aj=some ("list_reverseiterator", "__length_hint__") from by subst rR;decide +kernel]
 subst rR
 dsimp only
 refine wpAny_bind (wpAny_isInstance (T := "list_reverseiterator") (b:=true) hT (by rw [isSubtype_type];kernel_rfl) ?_)
 refine wpAny_ite_split (fun bE=>absurd bE (by decide)) (fun _=>?_)
 refine wpAny_ite_split (fun _=>?_) (fun bE=>absurd (by decide +kernel) bE)
 refine wpAny_ite_split (fun bE=>absurd bE (by decide)) (fun _=>?_)
 exact wpAny_pure h
end
end L2
namespace L2
open PySem PySem.Spec PyProof.Rows
section
variable {prog:Program}{w:World}{A:Around}{E:Value->Shared->Prop}{s:Shared}{R:Result->Shared->Prop}
theorem OT {I l S:Addr} {items:Array Value} {c:Nat} {res:Value} {c₀:Nat} (hh:A.handled=none) (st:so I l items c 0 s.heap) (eI:l ≠ I) (nc:S ≠ I) (vt:S ≠ l) (hS:s.heap.get? S=some { cls:=.type "list",data:=.seq #[] c₀ }) (hn:items.size<=sizeLine)
  (hR:∀ h' tk eS c',(∀ b o,b ≠ S->b ≠ I->s.heap.get? b=some o->h'.get? b=some o)->h'.get? S=some { cls:=.type "list",dict:=none,data:=.seq eS c',slots:=#[] }->ItemsOf (fun i v=>items[items.size-1-i]?=some v) eS items.size->R (.ok (.ret res)) { s with heap:=h',toks:=tk }) :
  wpAny (model prog w) A.in1 (Builtin.List.listExtendWith (.ref S) (.ref I) res)
   (fun fin s'=>match fin with | .done f=>R (.ok f) s' | .again c'=>c'.quiet=true/\codeAny (model prog w) A c' R s') (fun e s'=>R (.error e) s') s:=by
 have hZ:S ∉ [I,l]:=by simp only [List.mem_cons,List.not_mem_nil,or_false,not_or];exact ⟨nc,vt⟩
 have W:=PR (prog:=prog) (w:=w) (A:=A.in1) (I:=I) (l:=l) (items:=items) (c:=c) hh eI
 have hT:s.TypeIs (.ref I) "list_reverseiterator" := ⟨_,st.1,rfl⟩
 have key:∀ (h:Heap) (c₁ tk:Nat),so I l items c 0 h->(∀ b o,b ≠ S->s.heap.get? b=some o->h.get? b=some o) ->
   h.get? S=some { cls:=.type "list",data:=.seq #[] c₁ }->codeAny (model prog w) A (.builtin "list.extend.loop" ⟨[.ref S,.ref I,res],[]⟩) R { s with heap:=h,toks:=tk }:=by
  intro h c₁ tk gG hk UA
  refine codeAny_extend_loopS W.toS hn S hZ res items.size 0 _ #[] c₁ rfl (Nat.zero_le _) gG UA (ItemsOf.nil _) fun s' eS c' hm cV dO=>?_
  rw [Moved.eq_with hm]
  refine hR s'.heap s'.toks eS c' (fun b o hb Aw e=>hm.heap b o (fun zx=>?_) (hk b o hb e)) cV dO
  rcases List.mem_cons.mp zx with e' | zx
  ·exact hb e'
  ·exact Aw (List.mem_singleton.mp zx)
 unfold Builtin.List.listExtendWith
 refine wpAny_bind (wpAny_typeOf hT ?_)
 have h1:Builtin.List.listSameRef (.ref S) (.ref I)=false:=by simp [Builtin.List.listSameRef,nc]
 have h2:(Value.type "list_reverseiterator" == Value.type "list")=false:=by decide
 have h3:(Value.type "list_reverseiterator" == Value.type "tuple")=false:=by decide
 simp only [h1,h2,h3,Bool.or_false,Bool.false_eq_true,if_false]
 refine wpAny_bind (W.self 0 s _ _ st ?_)
 refine wpAny_bind (wpAny_holding (QH hT ?_))
 refine wpAny_ite_split (fun _=>?_) (fun _=>wpAny_pure ⟨plainId_quiet PySem.F.plain_extend_loop _,key _ c₀ _ st (fun b o _ e=>e) hS⟩)
 refine wpAny_bind (wpAny_rule ?_)
 refine wpAny_bind ?_
 show wpAny _ _ (updateSeq S (·.push .none) >>= fun _=>updateSeq S (·.pop)) _ _ _
 refine wpAny_bind (wpAny_updateSeq hS rfl ?_)
 have um:=Heap.get?_update_self (Obj.mapSeq (·.push Value.none)) hS rfl
 refine wpAny_updateSeq (hz:=by seq_fits) um rfl ?_
 have UB:=Heap.get?_update_self (Obj.mapSeq (·.pop)) um rfl
 refine wpAny_pure ⟨plainId_quiet PySem.F.plain_extend_loop _,key _ _ _ ?_ (fun b o hb e=>?_) UB⟩
 ·refine W.frame 0 _ _ st fun b hb o e=>?_
  have eZ:b ≠ S:=fun h=>hZ (h ▸ hb)
  exact (Heap.get?_update_other _ _ (Ne.symm eZ)).trans ((Heap.get?_update_other _ _ (Ne.symm eZ)).trans e)
 ·exact (Heap.get?_update_other _ _ (Ne.symm hb)).trans ((Heap.get?_update_other _ _ (Ne.symm hb)).trans e)
theorem QI {I l S:Addr} {items:Array Value} {c:Nat} (hh:A.handled=none) (st:so I l items c 0 s.heap) (eI:l ≠ I) (nc:S ≠ I) (vt:S ≠ l) (hS:s.heap.get? S=some { cls:=.type "list",data:=.seq #[] }) (hn:items.size<=sizeLine)
  (hR:∀ h' tk eS c',(∀ b o,b ≠ S->b ≠ I->s.heap.get? b=some o->h'.get? b=some o)->h'.get? S=some { cls:=.type "list",dict:=none,data:=.seq eS c',slots:=#[] }->ItemsOf (fun i v=>items[items.size-1-i]?=some v) eS items.size->R (.ok (.ret .none)) { s with heap:=h',toks:=tk }) :
  wpAny (model prog w) A.in1 (Builtin.«list.__init__» ⟨[.ref S,.ref I],[]⟩)
   (fun fin s'=>match fin with | .done f=>R (.ok f) s' | .again c'=>c'.quiet=true/\codeAny (model prog w) A c' R s') (fun e s'=>R (.error e) s') s:=by
 show wpAny _ _ (do let old <- Builtin.List.listItems (.ref S);Builtin.List.listUpdate (.ref S) (fun _=>#[]);letGo old.toList.reverse;Builtin.List.listExtendWith (.ref S) (.ref I) .none) _ _ s
 refine wpAny_bind ?_
 unfold Builtin.List.listItems
 refine wpAny_bind (wpAny_seqItems hS rfl (wpAny_pure ?_))
 show wpAny _ _ (updateSeq S (fun _=>#[]) >>= fun _=>letGo (#[]:Array Value).toList.reverse >>= fun _=>Builtin.List.listExtendWith (.ref S) (.ref I) .none) _ _ s
 refine wpAny_bind (wpAny_updateSeq hS rfl ?_)
 have um:=Heap.get?_update_self (Obj.mapSeq (fun _=>(#[]:Array Value))) hS rfl
 have Ax:∀ b o,b ≠ S->s.heap.get? b=some o->(s.heap.update S (Obj.mapSeq (fun _=>(#[]:Array Value)))).get? b=some o :=
  fun b o hb e=>(Heap.get?_update_other _ _ (Ne.symm hb)).trans e
 refine wpAny_bind (wpAny_letGo ?_)
 refine OT hh ⟨Ax _ _ nc.symm st.1,Ax _ _ vt.symm st.2⟩ eI nc vt um hn (fun h' tk eS c' hk cV dO=>?_)
 exact hR h' tk eS c' (fun b o hb Aw e=>hk b o hb Aw (Ax b o hb e)) cV dO
end
section
variable {prog:Program}{w:World}{A:Around}{E:Value->Shared->Prop}{s:Shared}
theorem M6 {I l:Addr}{items:Array Value}{c:Nat}{Q:Value->Shared->Prop}(hh:A.handled=none)(st:so I l items c 0 s.heap)(eI:l ≠ I)(hn:items.size<=sizeLine)
  (hQ:∀ h' tk eS c',(∀ b o,b ≠ I->s.heap.get? b=some o->h'.get? b=some o)->h'.get? s.heap.objs.size=some { cls:=.type "list",dict:=none,data:=.seq eS c',slots:=#[] }->ItemsOf (fun i v=>items[items.size-1-i]?=some v) eS items.size->Q (.ref s.heap.objs.size) { s with heap:=h',toks:=tk }) :
  wpAny (model prog w) A (call (.type "list") [.ref I]) Q E s:=by
 refine callType_codes (Q₁:=fun obj aU=>obj=.ref s.heap.objs.size/\aU = { s with heap:=s.heap.push { cls:=.type "list",data:=.seq #[] } }) PySem.F.called_list (PySem.F.typeCall_list_1 _) PySem.F.entry_list_init
  (code_list_new _ ⟨rfl,rfl⟩) fun obj aU h₁ => ?_
 obtain ⟨rfl,rfl⟩:=h₁
 have hS:(s.heap.push { cls:=.type "list",data:=.seq #[] }).get? s.heap.objs.size=some { cls:=.type "list",data:=.seq #[] }:=Heap.get?_push_size _ rfl
 refine ⟨⟨_,hS,rfl⟩,PySem.F.args_list_init_2 _ _,QI (A:=A.in1) hh ⟨Heap.get?_push_of_some _ st.1,Heap.get?_push_of_some _ st.2⟩ eI (Nat.ne_of_gt (Heap.lt_size st.1)) (Nat.ne_of_gt (Heap.lt_size st.2)) hS hn (fun h' tk eS c' hk cV dO=>?_)⟩
 exact ⟨rfl,hQ h' tk eS c' (fun b o hb e=>hk b o (Nat.ne_of_lt (Heap.lt_size e)) hb (Heap.get?_push_of_some _ e)) cV dO⟩
theorem Mm {l:Addr} {items:Array Value} {c:Nat} {Q₁:Value->Shared->Prop} (hl:s.heap.get? l=some { cls:=.type "list",dict:=none,data:=.seq items c,slots:=#[] })
  (h:Q₁ (.ref s.heap.objs.size) { s with heap:=s.heap.push (gD l (items.size-1:Int)) }) :
  codeAny (model prog w) A (.call (.builtin "reversed.__new__") ⟨[.type "reversed",.ref l],[]⟩) (wants Q₁ E) s:=by
 have hT:s.TypeIs (.ref l) "list" := ⟨_,hl,rfl⟩
 refine codeAny_of_tree ?_
 show wpAny _ A.in1 (do checkBuiltinCall "reversed.__new__" ⟨[.type "reversed",.ref l],[]⟩;again (.builtin "reversed.__new__" ⟨[.type "reversed",.ref l],[]⟩)) _ _ s
 refine wpAny_bind (wpAny_of_eq (F.newCall_reversed_1 _) (wpAny_pure ⟨plainId_quiet F.plain_reversed_new _,codeAny_builtin F.entry_reversed_new ?_⟩))
 rw [Around.under_plainId F.plain_reversed_new _]
 unfold Builtin.«reversed.__new__»
 refine wpAny_bind (wpAny_of_eq (newClass_reversed _) ?_)
 try dsimp only
 refine wpAny_bind (wpAny_of_eq (a:=()) (by first | rfl | kernel_rfl) ?_)
 refine wpAny_bind (wpAny_of_eq (a:=()) (by first | rfl | kernel_rfl) ?_)
 try dsimp only
 refine wpAny_bind (wpAny_specialOf hT F.slot_list_reversed.lookup ?_)
 try dsimp only
 refine wpAny_bind (wpAny_of_eq (F.slot_list_reversed.bind _) ?_)
 try dsimp only
 first
 |rw [if_neg (show ¬ ((Value.builtin "list.__reversed__" == Value.none)=true) from Bool.false_ne_true)]
 |(show wpAny _ _ (if (Value.builtin "list.__reversed__" == Value.none)=true then _ else _) _ _ _;rw [if_neg (show ¬ ((Value.builtin "list.__reversed__" == Value.none)=true) from Bool.false_ne_true)])
 refine wpAny_bind (wpAny_rule ?_)
 refine wpAny_bind (m:=runValue (.call (.builtin "list.__reversed__") ⟨[.ref l],[]⟩)) (show wpAny _ _ (call (.builtin "list.__reversed__") [.ref l]) _ _ _ from call_meets F.slot_list_reversed hT F.entry_list_reversed (F.args_list_reversed_1 _) (PySem.AutoListH.list___reversed___list_0 l items c) ⟨hl,?_⟩)
 first
 |exact wpAny_pure h
 |exact wpAny_bind (wpAny_pure (wpAny_pure h))
theorem call_reversed_list {l:Addr} {items:Array Value} {c:Nat} {Q:Value->Shared->Prop} (hl:s.heap.get? l=some { cls:=.type "list",dict:=none,data:=.seq items c,slots:=#[] })
  (h:Q (.ref s.heap.objs.size) { s with heap:=s.heap.push (gD l (items.size-1:Int)) }):wpAny (model prog w) A (call (.type "reversed") [.ref l]) Q E s:=by
 refine callType_other (U := "list_reverseiterator") (Q₁:=fun obj aU=>obj=.ref s.heap.objs.size/\aU = { s with heap:=s.heap.push (gD l (items.size-1:Int)) }) (by decide +kernel) F.create_reversed ⟨_,_,F.mro_reversed⟩ F.made_reversed sub_lri_reversed (F.typeCall_reversed_1 _) (Mm hl ⟨rfl,rfl⟩) ?_
 rintro obj aU ⟨rfl,rfl⟩
 exact ⟨⟨_,Heap.get?_push_size _ rfl,rfl⟩,h⟩
end
theorem Ez:∀ {xs:List V} {us:List Value},Vals xs us->Vals xs.reverse us.reverse
 |_,_,.nil=>.nil
 |_,_,.cons h t=>by rw [List.reverse_cons,List.reverse_cons];exact Paired.snoc (Ez t) h
def EA (ta:TA):TE:=fun σ H Q=>ta σ H fun vs H1=>∃ l xs,vs=[.ref l]/\H1 l=some (.lst xs)/\∀ S,H1 S=none->Q (.ref S) (upd H1 S (.lst xs.reverse))
theorem OU {X:Cx} {a:Expr} {ta:TA} {p p2 pos jN:Pos} (hc:X.calm=true) (hg:Gl X "list") (hm:X.mg "list" = none) (fY:Gl X "reversed") (iR:X.mg "reversed" = none) (ha:PA X [a] ta)
  (hs:starEach [a] X.env=[(false,eval a X.env)]:=by rfl)
  (eH:starEach [.Call (.Name "reversed" p2) [a] [] jN] X.env=[(false,eval (.Call (.Name "reversed" p2) [a] [] jN) X.env)]:=by rfl) :
  PE X (.Call (.Name "list" p) [.Call (.Name "reversed" p2) [a] [] jN] [] pos) (EA ta):=by
 intro pins s σ H Q I h
 refine Call_ (jD I hg hm pZ (PyProof.Rows.callWith_type1 ?_ eH rfl))
 rw [eH]
 show wpAny _ _ (spliced ((false,eval (.Call (.Name "reversed" p2) [a] [] jN) X.env)::[])) _ _ s
 refine Calls.spliced_cons (Call_ (jD I fY iR boot_reversed (PyProof.Rows.callWith_type1 (ay (ha jN pins s σ H _ I h) fun us s1 ⟨vs,H1,I1,r1,q1⟩=>?_) hs rfl)))
 obtain ⟨l,xs,rfl,hH,q⟩:=q1
 obtain ⟨u,rfl,rx⟩:=vals1 r1
 cases rx
 obtain ⟨hz,its,c,rv,hl⟩:=(show cJ X.prog X.w H1 s1.heap l (.lst xs) from I1.az l _ hH)
 have ln:=rv.length
 refine call_reversed_list hl (Calls.spliced_nil ?_)
 have lt:l<s1.heap.objs.size:=Heap.lt_size hl
 refine M6 (I:=s1.heap.objs.size) (l:=l) (items:=its.toArray) (c:=c) (s:={ s1 with heap:=s1.heap.push (gD l (its.toArray.size-1:Int)) }) (I.ok.hd hc) ⟨?_,Heap.get?_push_of_some _ hl⟩ (Nat.ne_of_lt lt) (by rw [List.size_toArray];omega) fun h' tk acc c' hk hS dO=>?_
 ·rw [Heap.get?_push_size _ rfl]
  show some (gD l _)=some (gD l _)
  congr 2
  omega
 ·have sz:(s1.heap.push (gD l (its.toArray.size-1:Int))).objs.size=s1.heap.objs.size+1:=size_push' ..
  have ea:acc.toList=its.reverse:=by
   refine List.ext_getElem? fun i=>?_
   have Ay:its.toArray.size=its.length:=List.size_toArray ..
   rcases Nat.lt_or_ge i its.length with hi | hi
   ·have fj:i<acc.size:=by rw [dO.1,Ay];exact hi
    have:its.toArray[its.toArray.size-1-i]?=some acc[i]:=dO.2 i acc[i] (Array.getElem?_eq_getElem fj)
    rw [List.getElem?_toArray,Ay] at this
    rw [Array.getElem?_toList,Array.getElem?_eq_getElem fj,List.getElem?_reverse hi,this]
   ·rw [List.getElem?_eq_none (l:=its.reverse) (by rw [List.length_reverse];exact hi),Array.getElem?_toList,Array.getElem?_eq_none (xs:=acc) (by rw [dO.1,Ay];exact hi)]
  have kp:∀ b o,s1.heap.get? b=some o->h'.get? b=some o:=fun b o e=>hk b o (Nat.ne_of_lt (Heap.lt_size e)) (Heap.get?_push_of_some _ e)
  refine ⟨.ref _,_,I1.laid (t':=tk) (a:=(s1.heap.push (gD l (its.toArray.size-1:Int))).objs.size) (o:=.lst xs.reverse) kp (by rw [sz];exact Nat.le_succ _) ?_,rfl,q _ (I1.az.fresh (by rw [sz];exact Nat.le_succ _))⟩
  refine ⟨by rw [List.length_reverse];exact hz,its.reverse,c',?_,?_⟩
  ·exact Ez rv
  ·rw [<- ea,Array.toArray_toList];exact hS
section
variable {ι:Type}{F:aO ι}{a b:Expr}{ρ:En}{ta bA:Tr}{pos:Pos}
theorem Fz {K:PySem.W.Frag}{G:Hp}:∀ {ds:List Dv} {vs:List V},aD K G ds vs->aD K G ds.reverse vs.reverse
 |[],_,h=>by rw [show _=[] from h];rfl
 |d::ds,_,⟨x,r,h1,h2,h3⟩=>by
  subst h1
  rw [List.reverse_cons,List.reverse_cons]
  exact aD.Jk (Fz h3) ⟨x,[],rfl,h2,rfl⟩
theorem OV {xs:List Dv} (hm:F.mg "list" = none) (iR:F.mg "reversed" = none) (ha:Ev F a ρ (.ow (xs.map .fz))) {p p2 jN:Pos} (hg:∀ i,Gl (F.cx i) "list" := by intro _;rfl) (fY:∀ i,Gl (F.cx i) "reversed" := by intro _;rfl)
  (hs:∀ i,starEach [a] (F.cx i).env=[(false,eval a (F.cx i).env)]:=by intro _;rfl)
  (eH:∀ i,starEach [.Call (.Name "reversed" p2) [a] [] jN] (F.cx i).env=[(false,eval (.Call (.Name "reversed" p2) [a] [] jN) (F.cx i).env)]:=by intro _;rfl) :
  Ev F (.Call (.Name "list" p) [.Call (.Name "reversed" p2) [a] [] jN] [] pos) ρ (.ow (xs.reverse.map .fz)):=by
 obtain ⟨τ,pa,q⟩:=ha
 refine ⟨EA (df τ eA),fun i=>OU (F.calm i) (hg i) ((F.hm i).symm ▸ hm) (fY i) ((F.hm i).symm ▸ iR) (cX (pa i) dN (hs i)) (hs i) (eH i),fun σ G H Q s r k=>q σ G H _ s r fun v G1 H1 fq s1 o w1=>?_⟩
 obtain ⟨l,vs,f',rfl,h1,h2,h3⟩:=o
 refine ⟨l,vs,rfl,h1,fun S hS=>?_⟩
 have hv:aD F.K G1 xs vs:=by
  have:∀ {xs:List Dv} {vs:List V} {f:List Addr},aE F.K G1 H1 (xs.map .fz) vs f->aD F.K G1 xs vs:=by
   intro xs
   induction xs with
   |nil=>intro vs f h;exact h.1
   |cons d xs ih =>
    intro vs f h
    obtain ⟨v,r,f1,f2,rfl,_,⟨_,hd⟩,hr⟩:=h
    exact ⟨v,r,rfl,hd,ih hr⟩
  exact this h2
 exact (k.step s1).lst s1.s (Fz hv).hG hS
end
end L2
namespace L2
open PySem PySem.Spec PyProof.Rows
section
variable {prog:Program}{w:World}{A:Around}{R:Result->Shared->Prop}{I:Addr}{fp wr:List Addr}{n:Nat}{P:Nat->Value->Prop}{St:Nat->Heap->Prop}{KS:Heap->Prop}
def yE (prog:Program)(w:World)(A:Around)(KS:Heap->Prop)(P:Nat->Value->Prop)(bt:Nat->Nat->Bool):Prop:=∀ (i j:Nat) (vi vj:Value) (s:Shared) (Q:Value->Shared->Prop) (E:Value->Shared->Prop),KS s.heap->P i vi->P j vj->Q (.bool (bt i j)) s->wpAny (model prog w) A (richCompare .Lt vi vj) Q E s
theorem PU (W:Walks prog w A.in1 I fp wr n P St)(Az:∀ i h,St i h->KS h)(bt:Nat->Nat->Bool)(qV:yE prog w A.in1 KS P bt)(S:Addr)(hZ:S ∉ fp) :
  ∀ (k j:Nat) (s:Shared) (vb:Value) (c:Nat),n-(j+1)=k->j+1<=n->St (j+1) s.heap->P (argBest bt j) vb->s.heap.get? S=some { cls:=.type "list",dict:=none,data:=.seq #[vb,vb] c,slots:=#[] } ->
  (∀ v h' tk,P (argBest bt (n-1)) v->(∀ b o,b ∉ wr->b ≠ S->s.heap.get? b=some o->h'.get? b=some o)->R (.ok (.ret v)) { s with heap:=h',toks:=tk })->codeAny (model prog w) A (.builtin "min.loop" ⟨[.ref I,.none,.ref S],[]⟩) R s:=by
 have m9:S ∉ wr:=fun h=>hZ (W.sub _ h)
 have oV:(toString "min"++toString ".loop" : String) = "min.loop" := by decide
 intro k
 induction k with
 |zero =>
  intro j s vb c hk hj gG vv hS hR
  have sf:j+1=n:=by omega
  refine codeAny_builtin F.entry_min_loop ?_
  rw [Around.under_plainId F.plain_min_loop _]
  show wpAny _ A.in1 (seqItems? (.ref S) >>= _) _ _ s
  refine wpAny_bind (wpAny_seqItems hS rfl ?_)
  show wpAny _ A.in1 (tryCatch (pyNext (.ref I)) _ >>= _) _ _ s
  refine wpAny_bind (wpAny_tryCatch (W.done s _ _ (sf ▸ gG) fun h' tk fk=>?_))
  show wpAny _ A.in1 (updateSeq S (fun _=>#[]) >>= _) _ _ _
  refine wpAny_bind (wpAny_updateSeq (fk S _ m9 hS) rfl (wpAny_bind (wpAny_letGo (wpAny_pure ?_))))
  exact hR vb _ tk (by rw [<- sf];exact vv) fun b o jr eZ e=>(Heap.get?_update_other _ _ (Ne.symm eZ)).trans (fk b o jr e)
 |succ k ih =>
  intro j s vb c hk hj gG vv hS hR
  have aX:j+1<n:=by omega
  refine codeAny_builtin F.entry_min_loop ?_
  rw [Around.under_plainId F.plain_min_loop _]
  show wpAny _ A.in1 (seqItems? (.ref S) >>= _) _ _ s
  refine wpAny_bind (wpAny_seqItems hS rfl ?_)
  show wpAny _ A.in1 (tryCatch (pyNext (.ref I)) _ >>= _) _ _ s
  refine wpAny_bind (wpAny_tryCatch (W.item (j+1) s _ _ aX gG fun v h' tk hP kJ fk=>?_))
  have cV:=fk S _ m9 hS
  show wpAny _ A.in1 (tryCatch (holding [v,v] (richCompare .Lt v vb >>= _)) _ >>= _) _ _ _
  refine wpAny_bind (wpAny_tryCatch (wpAny_holding (wpAny_bind (qV (j+1) (argBest bt j) v vb _ _ _ (Az _ _ kJ) hP vv ?_))))
  refine wpAny_bind (wpAny_holding (wpAny_truthy_bool ?_))
  refine wpAny_bind (wpAny_letGo (wpAny_pure ?_))
  cases hb:bt (j+1) (argBest bt j) with
  |true =>
   simp only [if_true]
   refine wpAny_bind (wpAny_updateSeq cV rfl (wpAny_bind (wpAny_letGo ?_)))
   rw [oV]
   refine wpAny_pure ⟨plainId_quiet F.plain_min_loop _,ih (j+1) _ v _ (by omega) aX (W.frame _ _ _ kJ fun b AA o e=>?_) (by simp only [argBest,hb,if_true];exact hP) (Heap.get?_update_self _ cV rfl) fun v' jZ qW sr iD=>?_⟩
   ·exact (Heap.get?_update_other _ _ (fun h:S=b=>hZ (by rw [h];exact AA))).trans e
   ·exact hR v' jZ qW sr fun b o jr eZ e=>iD b o jr eZ ((Heap.get?_update_other _ _ (Ne.symm eZ)).trans (fk b o jr e))
  |false =>
   simp only [Bool.false_eq_true,if_false]
   refine wpAny_bind (wpAny_letGo ?_)
   rw [oV]
   refine wpAny_pure ⟨plainId_quiet F.plain_min_loop _,ih (j+1) _ vb c (by omega) aX kJ (by simp only [argBest,hb,Bool.false_eq_true,if_false];exact vv) cV fun v' jZ qW sr iD=>?_⟩
   exact hR v' jZ qW sr fun b o jr eZ e=>iD b o jr eZ (fk b o jr e)
theorem OW (W:Walks prog w A.in1 I fp wr n P St) (Az:∀ i h,St i h->KS h) (bt:Nat->Nat->Bool) (qV:yE prog w A.in1 KS P bt) (S:Addr) (hZ:S ∉ fp) (hn : 0<n) {s:Shared} {c:Nat} (gG:St 0 s.heap) (hS:s.heap.get? S=some { cls:=.type "list",dict:=none,data:=.seq #[] c,slots:=#[] })
  (hR:∀ v h' tk,P (argBest bt (n-1)) v->(∀ b o,b ∉ wr->b ≠ S->s.heap.get? b=some o->h'.get? b=some o)->R (.ok (.ret v)) { s with heap:=h',toks:=tk }):codeAny (model prog w) A (.builtin "min.loop" ⟨[.ref I,.none,.ref S],[]⟩) R s:=by
 have m9:S ∉ wr:=fun h=>hZ (W.sub _ h)
 have oV:(toString "min"++toString ".loop" : String) = "min.loop" := by decide
 refine codeAny_builtin F.entry_min_loop ?_
 rw [Around.under_plainId F.plain_min_loop _]
 show wpAny _ A.in1 (seqItems? (.ref S) >>= _) _ _ s
 refine wpAny_bind (wpAny_seqItems hS rfl ?_)
 show wpAny _ A.in1 (tryCatch (pyNext (.ref I)) _ >>= _) _ _ s
 refine wpAny_bind (wpAny_tryCatch (W.item 0 s _ _ hn gG fun v h' tk hP kJ fk=>?_))
 have cV:=fk S _ m9 hS
 show wpAny _ A.in1 (updateSeq S (fun _=>#[v,v]) >>= _) _ _ _
 refine wpAny_bind (wpAny_updateSeq cV rfl ?_)
 rw [oV]
 refine wpAny_pure ⟨plainId_quiet F.plain_min_loop _,PU W Az bt qV S hZ _ 0 _ v _ rfl hn (W.frame _ _ _ kJ fun b AA o e=>?_) hP (Heap.get?_update_self _ cV rfl) fun v' jZ qW sr iD=>?_⟩
 ·exact (Heap.get?_update_other _ _ (fun h:S=b=>hZ (by rw [h];exact AA))).trans e
 ·exact hR v' jZ qW sr fun b o jr eZ e=>iD b o jr eZ ((Heap.get?_update_other _ _ (Ne.symm eZ)).trans (fk b o jr e))
end
section
variable {prog:Program}{w:World}{A:Around}{E:Value->Shared->Prop}{s:Shared}
theorem PV {l:Addr}{items:Array Value}{KS:Heap->Prop}{bt:Nat->Nat->Bool}{Q:Value->Shared->Prop}(hh:A.handled=none)(hl:s.heap.IsList l items)(eI : 0<items.size)(k0:KS s.heap){as:List Addr}(kk:∀ h h':Heap,KS h->(∀ b ∈ as,∀ o,h.get? b=some o->h'.get? b=some o)->KS h')(alt:∀ a ∈ as,a<s.heap.objs.size)
  (qV:yE prog w A.in1 KS (fun i v=>items[i]?=some v) bt)
  (h:∀ v h' tk,items[argBest bt (items.size-1)]?=some v->(∀ b o,s.heap.get? b=some o->h'.get? b=some o)->Q v { s with heap:=h',toks:=tk }):wpAny (model prog w) A (call (.builtin "min") [.ref l]) Q E s:=by
 have oV:(toString "min"++toString ".loop" : String) = "min.loop" := by decide
 obtain ⟨ol,kU,_⟩:=id hl
 have ll:=Heap.lt_size kU
 refine call_function_tree F.kind_min F.plain_min F.entry_min (F.args_min1 _) ?_
 show wpAny _ A.in1 (Builtin.Builtins.bindParams "min" ["key", "default"] 0 ⟨[],[]⟩ >>= _) _ _ s
 refine wpAny_bind (wpAny_of_eq (show Builtin.Builtins.bindParams "min" ["key", "default"] 0 ⟨[],[]⟩=pure [none,none] from rfl) ?_)
 refine wpAny_bind (wpAny_pure ?_)
 refine wpAny_bind (wpAny_pyIter_list hl ?_)
 refine wpAny_bind (wpAny_newObj_type ?_)
 have W0:=Walks.list (prog:=prog) (w:=w) (A:=A.in1) hh s.heap.objs.size l (Nat.ne_of_lt ll) items
 have W:Walks prog w A.in1 s.heap.objs.size ([s.heap.objs.size,l]++as) [s.heap.objs.size] items.size (fun i v=>items[i]?=some v) (fun i h=>(h.IsListIter s.heap.objs.size l i/\h.IsList l items)/\KS h):={
  sub:=fun b hb=>List.mem_append_left _ (W0.sub b hb)
  frame:=fun i h h' st hk=>⟨W0.frame i h h' st.1 fun b hb o e=>hk b (List.mem_append_left _ hb) o e,kk h h' st.2 fun b hb o e=>hk b (List.mem_append_right _ hb) o e⟩
  item:=fun i s1 Q1 E1 hi st hQ=>W0.item i s1 Q1 E1 hi st.1 fun v h' tk hP af hm=>hQ v h' tk hP ⟨af,kk _ _ st.2 fun b hb o e=>hm b o (fun z=>Nat.ne_of_lt (alt b hb) (List.mem_singleton.mp z)) e⟩ hm
  done:=fun s1 Q1 E1 st hQ=>W0.done s1 Q1 E1 st.1 hQ
  self:=fun i s1 Q1 E1 st hQ=>W0.self i s1 Q1 E1 st.1 hQ }
 rw [oV]
 have st0:((s.heap.push { cls:=.type "list_iterator",data:=.fields #[.ref l,rawInt 0] }).IsListIter s.heap.objs.size l 0/\(s.heap.push { cls:=.type "list_iterator",data:=.fields #[.ref l,rawInt 0] }).IsList l items)/\KS (s.heap.push { cls:=.type "list_iterator",data:=.fields #[.ref l,rawInt 0] }):=⟨⟨⟨_,Heap.get?_push_size _ rfl,rfl,rfl⟩,hl.push _⟩,kk _ _ k0 fun b hb o e=>Heap.get?_push_of_some _ e⟩
 refine wpAny_pure ⟨plainId_quiet F.plain_min_loop _,OW W (fun i h st=>st.2) bt qV _ ?_ eI (W.frame _ _ _ st0 fun b _ o e=>Heap.get?_push_of_some _ e) (Heap.get?_push_size _ rfl) fun v h' tk hP hk=>?_⟩
 ·have sz:(s.heap.push { cls:=.type "list_iterator",data:=.fields #[.ref l,rawInt 0] }).objs.size=s.heap.objs.size+1:=size_push' ..
  intro z
  rcases List.mem_append.mp z with z | z
  ·simp only [List.mem_cons,List.not_mem_nil,or_false] at z
   rcases z with z | z
   ·exact absurd (sz.symm.trans z) (by omega)
   ·exact absurd (sz.symm.trans z) (Nat.ne_of_gt (Nat.lt_succ_of_lt ll))
  ·have h2:s.heap.objs.size+1<s.heap.objs.size:=by rw [<- sz];exact alt _ z
   omega
 ·have sz:(s.heap.push { cls:=.type "list_iterator",data:=.fields #[.ref l,rawInt 0] }).objs.size=s.heap.objs.size+1:=size_push' ..
  refine h v h' tk hP fun b o e=>hk b o (fun z=>Nat.ne_of_lt (Heap.lt_size e) (List.mem_singleton.mp z)) ?_ (Heap.get?_push_of_some _ (Heap.get?_push_of_some _ e))
  have lt:=Heap.lt_size e
  exact Nat.ne_of_lt (show b<(s.heap.push { cls:=.type "list_iterator",data:=.fields #[.ref l,rawInt 0] }).objs.size by rw [sz];exact Nat.lt_succ_of_lt lt)
end
section
variable {X:Cx}
theorem EB:∀ a b:List Int,HT.lexLt a b=So.lexLt a b
 |[],[] => rfl
 |[],_::_=>rfl
 |_::_,[] => rfl
 |x::xs,y::ys=>by
  show (if x=y then HT.lexLt xs ys else decide (x<y))=if x=y then So.lexLt xs ys else decide (x<y)
  rw [EB xs ys]
theorem EC (num:Nat->List Int):∀ k,argBest (fun i j=>So.lexLt (num i) (num j)) k<=k/\∀ j,j<=k->fm (num (argBest (fun i j=>So.lexLt (num i) (num j)) k)) (num j)
 |0=>⟨Nat.le_refl _,fun j hj=>by
  cases (show j=0 by omega);exact So.oB _⟩
 |k+1=>by
  obtain ⟨h1,h2⟩:=EC num k
  unfold argBest
  cases hb:So.lexLt (num (k+1)) (num (argBest (fun i j=>So.lexLt (num i) (num j)) k)) with
  |true =>
   rw [if_pos rfl]
   refine ⟨Nat.le_refl _,fun j hj=>?_⟩
   unfold fm
   cases z:So.lexLt (num j) (num (k+1)) with
   |false=>rfl
   |true =>
    rcases Nat.lt_or_ge j (k+1) with q | q
    ·have:=h2 j (by omega)
     unfold fm at this
     rw [So.tX _ _ _ z hb] at this
     cases this
    ·have:j=k+1:=by omega
     subst this
     rw [So.oB] at z;cases z
  |false =>
   rw [if_neg Bool.false_ne_true]
   refine ⟨by omega,fun j hj=>?_⟩
   rcases Nat.lt_or_ge j (k+1) with q | q
   ·exact h2 j (by omega)
   ·have:j=k+1:=by omega
    subst this
    exact hb
def Iv (K:PySem.W.Frag):List V->Hp->VK->Prop:=fun xs H Q=>∃ (p:Addr) (as:List Addr) (ds:List (List Int)),xs=[.ref p]/\aN K H p (as.map V.ref)/\vp K H as ds/\ds ≠ []/\∀ (j:Nat) (a:Addr) (d:List Int),as[j]?=some a->ds[j]?=some d->(∀ e ∈ ds,fm d e)->Q (.ref a) H
theorem PX (hc:X.calm=true) (hu:X.A.units+64<cLine):du X (.builtin "min") (Iv X.K):=by
 intro pins s σ H xs us Q I r h
 obtain ⟨p,as,ds,rfl,hq,T,ne,q⟩:=h
 obtain ⟨u,rfl,rx⟩:=vals1 r
 cases rx
 obtain ⟨its,rv,pl,dH⟩:=I.list hq
 have:=tM rv
 subst this
 have hl:=T.len
 have dl : 0<ds.length:=by cases ds with
  |nil=>exact absurd rfl ne
  |cons _ _=>exact Nat.succ_pos _
 have K0:(as.map Value.ref).toArray.size=as.length:=by rw [List.size_toArray,List.length_map]
 refine PV (KS:=fun h=>∀ (j:Nat) (a:Addr) (d:List Int),as[j]?=some a->ds[j]?=some d->So.cI h (.ref a)=some d) (bt:=fun i j=>So.lexLt (ds.getD i []) (ds.getD j [])) (as:=as) (I.ok.hd hc) pl.isList (by rw [K0];omega) (fun j a d e1 e2=>tO I (T.at_ j a d e1 e2)) (fun h h' k0 kp j a d e1 e2=>So.sY (k0 j a d e1 e2) fun t o et ht _=>by cases et;exact kp a (List.mem_of_getElem? e1) o ht) (fun a ha=>?_) (fun i j vi vj s1 Q1 E1 ks hi hj hQ=>?_) fun v h' tk hv hk=>?_
 ·obtain ⟨j,hj,ej⟩:=List.getElem_of_mem ha
  obtain ⟨_,_,⟨o,ho,_⟩,_⟩:=I.tuple (T.at_ j a _ (by rw [List.getElem?_eq_getElem hj,ej]) (List.getElem?_eq_getElem (by omega)))
  exact Heap.lt_size ho
 ·have hi:(as.map Value.ref).toArray[i]?=some vi:=hi
  have hj:(as.map Value.ref).toArray[j]?=some vj:=hj
  rw [List.getElem?_toArray,List.getElem?_map] at hi hj
  obtain ⟨a,ea,rfl⟩:=Option.map_eq_some_iff.mp hi
  obtain ⟨b,eb,rfl⟩:=Option.map_eq_some_iff.mp hj
  have li:=(List.getElem?_eq_some_iff.mp ea).1
  have lj:=(List.getElem?_eq_some_iff.mp eb).1
  have gi:ds[i]?=some (ds.getD i []):=by rw [List.getD_eq_getElem?_getD,List.getElem?_eq_getElem (show i<ds.length by omega)];rfl
  have gj:ds[j]?=some (ds.getD j []):=by rw [List.getD_eq_getElem?_getD,List.getElem?_eq_getElem (show j<ds.length by omega)];rfl
  obtain ⟨t1,w1,e1,p1,i1⟩:=So.oM (ks i a _ ea gi)
  obtain ⟨t2,w2,e2,p2,i2⟩:=So.oM (ks j b _ eb gj)
  cases e1
  cases e2
  have:=HT.Ou (prog:=X.prog) (w:=X.w) (A:=X.A.in1) (E:=E1) (s:=s1) (Q:=Q1) p1 p2 (by simpa using i1) (by simpa using i2) (by show X.A.units+1<cLine;omega) (by rw [EB];exact hQ)
  exact this
 ·rw [K0] at hv
  rw [List.getElem?_toArray,List.getElem?_map] at hv
  obtain ⟨a,ea,rfl⟩:=Option.map_eq_some_iff.mp hv
  obtain ⟨b1,b2⟩:=EC (fun i=>ds.getD i []) (as.length-1)
  generalize argBest (fun i j=>So.lexLt (ds.getD i []) (ds.getD j [])) (as.length-1)=m at ea b1 b2
  have gm:ds[m]?=some (ds.getD m []):=by rw [List.getD_eq_getElem?_getD,List.getElem?_eq_getElem (show m<ds.length by omega)];rfl
  refine ⟨.ref a,H,I.kept (t':=tk) hk,rfl,q m a _ ea gm fun e he=>?_⟩
  obtain ⟨j,hj,ej⟩:=List.getElem_of_mem he
  have:=b2 j (by omega)
  rw [show ds.getD j []=e by rw [List.getD_eq_getElem?_getD,List.getElem?_eq_getElem hj,ej];rfl] at this
  exact this
end
theorem yf (a b:List Int):bL (dT a) (dT b)=decide (a=b):=Fl a b
theorem t6 (a:List Int):cF (dT a)<=1:=ko a
def Jq (K:PySem.W.Frag):R2:=fun x y H Q=>∃ (d:List Int) (ls:List (List Int)),Hv K H (dT d) x/\Hv K H (.lst (ls.map dT)) y/\Q (.bl (!ls.contains d)) H
theorem TJ {X:Cx}(hr:X.A.units+64<cLine):cu X (compareOp .NotIn) (Jq X.K):=by
 intro pins s σ H x y v u Q I rx ry h
 obtain ⟨d,ls,hx,hy,q⟩:=h
 obtain ⟨p,xs,rfl,hq,hl⟩:=hy
 cases ry
 obtain ⟨its,r,pl,hz⟩:=I.list hq
 have e1:=hl.length
 have e2:=r.length
 rw [List.length_map] at e1
 have at':∀ {j:Nat} {w:Value},its[j]?=some w->∃ l xj,ls[j]?=some l/\Hv X.K H (dT l) xj/\RelV xj w:=fun {j w} hw=>by
  have hj:=(List.getElem?_eq_some_iff.mp hw).1
  have La:ls[j]?=some ls[j]:=List.getElem?_eq_getElem (by omega)
  obtain ⟨xj,g1,g2⟩:=hl.get (show (ls.map dT)[j]?=some (dT ls[j]) by rw [List.getElem?_map,La];rfl)
  obtain ⟨w',g3,g4⟩:=r.get g1
  rw [hw] at g3
  cases g3
  exact ⟨_,xj,La,g2,g4⟩
 refine SeqAt.notIn_listAt (fun w=>@decide (∃ j:Nat,its[j]?=some w/\ls[j]?=some d) (Classical.propDecidable _)) pl.isList (fun w hw=>?_) ⟨.bl _,H,I,rfl,?_⟩
 ·have hw':w ∈ its:=by simpa using hw
  obtain ⟨j,hj,ew⟩:=List.getElem_of_mem hw'
  have jm:its[j]?=some w:=by rw [List.getElem?_eq_getElem hj,ew]
  obtain ⟨l,xj,g1,g2,g3⟩:=at' jm
  have ea:=Gp I (dT l) (dT d) X.A.in1 xj x w v (by show X.A.units+1+cF (dT l)<cLine;have:=t6 l;omega) g2 hx g3 rx
  rw [yf] at ea
  have : @decide (∃ j:Nat,its[j]?=some w/\ls[j]?=some d) (Classical.propDecidable _)=decide (l=d):=by
   by_cases e:l=d
   ·rw [decide_eq_true e]
    exact @decide_eq_true _ (Classical.propDecidable _) ⟨j,jm,by rw [g1,e]⟩
   ·rw [decide_eq_false e]
    refine @decide_eq_false _ (Classical.propDecidable _) fun ⟨j2,q1,q2⟩=>e ?_
    obtain ⟨l2,xj2,p1,p2,p3⟩:=at' q1
    rw [q2] at p1
    cases p1
    have ex:xj=xj2:=by
     obtain ⟨a,_,rfl,_⟩:=id g2
     obtain ⟨b,_,rfl,_⟩:=id p2
     cases g3
     cases p3
     rfl
    subst ex
    have:=tG I _ _ _ g2 p2
    rw [yf] at this
    exact of_decide_eq_true this
  rw [this]
  exact ea
 ·have:its.toArray.any (fun w=>@decide (∃ j:Nat,its[j]?=some w/\ls[j]?=some d) (Classical.propDecidable _))=ls.contains d:=by
   rw [show ∀ f:Value->Bool,its.toArray.any f=its.any f from fun f=>by simp]
   cases hc:ls.contains d with
   |true =>
    obtain ⟨j,hj,ed⟩:=List.getElem_of_mem (show d ∈ ls by simpa using hc)
    exact List.any_eq_true.mpr ⟨its[j]'(by omega),List.getElem_mem _,@decide_eq_true _ (Classical.propDecidable _) ⟨j,List.getElem?_eq_getElem _,by rw [List.getElem?_eq_getElem hj,ed]⟩⟩
   |false =>
    refine List.any_eq_false.mpr fun w _ z=>?_
    obtain ⟨j,_,hj⟩:=@of_decide_eq_true _ (Classical.propDecidable _) z
    have:d ∈ ls:=List.mem_of_getElem? hj
    rw [show ls.contains d=true by simpa using this] at hc
    cases hc
  rw [this]
  exact q
theorem PY {ι:Type}{F:aO ι}{ρ:En}{a b:Expr}{pos:Pos}{ta bA:Tr}{d:List Int}{ls:List (List Int)}(ha:Ev F a ρ ta)(hb:Ev F b ρ bA)(ea:er ta=dT d)(eb:er bA=.lst (ls.map dT))(hm:behindInMarks .NotIn b=false):Et F (.Compare a [.NotIn] [b] pos) ρ (!ls.contains d) :=
 iq (r:=Jq F.K) (fun i=>F.hK i ▸ TJ (F.hr i).units) ha hb (fun G H x y Q s hx hy k=>⟨d,ls,(ea ▸ hx).mono s,(eb ▸ hy).mono s,k⟩) hm
section
variable {ι:Type}{F:aO ι}{e a b c:Expr}{es:List Expr}{ρ:En}{t ta bA:Tr}{ts:List Tr}{pos:Pos}
theorem Sh {ds:List (List Int)} {m:List Int} (hm:F.mg "min" = none) (ha:Ev F a ρ ta) (ea:er ta=.lst (ds.map dT)) (vw:m ∈ ds/\∀ d ∈ ds,fm m d) {p':Pos} (hg:∀ i,Gl (F.cx i) "min" := by intro _;rfl)
  (hs:∀ i,starEach [a] (F.cx i).env=[(false,eval a (F.cx i).env)]:=by intro _;rfl):Ev F (.Call (.Name "min" p') [a] [] pos) ρ (.fz (dT m)) :=
 lE (r:=Iv F.K) (fun i=>F.hK i ▸ PX (F.calm i) (F.hr i).units) hm Th (ag ha aj hs) (fun G H vs Q s hx k=>by
  obtain ⟨x,rfl,dm⟩:=gV hx
  rw [ea] at dm
  obtain ⟨l,ys,rfl,h1,h2⟩:=dm
  obtain ⟨as,rfl,T⟩:=tN h2
  refine ⟨l,as,ds,rfl,s.seq h1,⟨T.len,fun j a d e1 e2=>ak.tup s (T.at_ j a d e1 e2)⟩,(fun z=>by rw [z] at vw;cases vw.1),fun j a d e1 e2 le=>?_⟩
  have:d=m:=by
   have q1:=le m vw.1
   have q2:=vw.2 d (List.mem_of_getElem? e2)
   exact So.tL d m q2 q1
  subst this
  exact k.dat s ⟨a,_,rfl,T.at_ j a d e1 e2,lD⟩) hg (by decide) (by decide) hs (by intro _;rfl)
theorem D0 {lo hi:Option Expr}{l u:Option Int}{xs:List Dv}{p2:Pos}(ha:Ev F a ρ ta)(ea:er ta=.tup xs)(hl:Eo F lo ρ l)(hu:Eo F hi ρ u)(hw:¬ (HT.aK xs.length 0 l=0/\HT.aK xs.length xs.length u=xs.length)):Ev F (.Subscript a (.Slice lo hi none p2) pos) ρ (.fz (.tup (cutD xs l u))):=by
 obtain ⟨τ,p,q⟩:=ha.use
 obtain ⟨z9,p1,q1⟩:=hl
 obtain ⟨Aa,o8,q2⟩:=hu
 refine ⟨zO (IY F.K) τ z9 Aa,fun i=>D6 (F.hK i ▸ Tc) (p i) (p1 i) (o8 i),fun σ G H Q s rr k=>?_⟩
 refine q σ G H _ s rr fun x G1 H1 s1 hx=>q1 σ G1 H1 _ s1.s (rr.mono s1.g) fun G2 H2 s2=>q2 σ G2 H2 _ s2.s (rr.mono (s1.trans s2).g) fun G3 H3 s3=>?_
 rw [ea] at hx
 obtain ⟨b,vs,rfl,h1,h2⟩:=hx
 have st:=s2.trans s3
 exact ⟨b,vs,rfl,ak.tup (st.g.trans st.s) h1,by rw [<- h2.length];exact hw,fun p hp=>(k.step (s1.trans st)).tup st.s ((h2.mono st.g).cut l u) hp⟩
theorem yg {u v:V}(ha:Ev F a ρ (.fz (.fl u)))(hb:Ev F b ρ (.fz (.fl v)))(hs:qL u v=true):Et F (.Compare a [.NotEq] [b] pos) ρ (!decide (u=v)) :=
 iq (fun _=>HV) ha hb (fun G H x y Q s hx hy k=>by rw [aB hx,aB hy];exact ⟨hs,k⟩) (fN _)
end
end L2
namespace bM
open PySem L2 eY
def top (i:Nat):Stmt:=PySem.Challenge.pw_lotmeal_k23_judged_with_a_paper.main.body.getD i (.Pass ⟨0,0,0,0⟩)
structure Txt (mg:Str->Option Value):Prop where
 fZ:mg "isinstance" = none
 yF:mg "int" = none
 Hi:mg "bool" = none
 fv:mg "list" = none
 tP:mg "tuple" = none
 bb:mg "len" = none
 dJ:mg "range" = none
 UC:mg "zip" = none
 Iw:mg "any" = none
 pL:mg "enumerate" = none
 yG:mg "set" = none
 yH:mg "abs" = none
 Iy:mg "sum" = none
 xv:mg "sorted" = none
 OX:mg "reversed" = none
 yI:mg "str" = none
 UD:mg "min" = none
 qw:∃ tk,mg "MOST" = some (.int 6 tk)
 pI:∃ tk,mg "MOST_COUNT" = some (.int 9 tk)
section
variable {P:Program}{w:World}{K:PySem.W.Frag}{mg:Str->Option Value}{base:Heap}
def aq (n:Nat):List Int:=(List.range n).map fun i=>0+((i:Nat):Int)
theorem sZ {n:Nat}{x:Int}:x ∈ aq n ↔ 0<=x/\x<n:=by
 unfold aq
 constructor
 ·intro h
  obtain ⟨i,hi,rfl⟩:=List.mem_map.mp h
  have:=List.mem_range.mp hi
  omega
 ·rintro ⟨h0,h1⟩
  exact List.mem_map.mpr ⟨x.toNat,List.mem_range.mpr (by omega),by omega⟩
theorem sM (n:Nat):(aq n).Nodup:=by
 unfold aq
 rw [List.nodup_iff_pairwise_ne,List.pairwise_map]
 exact (List.nodup_range (n:=n)).imp fun h z=>h (by omega)
abbrev nB:Stmt:=top 9
theorem sF:bh ["one", "other", "rest"] ["one", "other"] (au nB):=⟨rfl,rfl,rfl,by decide +kernel,rfl,by decide +kernel,by decide +kernel⟩
def Iz (dd:List Dv)(t:Tr):Prop:=∃ a b:Int,0<=a/\0<=b/\dd=[di a,di b]/\t=ti (gc a b)
theorem MF {f:Addr} {fd:FuncData} {k:Nat} (F:bj K "common_part" "common_part" nB f fd) (T:Txt mg):aR P w K mg base ao (k+1) f fd ["one", "other"] (spT K Iz):=by
 refine bC F.d sF (fun dd t h=>by obtain ⟨_,_,_,_,rfl,_⟩:=h;rfl) fun dd t h=>?_
 obtain ⟨a,b,ha,hb,rfl,rfl⟩:=h
 refine ⟨_,.inl rfl,?_⟩
 refine sI (fun p:Int×Int=>[some (ti p.1),some (ti p.2),none]) (fun p=>0<=p.1/\0<=p.2/\gc p.1 p.2=gc a b) (fun p=>!decide (p.2=0)) (fun p=>p.2.toNat) (a,b) rfl ⟨ha,hb,rfl⟩ (fun p hp=>Et.s (lY (ae 1 rfl) ah)) (fun p hp h=>?_) (fun p hp h=>?_)
 ·obtain ⟨x,y⟩:=p
  obtain ⟨h1,h2,h3⟩:=hp
  have hy:y ≠ 0:=by simpa using h
  have jU : 0<=y:=h2
  have l1:=Int.emod_lt_of_pos x (show 0<y by omega)
  have l2:=Int.emod_nonneg x hy
  refine ⟨(y,x % y),⟨h2,l2,?_⟩,?_,aV.fg (ai (aH 2 (Ev.s (cH (ae 0 rfl) (ae 1 rfl) (by omega))) (fun _=>sF.nd)) (ai (aH 0 (Ev.s (ae 1 rfl)) (fun _=>sF.nd)) (aw (aH 1 (Ev.s (ae 2 rfl)) (fun _=>sF.nd))))) ⟨[2],rfl⟩⟩
  ·show gc y (x % y)=_
   rw [Fe];exact h3
  ·show (x % y).toNat<y.toNat
   omega
 ·obtain ⟨x,y⟩:=p
  obtain ⟨h1,h2,h3⟩:=hp
  have AB:y=0:=by simpa using h
  have rF:gc x y=gc a b:=h3
  have jT : 0<=x:=h1
  have e:gc a b=x:=by rw [<- rF,AB,Fc];omega
  rw [e]
  exact aw (bS (Ev.s (ae 0 rfl)))
abbrev n5:Stmt:=top 8
theorem N8:bh ["number"] ["number"] (au n5):=⟨rfl,rfl,rfl,by decide +kernel,rfl,by decide +kernel,by decide +kernel⟩
def ED (dd:List Dv)(t:Tr):Prop:=∃ n:Int,dd=[di n]/\t=tb true
theorem N9 {f:Addr} {fd:FuncData} {k:Nat} (F:bj K "is_whole" "is_whole" n5 f fd) (T:Txt mg):aR P w K mg base ao (k+1) f fd ["number"] (spT K ED):=by
 refine bC F.d N8 (fun dd t h=>by obtain ⟨n,rfl,_⟩:=h;rfl) fun dd t h=>?_
 obtain ⟨n,rfl,rfl⟩:=h
 refine ⟨_,.inl rfl,?_⟩
 exact aw (bS (Ev.s (Ev.to (lS (p:=true) (q:=true) (gk T.fZ T.yF xY (ae 0 rfl) (by with_unfolding_all rfl)) fun _=>(lR (Gv (p:=false) (gk T.fZ T.Hi E8 (ae 0 rfl) (by with_unfolding_all rfl))))) rfl)))
abbrev gO:Stmt:=top 10
theorem Dw:bh ["top", "bottom", "part"] ["top", "bottom"] (au gO):=⟨rfl,rfl,rfl,by decide +kernel,rfl,by decide +kernel,by decide +kernel⟩
def kD (dd:List Dv)(t:Tr):Prop:=∃ a b:Int,0<b/\b.natAbs<2 ^ 8000/\dd=[di a,di b]/\t=tF (lT a b,lB a b)
theorem Oa {f f1 f2:Addr} {fd aT fd2:FuncData} {dV:Value} {k:Nat} (F:oX K "fraction" "fraction" gO dV f fd) (T:Txt mg) (DE:Kn P w K mg base ao (k+1) "is_whole" f1 aT ["number"] (spT K ED)) (M7:Kn P w K mg base ao (k+1) "common_part" f2 fd2 ["one", "other"] (spT K Iz)):aR P w K mg base ao (k+2) f fd ["top", "bottom"] (spT K kD):=by
 refine bC F Dw (fun dd t h=>by obtain ⟨_,_,_,_,rfl,_⟩:=h;rfl) fun dd t h=>?_
 obtain ⟨a,b,hb,hz,rfl,rfl⟩:=h
 refine ⟨_,.inl rfl,?_⟩
 refine ai (bO (Et.s (Ew.et (fE (gh (eK (aQ DE (Nat.le_refl _) (ag (ae 0 rfl) aj) ⟨a,rfl,rfl⟩))) fun _=>(iu (gh (eK (aQ DE (Nat.le_refl _) (ag (ae 1 rfl) aj) ⟨b,rfl,rfl⟩))))))) rfl) ?_
 refine ai (bO (Et.s (fD (ae 1 rfl) ah)) (decide_eq_false (by omega))) ?_
 have ha : 0<=(if a<0 then -a else a):=by split<;>omega
 have gI : 0<=(if b<0 then -b else b):=by split<;>omega
 have eg:gc (if a<0 then -a else a) (if b<0 then -b else b)=gc a b:=by
  rw [show (if a<0 then -a else a)=(a.natAbs:Int) by split<;>omega,show (if b<0 then -b else b)=(b.natAbs:Int) by split<;>omega,GA]
 have gp:=oI (a:=a) (show b ≠ 0 by omega)
 have gl:=Ff (a:=a) hb
 refine ai (aH 2 (bp.to (t':=ti (gc a b)) (Ev.s (aQ M7 (Nat.le_refl _) (ag (x5 T.yH (ae 0 rfl)) (ag (x5 T.yH (ae 1 rfl)) aj)) ⟨_,_,ha,gI,rfl,rfl⟩)) (by rw [eg])) (fun _=>Dw.nd)) ?_
 refine ai (bO (Et.s (jG (ae 1 rfl) ah)) (decide_eq_false (by omega))) ?_
 have cd:∀ i:Int,qA i (gc a b):=fun i=>⟨gp,Nat.lt_of_le_of_lt (by omega) hz⟩
 refine aw (bS (Ev.s (jB (ag (gg (ae 0 rfl) (ae 2 rfl) (cd _)) (ag (gg (ae 1 rfl) (ae 2 rfl) (cd _)) aj)) ?_ (by show 2<=sizeLine;decide))))
 show [di (a / gc a b),di (b / gc a b)]=_
 rw [GB hb,GD hb]
abbrev oN:Stmt:=top 11
theorem Si:bh ["one", "other"] ["one", "other"] (au oN):=⟨rfl,rfl,rfl,by decide +kernel,rfl,by decide +kernel,by decide +kernel⟩
def oO (p:Int×Int):Prop:=0<p.2/\p.2.natAbs<2 ^ 90/\p.1.natAbs<2 ^ 90
def uo (dd:List Dv)(t:Tr):Prop:=∃ p q:Int×Int,oO p/\oO q/\dd=[dF p,dF q]/\t=tF (lT (p.1*q.2+q.1*p.2) (p.2*q.2),lB (p.1*q.2+q.1*p.2) (p.2*q.2))
theorem ef {a:Int}{n:Nat}(h:a.natAbs<2 ^ n)(hn:n<=8000):a.natAbs<2 ^ 8000:=Nat.lt_of_lt_of_le h (Nat.pow_le_pow_right (by decide) hn)
theorem Hj {a b:Int}{m n:Nat}(h1:a.natAbs<2 ^ m)(h2:b.natAbs<2 ^ n):(a*b).natAbs<2 ^ (m+n):=by
 rw [Int.natAbs_mul,Nat.pow_add]
 exact Nat.mul_lt_mul'' h1 h2
theorem Sj {f f1:Addr} {fd aT:FuncData} {k:Nat} (F:bj K "plus" "plus" oN f fd) (T:Txt mg) (lr:Kn P w K mg base ao (k+2) "fraction" f1 aT ["top", "bottom"] (spT K kD)):aR P w K mg base ao (k+3) f fd ["one", "other"] (spT K uo):=by
 refine bC F.d Si (fun dd t h=>by obtain ⟨_,_,_,_,rfl,_⟩:=h;rfl) fun dd t h=>?_
 obtain ⟨p,q,⟨p1,p2,p3⟩,⟨q1,q2,q3⟩,rfl,rfl⟩:=h
 refine ⟨_,.inl rfl,?_⟩
 have ic:∀ r:Int×Int,av [di r.1,di r.2] 0=some (di r.1):=fun _=>rfl
 have ie:∀ r:Int×Int,av [di r.1,di r.2] 1=some (di r.2):=fun _=>rfl
 exact aw (bS (Ev.s (aQ lr (Nat.le_refl _) (ag (d9 (ku (aY (ae 0 rfl) ah rfl (ic p)) (aY (ae 1 rfl) ah rfl (ie q)) ⟨ef p3 (by decide),ef q2 (by decide)⟩) (ku (aY (ae 1 rfl) ah rfl (ic q)) (aY (ae 0 rfl) ah rfl (ie p)) ⟨ef q3 (by decide),ef p2 (by decide)⟩)) (ag (ku (aY (ae 0 rfl) ah rfl (ie p)) (aY (ae 1 rfl) ah rfl (ie q)) ⟨ef p2 (by decide),ef q2 (by decide)⟩) aj)) ⟨_,_,Int.mul_pos p1 q1,ef (Hj p2 q2) (by decide),rfl,rfl⟩)))
abbrev nq:Stmt:=top 16
theorem wo:bh ["orders", "many", "asker", "order"] ["orders", "many"] (au nq):=⟨rfl,rfl,rfl,by decide +kernel,rfl,by decide +kernel,by decide +kernel⟩
def Hk (dd:List Dv)(t:Tr):Prop:=∃ (os:List (List Int)) (n:Int),(∀ o ∈ os,o.Nodup/\o.length<=100/\∀ x ∈ o,0<=x/\x<n)/\dd=[.lst (os.map dis),di n]/\t=tn
theorem FA {α:Type}(l:List α)(f : α->Bool):er (.ow (l.map fun k=>Tr.fz (db (f k))))=.lst ((l.map f).map db):=by
 rw [fu,List.map_map];rfl
theorem Mv {f:Addr} {fd:FuncData} {k:Nat} (F:bj K "check_orders" "check_orders" nq f fd) (T:Txt mg):aR P w K mg base ao (k+1) f fd ["orders", "many"] (spT K Hk):=by
 refine bC F.d wo (fun dd t h=>by obtain ⟨_,_,_,rfl,_⟩:=h;rfl) fun dd t h=>?_
 obtain ⟨os,n,ho,rfl,rfl⟩:=h
 refine ⟨_,.inr ⟨rfl,[some (.fz (.lst (os.map dis))),some (ti n),none,none],rfl⟩,?_⟩
 have big : 1000<sizeLine:=by decide
 refine ai (ρ1:=[some (.fz (.lst (os.map dis))),some (ti n),none,none]) (cY (aZ.s (pV T.pL (ae 0 rfl) rfl)) (kv 2 3 (fun _=>wo.nd)) (fun _=>[some (.fz (.lst (os.map dis))),some (ti n),none,none]) rfl (fun _=>rfl) (fun j d hd=>?_)) ?_
 ·obtain ⟨x,hx,rfl⟩:=qc hd
  obtain ⟨o,gF,rfl⟩:=e8 hx
  obtain ⟨o1,o2,o3⟩:=ho o (List.mem_of_getElem? gF)
  refine ⟨_,_,rfl,aw (bO (Et.s (eK (GH (bs:=o.map fun x=>decide (x<0) || decide (n<=x)) T.Iw (jd (own:=["thing"]) (fr:=[1]) o di (fun x=>tb (decide (x<0) || decide (n<=x))) (fun i=>lcs ⟨rfl,rfl,by decide +kernel,by decide +kernel,by decide +kernel,by decide +kernel⟩) (cB (ae 3 rfl) rfl) (bK 0 (fun _=>by show List.Nodup (["thing", "many"]:List Str);decide)) (by decide) (by omega) (fun x hx=>⟨_,rfl,Ih (yu (ae 0 rfl) ah) fun _=>lR (Uk (ae 0 rfl) (ae 1 rfl))⟩) (fun dd=>by cases dd<;>rfl)) (FA o _)))) ?_),[2,3],rfl⟩
  rw [List.any_eq_false]
  intro b hb
  obtain ⟨x,hx,rfl⟩:=List.mem_map.mp hb
  obtain ⟨x0,x1⟩:=o3 x hx
  simp only [id,decide_eq_false (show ¬ x<0 by omega),decide_eq_false (show ¬ n<=x by omega)]
  decide
 refine ai (ρ1:=[some (.fz (.lst (os.map dis))),some (ti n),none,none]) (cY (aZ.s (pV T.pL (ae 0 rfl) rfl)) (kv 2 3 (fun _=>wo.nd)) (fun _=>[some (.fz (.lst (os.map dis))),some (ti n),none,none]) rfl (fun _=>rfl) (fun j d hd=>?_)) kn
 obtain ⟨x,hx,rfl⟩:=qc hd
 obtain ⟨o,gF,rfl⟩:=e8 hx
 obtain ⟨o1,o2,o3⟩:=ho o (List.mem_of_getElem? gF)
 refine ⟨_,_,rfl,aw (bO (Et.s (lY (DT T.bb T.yG (ae 3 rfl) rfl (by omega)) (bq T.bb (ae 3 rfl) (.inl rfl)))) ?_),[2,3],rfl⟩
 rw [Dp o1,List.length_map]
 simp
abbrev n8:Stmt:=top 17
theorem Ob:bh ["counts", "orders"] ["counts", "orders"] (au n8):=⟨rfl,rfl,rfl,by decide +kernel,rfl,by decide +kernel,by decide +kernel⟩
def Jr (dd:List Dv)(t:Tr):Prop:=∃ (c:List Int) (os:List (List Int)),eu c os/\dd=[dis c,.lst (os.map dis)]/\t=.tp [ax c,fF os]
theorem Oc {f f1:Addr} {fd aT:FuncData} {k:Nat} (F:bj K "table_of" "table_of" n8 f fd) (T:Txt mg) (MG:Kn P w K mg base ao (k+1) "check_orders" f1 aT ["orders", "many"] (spT K Hk)):aR P w K mg base ao (k+2) f fd ["counts", "orders"] (spT K Jr):=by
 refine bC F.d Ob (fun dd t h=>by obtain ⟨_,_,_,rfl,_⟩:=h;rfl) fun dd t h=>?_
 obtain ⟨c,os,ok,rfl,rfl⟩:=h
 refine ⟨_,.inl rfl,?_⟩
 have big : 1000<sizeLine:=by decide
 have c6:=ok.c6
 have o6:=ok.o6
 have o1:=ok.o1
 obtain ⟨tk,gm⟩:=T.qw
 obtain ⟨tk2,gm2⟩:=T.pI
 refine ai (bO (Et.s (Ew.et (fE (jH (bq T.bb (ae 0 rfl) (.inl rfl)) (xE (v:=.int 6) gm ⟨_,rfl⟩ rfl)) fun _=>(iu (jH (bq T.bb (ae 1 rfl) (.inl rfl)) (xE (v:=.int 6) gm ⟨_,rfl⟩ rfl)))))) ?_) ?_
 ·rw [List.length_map,List.length_map,decide_eq_false (by omega),decide_eq_false (by omega)];rfl
 refine ai (bO (Et.s (fD (bq T.bb (ae 1 rfl) (.inl rfl)) ah)) ?_) ?_
 ·rw [List.length_map,decide_eq_false (by omega)]
 refine ai (bO (Et.s (eK (GH (bs:=c.map fun x=>decide (x<0) || decide (9<x)) T.Iw (jd (own:=["count"]) (fr:=[]) c di (fun x=>tb (decide (x<0) || decide (9<x))) (fun i=>lcs ⟨rfl,rfl,by decide +kernel,by decide +kernel,by decide +kernel,by decide +kernel⟩) (cB (ae 0 rfl) rfl) (bK 0 (fun _=>by show List.Nodup (["count"]:List Str);decide)) (by decide) (by omega) (fun x hx=>⟨_,rfl,by exact Ih (yu (ae 0 rfl) ah) fun _=>lR (Uj (ae 0 rfl) (xE (v:=.int 9) gm2 ⟨_,rfl⟩ rfl))⟩) (fun dd=>by cases dd<;>rfl)) (FA c _)))) ?_) ?_
 ·rw [List.any_eq_false]
  intro b hb
  obtain ⟨x,hx,rfl⟩:=List.mem_map.mp hb
  obtain ⟨x0,x1⟩:=ok.cnt x hx
  simp only [id,decide_eq_false (show ¬ x<0 by omega),decide_eq_false (show ¬ 9<x by omega)]
  decide
 refine ai (Rm (Ev.s (aQ MG (Nat.le_refl _) (ag (ae 1 rfl) (ag (bq T.bb (ae 0 rfl) (.inl rfl)) aj)) ⟨os,c.length,fun o ho=>⟨ok.nd o ho,Nat.le_trans (ok.fS ho) (by decide),ok.ck o ho⟩,?_,rfl⟩))) ?_
 rotate_left
 ·rw [List.length_map];rfl
 refine aw (bS (Ev.s (Ev.to (qq (ag (km T.fv (ae 0 rfl) (.inl rfl)) (ag (jd (own:=["order"]) (fr:=[]) os dis ax (fun i=>lcs ⟨rfl,rfl,by decide +kernel,by decide +kernel,by decide +kernel,by decide +kernel⟩) (cB (ae 1 rfl) rfl) (bK 0 (fun _=>by show List.Nodup (["order"]:List Str);decide)) (by decide) (by omega) (fun o ho=>⟨_,rfl,Ev.to (km T.fv (ae 0 rfl) (.inl rfl)) (by rw [gQ])⟩) (fun dd=>by cases dd<;>rfl)) aj)) (by show 2<=sizeLine;decide)) (by rw [gQ]))))
abbrev nM:Stmt:=top 18
theorem wu:bh ["table", "asker", "many", "order"] ["table", "asker"] (au nM):=⟨rfl,rfl,rfl,by decide +kernel,rfl,by decide +kernel,by decide +kernel⟩
def IA (dd:List Dv)(t:Tr):Prop:=∃ (c:List Int) (os:List (List Int)) (a:Int) (o:List Int),c.length<=100/\o.length<=100/\av os a=some o/\dd=[e9 c os,di a]/\t=ax (aM c.length o)
theorem xM {α β:Type}(f : α -> β){l:List α}{k:Int}{x : α}(h:av l k=some x):av (l.map f) k=some (f x):=by
 unfold av at h ⊢
 rw [List.length_map]
 cases q:dW l.length k with
 |none=>rw [q] at h;cases h
 |some j =>
  rw [q] at h
  show (l.map f)[j]?=_
  have h':l[j]?=some x:=h
  rw [List.getElem?_map,h'];rfl
theorem M8 {f:Addr} {fd:FuncData} {k:Nat} (F:bj K "full_order" "full_order" nM f fd) (T:Txt mg):aR P w K mg base ao (k+1) f fd ["table", "asker"] (spT K IA):=by
 refine bC F.d wu (fun dd t h=>by obtain ⟨_,_,_,_,_,_,_,rfl,_⟩:=h;rfl) fun dd t h=>?_
 obtain ⟨c,os,a,o,h1,h2,h3,rfl,rfl⟩:=h
 refine ⟨_,.inl rfl,?_⟩
 have big : 1000<sizeLine:=by decide
 refine ai (aH 2 (Ev.s (bq T.bb (aY (d:=dis c) (ae 0 rfl) ah rfl rfl) (.inl rfl))) (fun _=>wu.nd)) ?_
 refine ai (aH 3 (Ev.s (bu (d:=dis o) (aY (d:=.lst (os.map dis)) (ae 0 rfl) ah rfl rfl) (ae 1 rfl) rfl (xM dis h3))) (fun _=>wu.nd)) ?_
 rw [List.length_map]
 refine aw (bS (Ev.s (Ev.to (qp (qp (ae 3 rfl) (bT (ag (ae 2 rfl) aj) (by show 1<=sizeLine;decide)) rfl rfl ?_) (yx (own:=["thing"]) (fr:=[3]) (fun i=>lcs ⟨rfl,rfl,by decide +kernel,by decide +kernel,by decide +kernel,by decide +kernel⟩) (ft T.dJ (ae 2 rfl) ⟨by omega,by omega⟩) (bK 0 (fun _=>by show List.Nodup (["thing", "order"]:List Str);decide)) (by decide) (fun k=>!o.contains (0+((k:Nat):Int))) (fun k=>ti (0+((k:Nat):Int))) ?_ (fun k d hd=>?_) (fun dd=>?_)) (lU _) (kx _ _) ?_) ?_)))
 ·show (o.map di).length+1<=sizeLine
  rw [List.length_map];omega
 ·rw [List.length_map,List.length_range];omega
 ·obtain ⟨hi,rfl⟩:=i9 hd
  exact ⟨_,rfl,iw (oj (ae 0 rfl) (ae 1 rfl) rfl (by with_unfolding_all rfl)),fun _=>ae 0 rfl⟩
 ·cases dd<;>rfl
 ·have e:(fR 0 ((c.length:Nat):Int).toNat).length=c.length:=by simp
  rw [e]
  show ((o.map di)++[di _]).length+((gn c.length o).map di).length<=sizeLine
  have:=DU c.length o
  simp only [List.length_append,List.length_map,List.length_singleton]
  omega
 ·have e:(fR 0 ((c.length:Nat):Int).toNat).length=c.length:=by simp
  rw [e]
  show Tr.ow ((((o.map di)++[di _])++((gn c.length o).map di)).map .fz)=Tr.ow ((o++[(c.length:Int)]++gn c.length o).map _)
  simp only [List.map_append,List.map_map]
  rfl
def cn (bX:List Int)(x:Int):Int:=bX.getD x.toNat 0
structure gq (W:Int) (n:Nat) (bX:List Int):Prop where
 w0 : 0<W
 w1:W<2 ^ 70
 len:bX.length=n+1
 t0:∀ t ∈ bX,0<=t/\t<=W
theorem td {W:Int}{n:Nat}{bX:List Int}(h:gq W n bX)(x:Int) : 0<=cn bX x/\cn bX x<=W:=by
 unfold cn
 rw [List.getD_eq_getElem?_getD]
 cases q:bX[x.toNat]? with
 |none=>exact ⟨Int.le_refl _,Int.le_of_lt h.w0⟩
 |some t=>exact h.t0 t (List.mem_of_getElem? q)
theorem rowAt {W:Int}{n:Nat}{bX:List Int}(h:gq W n bX){x:Int}(x0 : 0<=x)(x1:x<=n):av ((bX.map (fW W)).map dF) x=some (dF (fW W (cn bX x))):=by
 obtain ⟨m,rfl⟩:∃ m:Nat,x=(m:Int):=⟨x.toNat,by omega⟩
 have hm:m<bX.length:=by rw [h.len];omega
 refine e7 ?_
 unfold cn
 rw [List.getElem?_map,List.getElem?_map,List.getD_eq_getElem?_getD,Int.toNat_natCast,List.getElem?_eq_getElem hm];rfl
def dC (W:Int)(bX:List Int):Dv:=.lst ((bX.map (fW W)).map dF)
theorem TK (p:Int×Int):fL (dF p)=true:=rfl
theorem yh (p:Int×Int):cF (dF p)<=1:=by
 show cP _+1<=1
 exact Nat.succ_le_succ (p9 fun d hd=>by
  rcases List.mem_cons.mp hd with rfl | hd
  ·exact Nat.le_refl _
  ·rw [List.mem_singleton.mp hd];exact Nat.le_refl _)
theorem yJ (c:Int):(lT c 1,lB c 1)=(c,1):=by
 have:=xk (t:=c) (b:=1) (p:=c) (q:=1) (by decide) (by decide) (by simp) (by rfl)
 rw [<- this.1,<- this.2]
end
end bM
namespace bM
open PySem L2 eY
section
variable {P:Program}{w:World}{K:PySem.W.Frag}{mg:Str->Option Value}{base:Heap}
abbrev nr:Stmt:=top 28
theorem Mw:bh ["_law_script", "_law_k"] ["_law_script", "_law_k"] (au nr):=⟨rfl,rfl,rfl,by decide +kernel,rfl,by decide +kernel,by decide +kernel⟩
def yK (dd:List Dv)(t:Tr):Prop:=∃ (ns:List Int) (k:Int),0<=k/\dd=[dis ns,di k]/\t=ti (cD ns k)
theorem Mx {f:Addr} {fd:FuncData} {k:Nat} (F:bj K "_law_cell_at" "_law_cell_at" nr f fd) (T:Txt mg):aR P w K mg base ao (k+1) f fd ["_law_script", "_law_k"] (spT K yK):=by
 refine bC F.d Mw (fun dd t h=>by obtain ⟨_,_,_,rfl,_⟩:=h;rfl) fun dd t h=>?_
 obtain ⟨ns,j,hj,rfl,rfl⟩:=h
 refine ⟨_,.inl rfl,?_⟩
 by_cases hl:j<ns.length
 ·refine p8 (fP (Et.s (jG (ae 1 rfl) (bq T.bb (ae 0 rfl) (.inl rfl)))) ?_ (aw (bS (Ev.s (bu (ae 0 rfl) (ae 1 rfl) rfl ?_)))))
  ·rw [List.length_map];exact decide_eq_true hl
  ·exact cell_in hj hl
 ·refine ai (bO (Et.s (jG (ae 1 rfl) (bq T.bb (ae 0 rfl) (.inl rfl)))) ?_) ?_
  ·rw [List.length_map];exact decide_eq_false hl
  ·rw [cell_out hj (by omega)]
   exact aw (bS (Ev.s ah))
def cK (cell:Int):Nat->Int×List Int
 |0=>(cell % 2147483629+7,[])
 |k+1=>(((cK cell k).1*(cK cell k).1+48271*(cK cell k).1+(0+((k:Nat):Int))) % 2147483647,(cK cell k).2++[((cK cell k).1*(cK cell k).1+48271*(cK cell k).1+(0+((k:Nat):Int))) % 2147483647 / 16])
def bU (cell:Int)(n:Nat):List Int:=(cK cell n).2
theorem lO (cell:Int):∀ k,0<=(cK cell k).1/\(cK cell k).1<2147483648/\(cK cell k).2.length=k
 |0=>by
  have a:=Int.emod_nonneg cell (show (2147483629:Int) ≠ 0 by decide)
  have b:=Int.emod_lt_of_pos cell (show (0:Int)<2147483629 by decide)
  show 0<=cell % 2147483629+7/\cell % 2147483629+7<2147483648/\_
  exact ⟨by omega,by omega,rfl⟩
 |k+1=>by
  obtain ⟨_,_,h⟩:=lO cell k
  refine ⟨Int.emod_nonneg _ (by decide),Int.lt_trans (Int.emod_lt_of_pos _ (by decide)) (by decide),?_⟩
  show ((cK cell k).2++[_]).length=_
  rw [List.length_append,h];rfl
abbrev nC:Stmt:=top 29
theorem pF:bh ["_law_cell", "_law_many", "_law_drawn_here", "_law_found", "_law_k"] ["_law_cell", "_law_many"] (au nC):=⟨rfl,rfl,rfl,by decide +kernel,rfl,by decide +kernel,by decide +kernel⟩
def qf (dd:List Dv)(t:Tr):Prop:=∃ (cell:Int) (n:Nat),n<=100/\dd=[di cell,di n]/\t=ax (bU cell n)
theorem MJ {f:Addr} {fd:FuncData} {k:Nat} (F:bj K "_law_stream" "_law_stream" nC f fd) (T:Txt mg):aR P w K mg base ao (k+1) f fd ["_law_cell", "_law_many"] (spT K qf):=by
 refine bC F.d pF (fun dd t h=>by obtain ⟨_,_,_,rfl,_⟩:=h;rfl) fun dd t h=>?_
 obtain ⟨cell,n,hn,rfl,rfl⟩:=h
 refine ⟨_,.inl rfl,?_⟩
 have big : 1000<sizeLine:=by decide
 refine ai (aH 2 (Ev.s (d9 (cH (ae 0 rfl) ah (by decide)) ah)) (fun _=>pF.nd)) ?_
 refine ai (aH 3 (Ev.s (bT aj (Nat.zero_le _))) (fun _=>pF.nd)) ?_
 refine ai (cY (aZ.s (ft T.dJ (ae 1 rfl) ⟨by omega,by omega⟩)) (bK 4 (fun _=>pF.nd)) (fun k=>[some (ti cell),some (ti n),some (ti (cK cell k).1),some (ax (cK cell k).2),none]) rfl (fun _=>rfl) (fun j d hd=>?_)) ?_
 ·obtain ⟨hj,rfl⟩:=i9 hd
  obtain ⟨d0,d1,dl⟩:=lO cell j
  have e:cK cell (j+1)=(((cK cell j).1*(cK cell j).1+48271*(cK cell j).1+(0+((j:Nat):Int))) % 2147483647,(cK cell j).2++[((cK cell j).1*(cK cell j).1+48271*(cK cell j).1+(0+((j:Nat):Int))) % 2147483647 / 16]):=rfl
  rw [e]
  generalize cK cell j=s at d0 d1 dl
  obtain ⟨x,l⟩:=s
  simp only at d0 d1 dl ⊢
  refine ⟨_,_,rfl,ai (aH 2 (Ev.s (cH (d9 (d9 (Fh (ae 2 rfl) (ae 2 rfl) (.inl ⟨by omega,by omega⟩)) (Fh ah (ae 2 rfl) (.inr ⟨by omega,by omega⟩))) (ae 4 rfl)) ah (by decide))) (fun _=>pF.nd))
   (aw (ip 3 rfl (Ev.s (gg (ae 2 rfl) ah ⟨by decide,i6 (by decide) (by decide)⟩)) (by rw [List.length_map];omega))),[4],?_⟩
  show [_,_,_,some (Tr.ow (_++[_])),_]=[_,_,_,some (Tr.ow _),_]
  rw [List.map_append]
  rfl
 ·rw [List.length_map,List.length_range]
  show aV _ _ [_,_,_,some (ax (cK cell n).2),_] _
  exact aw (i7 3 rfl)
def bQ (lZ:List Int)(left:List Int):Nat->List Int×List Int
 |0=>(left,[])
 |k+1=>((bQ lZ left k).1.eraseIdx ((lZ.getD k 0) % (bQ lZ left k).1.length).toNat,(bQ lZ left k).2++[(((bQ lZ left k).1)[((lZ.getD k 0) % (bQ lZ left k).1.length).toNat]?).getD 0])
theorem w8 (sm left:List Int):∀ k,k<=left.length->((bQ sm left k).2++(bQ sm left k).1).Perm left/\(bQ sm left k).1.length=left.length-k/\(bQ sm left k).2.length=k
 |0,_=>⟨.refl _,by simp [bQ],rfl⟩
 |k+1,hk=>by
  obtain ⟨h1,h2,h3⟩:=w8 sm left k (by omega)
  have e:bQ sm left (k+1)=((bQ sm left k).1.eraseIdx ((sm.getD k 0) % (bQ sm left k).1.length).toNat,(bQ sm left k).2++[(((bQ sm left k).1)[((sm.getD k 0) % (bQ sm left k).1.length).toNat]?).getD 0]):=rfl
  rw [e]
  generalize bQ sm left k=s at *
  obtain ⟨l,o⟩:=s
  generalize sm.getD k 0=c
  have hl : 0<l.length:=by have:l.length=left.length-k:=h2;omega
  have m0:=Int.emod_nonneg c (show (l.length:Int) ≠ 0 by omega)
  have m1:=Int.emod_lt_of_pos c (show 0<(l.length:Int) by omega)
  have iZ:(c % l.length).toNat<l.length:=by omega
  simp only at h1 h2 h3 ⊢
  generalize (c % l.length).toNat=m at iZ ⊢
  refine ⟨?_,?_,by rw [List.length_append];have:o.length=k:=h3;simp [this]⟩
  ·rw [List.getElem?_eq_getElem iZ,Option.getD_some,List.append_assoc]
   exact (List.Perm.append_left o (DB iZ)).trans h1
  ·rw [List.length_eraseIdx_of_lt iZ]
   omega
def je (cell:Int)(n:Nat):List Int :=
 if (bU (cell / 4) (n+2)).getD n 0 % 3=0 then cutD (bQ (bU (cell / 4) (n+2)) (aq n) n).2 none (some ((bU (cell / 4) (n+2)).getD (n+1) 0 % ((n:Int)+1))) else (bQ (bU (cell / 4) (n+2)) (aq n) n).2
theorem gP (n:Nat):(aq n).length=n:=by unfold aq;rw [List.length_map,List.length_range]
theorem OY (cell:Int)(n:Nat):(je cell n).Sublist (bQ (bU (cell / 4) (n+2)) (aq n) n).2:=by
 unfold je
 split
 ·unfold cutD
  exact (List.take_sublist _ _).trans (List.drop_sublist _ _)
 ·exact .refl _
theorem PZ (cell:Int)(n:Nat):(je cell n).Nodup/\∀ x ∈ je cell n,0<=x/\x<n:=by
 obtain ⟨h,_⟩:=w8 (bU (cell / 4) (n+2)) (aq n) n (by rw [gP];exact Nat.le_refl _)
 have s:=OY cell n
 refine ⟨((List.nodup_append.mp (h.nodup_iff.mpr (sM n))).1).sublist s,fun x hx=>sZ.mp (h.mem_iff.mp (List.mem_append_left _ (s.subset hx)))⟩
abbrev nN:Stmt:=top 30
theorem nD:bh ["_law_cell", "_law_many", "_law_some", "_law_left_here", "_law_order_here", "_law_k"] ["_law_cell", "_law_many"] (au nN):=⟨rfl,rfl,rfl,by decide +kernel,rfl,by decide +kernel,by decide +kernel⟩
def Hl (dd:List Dv)(t:Tr):Prop:=∃ (cell:Int) (n:Nat),n<=6/\dd=[di cell,di n]/\t=ax (je cell n)
theorem M9 {f f1:Addr} {fd aT:FuncData} {k:Nat} (F:bj K "_law_order" "_law_order" nN f fd) (T:Txt mg) (lg:Kn P w K mg base ao (k+1) "_law_stream" f1 aT ["_law_cell", "_law_many"] (spT K qf)):aR P w K mg base ao (k+2) f fd ["_law_cell", "_law_many"] (spT K Hl):=by
 refine bC F.d nD (fun dd t h=>by obtain ⟨_,_,_,rfl,_⟩:=h;rfl) fun dd t h=>?_
 obtain ⟨cell,n,hn,rfl,rfl⟩:=h
 refine ⟨_,.inl rfl,?_⟩
 have big : 1000<sizeLine:=by decide
 have sl:(bU (cell / 4) (n+2)).length=n+2:=(lO (cell / 4) (n+2)).2.2
 have Vj:=w8 (bU (cell / 4) (n+2)) (aq n)
 have oY:je cell n=if (bU (cell / 4) (n+2)).getD n 0 % 3=0 then cutD (bQ (bU (cell / 4) (n+2)) (aq n) n).2 none (some ((bU (cell / 4) (n+2)).getD (n+1) 0 % ((n:Int)+1))) else (bQ (bU (cell / 4) (n+2)) (aq n) n).2:=rfl
 generalize je cell n=res at oY
 have UE:[di (cell / 4),di ((n:Int)+2)]=[di (cell / 4),di ((n+2:Nat):Int)]:=rfl
 refine ai (aH 2 (Ev.s (Ev.as (d:=dis (bU (cell / 4) (n+2))) (aQ lg (Nat.le_refl _) (ag (gg (ae 0 rfl) ah ⟨by decide,i6 (by decide) (by decide)⟩) (ag (d9 (ae 1 rfl) ah) aj)) ⟨cell / 4,n+2,by omega,UE,rfl⟩) (cg _))) (fun _=>nD.nd)) ?_
 generalize bU (cell / 4) (n+2)=sm at *
 have zy:∀ m:Nat,m<n+2->av (sm.map di) ((m:Nat):Int)=some (di (sm.getD m 0)):=fun m hm=>e7 (by
  rw [List.getElem?_map,List.getElem?_eq_getElem (by omega),List.getD_eq_getElem?_getD,List.getElem?_eq_getElem (by omega)];rfl)
 refine ai (aH 3 (Ev.s (sJ T.fv T.dJ (ae 1 rfl) (by omega) (by omega))) (fun _=>nD.nd)) ?_
 refine ai (aH 4 (Ev.s (bT aj (Nat.zero_le _))) (fun _=>nD.nd)) ?_
 refine ai (cY (aZ.s (ft T.dJ (ae 1 rfl) ⟨by omega,by omega⟩)) (bK 5 (fun _=>nD.nd)) (fun k=>[some (ti cell),some (ti n),some (.fz (dis sm)),some (ax (bQ sm (aq n) k).1),some (ax (bQ sm (aq n) k).2),none]) rfl (fun _=>rfl) (fun j d hd=>?_)) ?_
 ·obtain ⟨hj,rfl⟩:=i9 hd
  have jm:j<n:=by omega
  obtain ⟨p1,p2,p3⟩:=Vj j (by rw [gP];omega)
  rw [gP] at p2
  have e:bQ sm (aq n) (j+1)=((bQ sm (aq n) j).1.eraseIdx ((sm.getD j 0) % (bQ sm (aq n) j).1.length).toNat,(bQ sm (aq n) j).2++[(((bQ sm (aq n) j).1)[((sm.getD j 0) % (bQ sm (aq n) j).1.length).toNat]?).getD 0]):=rfl
  have sj:av (sm.map di) (0+(j:Int))=some (di (sm.getD j 0)):=by
   have:=zy j (by omega)
   rwa [Int.zero_add]
  rw [e]
  generalize bQ sm (aq n) j=s at p1 p2 p3
  obtain ⟨l,o⟩:=s
  generalize sm.getD j 0=c at sj
  simp only at p1 p2 p3 ⊢
  have hl : 0<(l.length:Int):=by omega
  have hl6:(l.length:Int)<=6:=by omega
  have m0:=Int.emod_nonneg c (show (l.length:Int) ≠ 0 by omega)
  have m1:=Int.emod_lt_of_pos c hl
  have el:(eJ (l.map fun n=>Tr.fz (di n))).length=l.length:=by rw [lL,List.length_map,List.length_map]
  refine ⟨_,_,rfl,aw (M3 4 3 (d:=di ((l[(c % l.length).toNat]?).getD 0)) (n:=c % l.length) (m:=(c % l.length).toNat) (by decide) rfl rfl (bp.to (t':=ti (c % l.length)) (Ev.pk (cH (bu (ae 2 rfl) (ae 5 rfl) rfl sj) (bq T.bb (ae 3 rfl) (.inl rfl)) (by rw [el];exact hl)) True.intro) (by rw [el])) ?_ ⟨by omega,by omega⟩ ?_ ?_),[5],?_⟩
  ·rw [List.length_map]
   unfold dW
   rw [if_pos m0,if_pos m1]
  ·rw [List.getElem?_map,List.getElem?_eq_getElem (show (c % l.length).toNat<l.length by omega)]
   rfl
  ·rw [List.length_map];omega
  ·show [_,_,_,some (Tr.ow (List.eraseIdx _ _)),some (Tr.ow (_++[_])),_]=[_,_,_,some (Tr.ow _),some (Tr.ow _),_]
   rw [List.map_append,wR]
   rfl
 ·rw [List.length_map,List.length_range,Int.toNat_natCast]
  generalize hp:(bQ sm (aq n) n).2=pp at oY
  generalize (bQ sm (aq n) n).1=ll
  show aV _ _ [some (ti cell),some (ti n),some (.fz (dis sm)),some (ax ll),some (ax pp),none] _
  have s1:=zy n (by omega)
  have s2:=zy (n+1) (by omega)
  have s2':av (sm.map di) ((n:Int)+1)=some (di (sm.getD (n+1) 0)):=s2
  cases h3:decide (sm.getD n 0 % 3=0) with
  |true =>
   rw [if_pos (of_decide_eq_true h3)] at oY
   refine ai (ρ1:=[some (ti cell),some (ti n),some (.fz (dis sm)),some (ax ll),some (ax res),none]) (fP (Et.s (fD (cH (bu (ae 2 rfl) (ae 1 rfl) rfl s1) ah (by decide)) ah)) h3 (aw (aH 4 (bp.to (t':=ax res) (Ev.pk (sU (ae 4 rfl) (cg pp) p7 (lN (cH (bu (ae 2 rfl) (d9 (ae 1 rfl) ah) rfl s2') (d9 (ae 1 rfl) ah) (by omega)))) ?_) ?_) (fun _=>nD.nd)))) (aw (i7 4 rfl))
   ·rw [sV,gQ]
    exact tH _
   ·rw [sV,gQ,oY]
  |false =>
   rw [if_neg (of_decide_eq_false h3)] at oY
   rw [oY]
   exact ai (bO (Et.s (fD (cH (bu (ae 2 rfl) (ae 1 rfl) rfl s1) ah (by decide)) ah)) h3) (aw (i7 4 rfl))
theorem QJ {α:Type}{l:List α}{x : α}:av (l++[x]) (-1)=some x:=by
 unfold av dW
 rw [if_neg (by decide),if_pos (by rw [List.length_append];simp;omega)]
 show (l++[x])[_]?=_
 have e:(-1+((l++[x]).length:Int)).toNat=l.length:=by rw [List.length_append,List.length_singleton];omega
 rw [e,List.getElem?_append_right (Nat.le_refl _),Nat.sub_self];rfl
theorem eq_nil {α:Type}(f : α->Dv):∀ L:List α,bL (.lst (L.map f)) (.lst [])=L.isEmpty
 |[] => rfl
 |_::_=>rfl
def kE (L:List (List Int)):List Int:=L.getLast?.getD []
theorem P0 {L:List (List Int)}(h:L.isEmpty=false):av (L.map dis) (-1)=some (dis (kE L)):=by
 rcases List.eq_nil_or_concat L with rfl | ⟨l,x,rfl⟩
 ·cases h
 ·unfold kE
  rw [List.map_concat,List.concat_eq_append,QJ,List.concat_eq_append,List.getLast?_append];rfl
theorem P1 {L:List (List Int)}(h:L.isEmpty=false):kE L ∈ L:=by
 rcases List.eq_nil_or_concat L with rfl | ⟨l,x,rfl⟩
 ·cases h
 ·unfold kE
  rw [List.concat_eq_append,List.getLast?_append];simp
def dg (cells:List Int)(n:Nat):Nat->List (List Int)
 |0=>[]
 |k+1=>dg cells n k++[if decide (cells.getD k 0 % 4=0) && !(dg cells n k).isEmpty then kE (dg cells n k) else je (cells.getD k 0) n]
theorem xN (cells:List Int)(n:Nat):∀ k,(dg cells n k).length=k/\∀ o ∈ dg cells n k,o.Nodup/\∀ x ∈ o,0<=x/\x<n
 |0=>⟨rfl,fun _ h=>nomatch h⟩
 |k+1=>by
  obtain ⟨h1,h2⟩:=xN cells n k
  refine ⟨by show (dg cells n k++[_]).length=_;rw [List.length_append,h1];rfl,fun o ho=>?_⟩
  have gF:o ∈ dg cells n k++[if decide (cells.getD k 0 % 4=0) && !(dg cells n k).isEmpty then kE (dg cells n k) else je (cells.getD k 0) n]:=ho
  rcases List.mem_append.mp gF with z | z
  ·exact h2 o z
  ·rw [List.mem_singleton] at z
   subst z
   split
   ·rename_i q
    rw [Bool.and_eq_true] at q
    exact h2 _ (P1 (by have:=q.2;revert this;cases (dg cells n k).isEmpty<;>decide))
   ·exact PZ _ _
abbrev nF:Stmt:=top 31
theorem wq:bh ["_law_cells", "_law_many", "_law_orders_here", "_law_cell"] ["_law_cells", "_law_many"] (au nF):=⟨rfl,rfl,rfl,by decide +kernel,rfl,by decide +kernel,by decide +kernel⟩
def FC (dd:List Dv)(t:Tr):Prop:=∃ (cells:List Int) (n:Nat),n<=6/\cells.length<=100/\dd=[dis cells,di n]/\t=fF (dg cells n cells.length)
theorem MK {f f1:Addr} {fd aT:FuncData} {k:Nat} (F:bj K "_law_orders" "_law_orders" nF f fd) (T:Txt mg) (NN:Kn P w K mg base ao (k+2) "_law_order" f1 aT ["_law_cell", "_law_many"] (spT K Hl)):aR P w K mg base ao (k+3) f fd ["_law_cells", "_law_many"] (spT K FC):=by
 refine bC F.d wq (fun dd t h=>by obtain ⟨_,_,_,_,rfl,_⟩:=h;rfl) fun dd t h=>?_
 obtain ⟨cells,n,hn,hc,rfl,rfl⟩:=h
 refine ⟨_,.inl rfl,?_⟩
 have big : 1000<sizeLine:=by decide
 refine ai (aH 2 (Ev.s (bT aj (Nat.zero_le _))) (fun _=>wq.nd)) ?_
 refine ai (cY (aZ.s (cB (ae 0 rfl) rfl)) (bK 3 (fun _=>wq.nd)) (fun k=>[some (.fz (dis cells)),some (ti n),some (fF (dg cells n k)),none]) rfl (fun _=>rfl) (fun j d hd=>?_)) ?_
 ·obtain ⟨c,AD,rfl⟩:=e8 hd
  have ec:cells.getD j 0=c:=by rw [List.getD_eq_getElem?_getD,AD];rfl
  have hj:j<cells.length:=by
   rcases Nat.lt_or_ge j cells.length with z | z
   ·exact z
   ·rw [List.getElem?_eq_none z] at AD;cases AD
  obtain ⟨l1,l2⟩:=xN cells n j
  have e:dg cells n (j+1)=dg cells n j++[if decide (cells.getD j 0 % 4=0) && !(dg cells n j).isEmpty then kE (dg cells n j) else je (cells.getD j 0) n]:=rfl
  rw [e,ec]
  generalize dg cells n j=L at l1 l2
  have fin:∀ o:List Int,some (fF (L++[o]))=some (.ow (L.map ax++[ax o])):=fun o=>by
   show some (Tr.ow _)=_
   rw [List.map_append];rfl
  rw [fin]
  have hz:(L.map ax).length<sizeLine:=by rw [List.length_map];omega
  have Lb:cF (er (fF L))<=50:=by rw [ke];exact Nat.le_trans (Em L) (by decide)
  cases hq:decide (c % 4=0) && !L.isEmpty with
  |true =>
   rw [if_pos rfl]
   have hL:L.isEmpty=false:=by
    rw [Bool.and_eq_true] at hq
    have:=hq.2;revert this;cases L.isEmpty<;>decide
   refine ⟨_,_,rfl,aw (fP (Et.pk (Ew.et (lQ (fD (cH (ae 3 rfl) ah (by decide)) ah) fun _=>(lM (fO (ae 2 rfl) (bT aj (Nat.zero_le _)) ?_ Lb))))) ?_ (aw (ip 2 rfl (bp.to (t':=ax (kE L)) (Ev.pk (km T.fv (bu (ae 2 rfl) (Gs ah) (ke L) (P0 hL)) (.inl rfl)) (by rw [gQ];exact tH _)) (by rw [gQ])) hz))),[3],rfl⟩
   ·exact .inl ⟨_,_,rfl,rfl⟩
   ·rw [<- hq,show er (.fz (er (fF L)))=.lst (L.map dis) from ke L]
    show (_ && !bL (.lst (L.map dis)) (.lst []))=_
    rw [eq_nil]
  |false =>
   rw [if_neg (by decide)]
   refine ⟨_,_,rfl,aw (x8 (Et.pk (Ew.et (lQ (fD (cH (ae 3 rfl) ah (by decide)) ah) fun _=>(lM (fO (ae 2 rfl) (bT aj (Nat.zero_le _)) ?_ Lb))))) ?_ (aw (ip 2 rfl (Ev.s (aQ NN (Nat.le_refl _) (ag (ae 3 rfl) (ag (ae 1 rfl) aj)) ⟨c,n,hn,rfl,rfl⟩)) hz))),[3],rfl⟩
   ·exact .inl ⟨_,_,rfl,rfl⟩
   ·rw [<- hq,show er (.fz (er (fF L)))=.lst (L.map dis) from ke L]
    show (_ && !bL (.lst (L.map dis)) (.lst []))=_
    rw [eq_nil]
 ·rw [List.length_map]
  exact aw (i7 2 rfl)
def iH (x:Int):Int:=([1,1,0,2,1,3,1,x / 8 % 10]:List Int).getD (x % 8).toNat 0
theorem Sl (x:Int):av ([1,1,0,2,1,3,1,x / 8 % 10].map di) (x % 8)=some (di (iH x)):=by
 have a:=Int.emod_nonneg x (show (8:Int) ≠ 0 by decide)
 have b:=Int.emod_lt_of_pos x (show (0:Int)<8 by decide)
 unfold iH
 obtain ⟨m,hm⟩:∃ m:Nat,x % 8=(m:Int):=⟨(x % 8).toNat,by omega⟩
 rw [hm,Int.toNat_natCast]
 have:m<8:=by omega
 refine e7 ?_
 rw [List.getElem?_map,List.getD_eq_getElem?_getD,List.getElem?_eq_getElem (show m<([1,1,0,2,1,3,1,x / 8 % 10]:List Int).length from this)];rfl
theorem Sn (x:Int) : 0<=iH x/\iH x<=9:=by
 have a:=Int.emod_nonneg x (show (8:Int) ≠ 0 by decide)
 have b:=Int.emod_lt_of_pos x (show (0:Int)<8 by decide)
 have c:=Int.emod_nonneg (x / 8) (show (10:Int) ≠ 0 by decide)
 have d:=Int.emod_lt_of_pos (x / 8) (show (0:Int)<10 by decide)
 unfold iH
 obtain ⟨m,hm⟩:∃ m:Nat,x % 8=(m:Int):=⟨(x % 8).toNat,by omega⟩
 rw [hm,Int.toNat_natCast]
 generalize x / 8 % 10=y at c d
 have:m=0\/m=1\/m=2\/m=3\/m=4\/m=5\/m=6\/m=7:=by omega
 rcases this with rfl | rfl | rfl | rfl | rfl | rfl | rfl | rfl<;>first | exact ⟨show (0:Int)<=1 by decide,show (1:Int)<=9 by decide⟩ | exact ⟨show (0:Int)<=0 by decide,show (0:Int)<=9 by decide⟩ | exact ⟨show (0:Int)<=2 by decide,show (2:Int)<=9 by decide⟩ | exact ⟨show (0:Int)<=3 by decide,show (3:Int)<=9 by decide⟩ | exact ⟨c,show y<=9 by omega⟩
abbrev nG:Stmt:=top 32
theorem wt:bh ["_law_cell", "_law_many", "_law_found", "_law_one"] ["_law_cell", "_law_many"] (au nG):=⟨rfl,rfl,rfl,by decide +kernel,rfl,by decide +kernel,by decide +kernel⟩
def tQ (cell:Int)(n:Nat):List Int:=(bU cell n).map iH
def FD (dd:List Dv)(t:Tr):Prop:=∃ (cell:Int) (n:Nat),n<=100/\dd=[di cell,di n]/\t=ax (tQ cell n)
theorem ML {f f1:Addr} {fd aT:FuncData} {k:Nat} (F:bj K "_law_counts" "_law_counts" nG f fd) (T:Txt mg) (lg:Kn P w K mg base ao (k+1) "_law_stream" f1 aT ["_law_cell", "_law_many"] (spT K qf)):aR P w K mg base ao (k+2) f fd ["_law_cell", "_law_many"] (spT K FD):=by
 refine bC F.d wt (fun dd t h=>by obtain ⟨_,_,_,rfl,_⟩:=h;rfl) fun dd t h=>?_
 obtain ⟨cell,n,hn,rfl,rfl⟩:=h
 refine ⟨_,.inl rfl,?_⟩
 have big : 1000<sizeLine:=by decide
 have sl:(bU cell n).length=n:=(lO cell n).2.2
 unfold tQ
 refine ai (aH 2 (Ev.s (bT aj (Nat.zero_le _))) (fun _=>wt.nd)) ?_
 refine ai (cY (aZ.s (cB (aQ lg (Nat.le_refl _) (ag (ae 0 rfl) (ag (ae 1 rfl) aj)) ⟨cell,n,hn,rfl,rfl⟩) (cg _))) (bK 3 (fun _=>wt.nd)) (fun k=>[some (ti cell),some (ti n),some (ax (((bU cell n).map iH).take k)),none]) rfl (fun _=>rfl) (fun j d hd=>?_)) ?_
 ·obtain ⟨x,hx,rfl⟩:=e8 hd
  have dG:((bU cell n).map iH)[j]?=some (iH x):=by rw [List.getElem?_map,hx];rfl
  have hl:(((bU cell n).map iH).take j).length<=100:=by rw [List.length_take,List.length_map];omega
  rw [jx dG]
  generalize ((bU cell n).map iH).take j=L at hl
  refine ⟨_,_,rfl,aw (ip 2 rfl (Ev.s (bu (bT (ag ah (ag ah (ag ah (ag ah (ag ah (ag ah (ag ah (ag (cH (gg (ae 3 rfl) ah ⟨by decide,i6 (by decide) (by decide)⟩) ah (by decide)) aj)))))))) (by show 8<=sizeLine;decide)) (cH (ae 3 rfl) ah (by decide)) rfl (Sl x))) (by rw [List.length_map];omega)),[3],?_⟩
  show [_,_,some (Tr.ow (_++[_])),_]=[_,_,some (Tr.ow _),_]
  rw [List.map_append];rfl
 ·rw [List.length_map,List.take_of_length_le (by rw [List.length_map];exact Nat.le_refl _)]
  exact aw (i7 2 rfl)
end
end bM
namespace bM
open PySem L2 eY
section
variable {P:Program}{w:World}{K:PySem.W.Frag}{mg:Str->Option Value}{base:Heap}
abbrev nu:Stmt:=top 33
theorem De:bh ["_law_one", "_law_other"] ["_law_one", "_law_other"] (au nu):=⟨rfl,rfl,rfl,by decide +kernel,rfl,by decide +kernel,by decide +kernel⟩
def EE (dd:List Dv)(t:Tr):Prop:=∃ a b:Int,0<=a/\0<=b/\dd=[di a,di b]/\t=ti (gc a b)
theorem My {f:Addr} {fd:FuncData} {k:Nat} (F:bj K "_law_divisor" "_law_divisor" nu f fd) (T:Txt mg):aR P w K mg base ao (k+1) f fd ["_law_one", "_law_other"] (spT K EE):=by
 refine bC F.d De (fun dd t h=>by obtain ⟨_,_,_,_,rfl,_⟩:=h;rfl) fun dd t h=>?_
 obtain ⟨a,b,ha,hb,rfl,rfl⟩:=h
 refine ⟨_,.inl rfl,?_⟩
 refine sI (fun p:Int×Int=>[some (ti p.1),some (ti p.2)]) (fun p=>0<=p.1/\0<=p.2/\gc p.1 p.2=gc a b) (fun p=>decide (0<p.2)) (fun p=>p.2.toNat) (a,b) rfl ⟨ha,hb,rfl⟩ (fun p hp=>Et.s (jH (ae 1 rfl) ah)) (fun p hp h=>?_) (fun p hp h=>?_)
 ·obtain ⟨x,y⟩:=p
  obtain ⟨h1,h2,h3⟩:=hp
  have hy : 0<y:=by simpa using h
  have l1:=Int.emod_lt_of_pos x hy
  have l2:=Int.emod_nonneg x (show y ≠ 0 by omega)
  refine ⟨(y,x % y),⟨h2,l2,?_⟩,?_,aw (Tu 0 1 (Ev.s (ae 1 rfl)) (Ev.s (cH (ae 0 rfl) (ae 1 rfl) hy)) (fun _=>De.nd))⟩
  ·show gc y (x % y)=_
   rw [Fe];exact h3
  ·show (x % y).toNat<y.toNat
   omega
 ·obtain ⟨x,y⟩:=p
  obtain ⟨h1,h2,h3⟩:=hp
  have AB:y=0:=by
   have q:¬ (0<y):=by simpa using h
   have : 0<=y:=h2
   omega
  have rF:gc x y=gc a b:=h3
  have jT : 0<=x:=h1
  have e:gc a b=x:=by rw [<- rF,AB,Fc];omega
  rw [e]
  exact aw (bS (Ev.s (ae 0 rfl)))
abbrev nH:Stmt:=top 34
theorem Dh:bh ["_law_top", "_law_bottom", "_law_by"] ["_law_top", "_law_bottom"] (au nH):=⟨rfl,rfl,rfl,by decide +kernel,rfl,by decide +kernel,by decide +kernel⟩
theorem MM {f f1:Addr} {fd aT:FuncData} {k:Nat} (F:bj K "_law_lowest" "_law_lowest" nH f fd) (T:Txt mg) (MN:Kn P w K mg base ao (k+1) "_law_divisor" f1 aT ["_law_one", "_law_other"] (spT K EE)):aR P w K mg base ao (k+2) f fd ["_law_top", "_law_bottom"] (spT K kD):=by
 refine bC F.d Dh (fun dd t h=>by obtain ⟨_,_,_,_,rfl,_⟩:=h;rfl) fun dd t h=>?_
 obtain ⟨a,b,hb,hz,rfl,rfl⟩:=h
 refine ⟨_,.inl rfl,?_⟩
 have ha : 0<=(if a<0 then -a else a):=by split<;>omega
 have eg:gc (if a<0 then -a else a) b=gc a b:=by
  rw [show (if a<0 then -a else a)=(a.natAbs:Int) by split<;>omega]
  have:=GA a b
  rw [show (b.natAbs:Int)=b by omega] at this
  exact this
 have gp:=oI (a:=a) (show b ≠ 0 by omega)
 have gl:=Ff (a:=a) hb
 refine ai (aH 2 (bp.to (t':=ti (gc a b)) (Ev.s (aQ MN (Nat.le_refl _) (ag (x5 T.yH (ae 0 rfl)) (ag (ae 1 rfl) aj)) ⟨_,b,ha,by omega,rfl,rfl⟩)) (by rw [eg])) (fun _=>Dh.nd)) ?_
 have cd:∀ i:Int,qA i (gc a b):=fun i=>⟨gp,Nat.lt_of_le_of_lt (by omega) hz⟩
 refine aw (bS (Ev.s (jB (ag (gg (ae 0 rfl) (ae 2 rfl) (cd _)) (ag (gg (ae 1 rfl) (ae 2 rfl) (cd _)) aj)) ?_ (by show 2<=sizeLine;decide))))
 show [di (a / gc a b),di (b / gc a b)]=_
 rw [GB hb,GD hb]
theorem uI (l:List Int)(m:Nat)(v:Int):(l.map fun n=>Tr.fz (di n)).set m (ti v)=(l.set m v).map fun n=>Tr.fz (di n):=by rw [List.map_set]
theorem mC {l:List Int}{x:Int}(x0 : 0<=x)(x1:x<l.length):av (l.map di) x=some (di (l.getD x.toNat 0)):=by
 obtain ⟨m,rfl⟩:∃ m:Nat,x=(m:Int):=⟨x.toNat,by omega⟩
 refine e7 ?_
 rw [List.getElem?_map,List.getD_eq_getElem?_getD,Int.toNat_natCast,List.getElem?_eq_getElem (by omega)];rfl
theorem su {n:Nat}{x:Int}(x0 : 0<=x)(x1:x<n):dW n x=some x.toNat:=by unfold dW;rw [if_pos x0,if_pos x1]
def iI (sm:List Int)(n A k:Nat)(s:List Int×List Int):List Int×List Int :=
 if decide (sm.getD k 0 % ((n:Int)+1)<n)&&decide (0<s.1.getD (sm.getD k 0 % ((n:Int)+1)).toNat 0) then (s.1.set (sm.getD k 0 % ((n:Int)+1)).toNat (s.1.getD (sm.getD k 0 % ((n:Int)+1)).toNat 0-1),s.2.set (((0:Int)+(k:Int)+sm.getD A 0) % A).toNat (sm.getD k 0 % ((n:Int)+1))) else s
def fh (sm:List Int)(c:List Int)(A:Nat):Nat->List Int×List Int
 |0=>(c,(aq A).map fun _=>(c.length:Int))
 |k+1=>iI sm c.length A k (fh sm c A k)
theorem tR (sm c:List Int)(A:Nat):∀ k,(fh sm c A k).1.length=c.length/\(fh sm c A k).2.length=A/\∀ x ∈ (fh sm c A k).2,0<=x/\x<=c.length
 |0=>⟨rfl,by show ((aq A).map _).length=A;rw [List.length_map,gP],fun x hx=>by
  obtain ⟨_,_,rfl⟩:=List.mem_map.mp hx
  omega⟩
 |k+1=>by
  obtain ⟨h1,h2,h3⟩:=tR sm c A k
  show (iI sm c.length A k (fh sm c A k)).1.length=_/\(iI sm c.length A k (fh sm c A k)).2.length=_/\∀ x ∈ (iI sm c.length A k (fh sm c A k)).2,_
  generalize fh sm c A k=s at h1 h2 h3
  have a:=Int.emod_nonneg (sm.getD k 0) (show (c.length:Int)+1 ≠ 0 by omega)
  have b:=Int.emod_lt_of_pos (sm.getD k 0) (show 0<(c.length:Int)+1 by omega)
  unfold iI
  split
  ·refine ⟨by rw [List.length_set];exact h1,by rw [List.length_set];exact h2,fun x hx=>?_⟩
   rcases List.mem_or_eq_of_mem_set hx with z | z
   ·exact h3 x z
   ·rw [z];omega
  ·exact ⟨h1,h2,h3⟩
def mE (cell:Int)(c:List Int)(A:Nat):List Int:=(fh (bU (cell / 4) (A+1)) c A A).2
abbrev nk:Stmt:=top 36
theorem ni:bh ["_law_cell", "_law_counts_here", "_law_askers", "_law_some", "_law_left_here", "_law_deal", "_law_k", "_law_want"] ["_law_cell", "_law_counts_here", "_law_askers"] (au nk):=⟨rfl,rfl,rfl,by decide +kernel,rfl,by decide +kernel,by decide +kernel⟩
def IB (dd:List Dv)(t:Tr):Prop:=∃ (cell:Int) (c:List Int) (A:Nat),c.length<=6/\1<=A/\A<=6/\dd=[di cell,dis c,di A]/\t=ax (mE cell c A)
theorem Mr {f f1:Addr} {fd aT:FuncData} {k:Nat} (F:bj K "_law_any_deal" "_law_any_deal" nk f fd) (T:Txt mg) (lg:Kn P w K mg base ao (k+1) "_law_stream" f1 aT ["_law_cell", "_law_many"] (spT K qf)):aR P w K mg base ao (k+2) f fd ["_law_cell", "_law_counts_here", "_law_askers"] (spT K IB):=by
 refine bC F.d ni (fun dd t h=>by obtain ⟨_,_,_,_,_,_,rfl,_⟩:=h;rfl) fun dd t h=>?_
 obtain ⟨cell,c,A,c6,a1,a6,rfl,rfl⟩:=h
 refine ⟨_,.inl rfl,?_⟩
 have big : 1000<sizeLine:=by decide
 unfold mE
 have sl:(bU (cell / 4) (A+1)).length=A+1:=(lO _ _).2.2
 refine ai (aH 3 (Ev.s (Ev.as (d:=dis (bU (cell / 4) (A+1))) (aQ lg (Nat.le_refl _) (ag (gg (ae 0 rfl) ah ⟨by decide,i6 (by decide) (by decide)⟩) (ag (d9 (ae 2 rfl) ah) aj)) ⟨cell / 4,A+1,by omega,rfl,rfl⟩) (cg _))) (fun _=>ni.nd)) ?_
 generalize bU (cell / 4) (A+1)=sm at sl
 refine ai (aH 4 (bp.to (t':=ax c) (Ev.s (km T.fv (ae 1 rfl) (.inl rfl))) (by rw [gQ])) (fun _=>ni.nd)) ?_
 refine ai (oH 5 (qS (eX.to (t':=ax ((aq A).map fun _=>(c.length:Int))) (zq (own:=["_law_k"]) (fr:=[1]) (aq A) di (fun _=>ti c.length) (aZ.to (ft T.dJ (ae 2 rfl) ⟨by omega,by omega⟩) ?_) (bK 0 (fun _=>by show List.Nodup (["_law_k", "_law_counts_here"]:List Str);decide)) (by decide) (by rw [gP];omega) (fun x hx=>⟨_,rfl,by exact Ev.to (bq T.bb (ae 1 rfl) (.inl rfl)) (by rw [List.length_map])⟩) (fun dd=>by cases dd<;>rfl)) ?_)) (fun i=>lcs ⟨rfl,rfl,by decide +kernel,by decide +kernel,by decide +kernel,by decide +kernel⟩) (fun _=>ni.nd)) ?_
 ·rw [Int.toNat_natCast]
  unfold aq
  rw [List.map_map];rfl
 ·show Tr.ow _=Tr.ow _
  rw [List.map_map];rfl
 show aV _ _ [some (ti cell),some (.fz (dis c)),some (ti A),some (.fz (dis sm)),some (ax c),some (ax ((aq A).map fun _=>(c.length:Int))),none,none] _
 have iJ:(((c.map di).length:Nat):Int)=c.length:=by rw [List.length_map]
 refine ai (cY (aZ.s (ft T.dJ (ae 2 rfl) ⟨by omega,by omega⟩)) (bK 6 (fun _=>ni.nd)) (fun k=>[some (ti cell),some (.fz (dis c)),some (ti A),some (.fz (dis sm)),some (ax (fh sm c A k).1),some (ax (fh sm c A k).2),none,none]) rfl (fun _=>rfl) (fun j d hd=>?_)) ?_
 ·obtain ⟨hj,rfl⟩:=i9 hd
  rw [Int.toNat_natCast] at hj
  obtain ⟨h1,h2,h3⟩:=tR sm c A j
  have e:fh sm c A (j+1)=iI sm c.length A j (fh sm c A j):=rfl
  rw [e]
  generalize fh sm c A j=s at h1 h2 h3
  obtain ⟨left,cQ⟩:=s
  simp only at h1 h2 h3 ⊢
  have sA:av (sm.map di) (A:Int)=some (di (sm.getD A 0)):=by
   have:=mC (l:=sm) (x:=(A:Int)) (by omega) (by omega)
   rwa [Int.toNat_natCast] at this
  have sj:av (sm.map di) (0+(j:Int))=some (di (sm.getD j 0)):=by
   have:=mC (l:=sm) (x:=(j:Int)) (by omega) (by omega)
   rw [Int.toNat_natCast] at this
   rwa [Int.zero_add]
  have ma:=Int.emod_nonneg (0+(j:Int)+sm.getD A 0) (show (A:Int) ≠ 0 by omega)
  have mb:=Int.emod_lt_of_pos (0+(j:Int)+sm.getD A 0) (show 0<(A:Int) by omega)
  have r0:=Int.emod_nonneg (sm.getD j 0) (show (c.length:Int)+1 ≠ 0 by omega)
  have r1:=Int.emod_lt_of_pos (sm.getD j 0) (show 0<(c.length:Int)+1 by omega)
  have hl:∀ x:Int,0<=x->x<c.length->av (left.map di) x=some (di (left.getD x.toNat 0)):=fun x x0 x1=>mC x0 (by omega)
  have eT:iI sm c.length A j (left,cQ)=if decide (sm.getD j 0 % ((c.length:Int)+1)<c.length)&&decide (0<left.getD (sm.getD j 0 % ((c.length:Int)+1)).toNat 0) then (left.set (sm.getD j 0 % ((c.length:Int)+1)).toNat (left.getD (sm.getD j 0 % ((c.length:Int)+1)).toNat 0-1),cQ.set (((0:Int)+(j:Int)+sm.getD A 0) % A).toNat (sm.getD j 0 % ((c.length:Int)+1))) else (left,cQ):=rfl
  refine ⟨_,[some (ti cell),some (.fz (dis c)),some (ti A),some (.fz (dis sm)),some (ax (iI sm c.length A j (left,cQ)).1),some (ax (iI sm c.length A j (left,cQ)).2),some (ti (0+(j:Int))),some (ti (sm.getD j 0 % ((c.length:Int)+1)))],rfl,?_,[6,7],rfl⟩
  refine ai (aH 7 (bp.to (t':=ti (sm.getD j 0 % ((c.length:Int)+1))) (Ev.s (cH (bu (ae 3 rfl) (ae 6 rfl) rfl sj) (d9 (bq T.bb (ae 1 rfl) (.inl rfl)) ah) (by omega))) (by rw [iJ])) (fun _=>ni.nd)) ?_
  generalize sm.getD j 0 % ((c.length:Int)+1)=x at r0 r1 eT
  show aV _ _ [some (ti cell),some (.fz (dis c)),some (ti A),some (.fz (dis sm)),some (ax left),some (ax cQ),some (ti (0+(j:Int))),some (ti x)] _
  have Lc:decide (x<(((c.map di).length:Nat):Int))=decide (x<(c.length:Int)):=by rw [iJ]
  cases hq:decide (x<c.length)&&decide (0<left.getD x.toNat 0) with
  |true =>
   rw [hq,if_pos rfl] at eT
   rw [eT]
   have xl:x<c.length:=by rw [Bool.and_eq_true] at hq;exact of_decide_eq_true hq.1
   refine aw (fP (Et.pk (Ew.et (lQ (jG (ae 7 rfl) (bq T.bb (ae 1 rfl) (.inl rfl))) fun hp=>(lM (jH (bu (d:=di (left.getD x.toNat 0)) (ae 4 rfl) (ae 7 rfl) (cg left) (hl x r0 (by have:=of_decide_eq_true hp;omega))) ah))))) (by rw [Lc];exact hq) (ai (sX 4 (n:=x) (m:=x.toNat) rfl (Ev.s (ae 7 rfl)) (su r0 (by rw [List.length_map];omega)) (Ev.pk (tV (bu (ae 4 rfl) (ae 7 rfl) (cg left) (hl x r0 xl)) ah) True.intro) (hps:=fun i=>tT (pv 4) (qC i) set_list)) ?_))
   rw [uI]
   refine ai (sX 5 (n:=(0+(j:Int)+sm.getD A 0) % A) (m:=((0+(j:Int)+sm.getD A 0) % A).toNat) rfl (Ev.s (cH (d9 (ae 6 rfl) (bu (ae 3 rfl) (ae 2 rfl) rfl sA)) (ae 2 rfl) (by omega))) (su ma (by rw [List.length_map];omega)) (Ev.s (ae 7 rfl)) (hps:=fun i=>tT (pv 5) (qC i) set_list)) ?_
   rw [uI]
   exact kn
  |false =>
   rw [hq,if_neg (by decide)] at eT
   rw [eT]
   exact aw (bO (Et.pk (Ew.et (lQ (jG (ae 7 rfl) (bq T.bb (ae 1 rfl) (.inl rfl))) fun hp=>(lM (jH (bu (d:=di (left.getD x.toNat 0)) (ae 4 rfl) (ae 7 rfl) (cg left) (hl x r0 (by have:=of_decide_eq_true hp;omega))) ah))))) (by rw [Lc];exact hq))
 ·rw [List.length_map,List.length_range,Int.toNat_natCast]
  exact aw (i7 5 rfl)
def eM (n:Nat)(a:Int)(s:List Int×List Int)(x:Int):List Int×List Int :=
 if decide (s.2.getD a.toNat 0=(n:Int))&&decide (0<s.1.getD x.toNat 0) then (s.1.set x.toNat (s.1.getD x.toNat 0-1),s.2.set a.toNat x) else s
def iK (os:List (List Int))(cell a:Int):List Int:=if decide (cell % 4=3) then (av os (a-1)).getD [] else (av os a).getD []
def bP (sm:List Int)(cell:Int)(c:List Int)(os:List (List Int)):Nat->List Int×List Int×List Int
 |0=>(aq os.length,c,os.map fun _=>(c.length:Int))
 |k+1=>((bP sm cell c os k).1.eraseIdx (sm.getD k 0 % ((bP sm cell c os k).1.length:Int)).toNat,
   (iK os cell ((bP sm cell c os k).1.getD (sm.getD k 0 % ((bP sm cell c os k).1.length:Int)).toNat 0)).foldl (eM c.length ((bP sm cell c os k).1.getD (sm.getD k 0 % ((bP sm cell c os k).1.length:Int)).toNat 0)) (bP sm cell c os k).2)
structure oP (n A:Nat) (s:List Int×List Int):Prop where
 l:s.1.length=n
 d:s.2.length=A
 r:∀ x ∈ s.2,0<=x/\x<=(n:Int)
theorem QK {n A:Nat}{a x:Int}{s:List Int×List Int}(h:oP n A s)(x0 : 0<=x)(x1:x<n):oP n A (eM n a s x):=by
 unfold eM
 split
 ·refine ⟨by rw [List.length_set];exact h.l,by rw [List.length_set];exact h.d,fun y hy=>?_⟩
  rcases List.mem_or_eq_of_mem_set hy with z | z
  ·exact h.r y z
  ·omega
 ·exact h
theorem xf {n A:Nat}{a:Int}:∀ {l:List Int} {s:List Int×List Int},oP n A s->(∀ x ∈ l,0<=x/\x<(n:Int))->oP n A (l.foldl (eM n a) s)
 |[],_,h,_=>h
 |x::l,s,h,hl=>xf (l:=l) (QK h (hl x (.head _)).1 (hl x (.head _)).2) fun y hy=>hl y (.tail _ hy)
theorem Sq {α:Type}{l:List α}{k:Int}{x : α}(h:av l k=some x):x ∈ l:=by
 unfold av at h
 cases q:dW l.length k with
 |none=>rw [q] at h;cases h
 |some j=>rw [q] at h;exact List.mem_of_getElem? h
theorem yi {os:List (List Int)}{n:Nat}(h:∀ o ∈ os,∀ x ∈ o,0<=x/\x<(n:Int))(cell a:Int):∀ x ∈ iK os cell a,0<=x/\x<(n:Int):=by
 unfold iK
 have gen:∀ k:Int,∀ x ∈ (av os k).getD [],0<=x/\x<(n:Int):=fun k x hx=>by
  cases q:av os k with
  |none=>rw [q] at hx;cases hx
  |some o=>rw [q] at hx;exact h o (Sq q) x hx
 split
 ·exact gen _
 ·exact gen _
theorem tf (sm:List Int)(cell:Int){c:List Int}{os:List (List Int)}(h:∀ o ∈ os,∀ x ∈ o,0<=x/\x<(c.length:Int)):∀ k,k<=os.length->(bP sm cell c os k).1.length=os.length-k/\(bP sm cell c os k).1.Sublist (aq os.length)/\oP c.length os.length (bP sm cell c os k).2
 |0,_=>⟨gP _,.refl _,rfl,by show (os.map _).length=_;rw [List.length_map],fun x hx=>by
  obtain ⟨_,_,rfl⟩:=List.mem_map.mp hx
  omega⟩
 |k+1,hk=>by
  obtain ⟨h1,h2,h3⟩:=tf sm cell h k (by omega)
  have e:bP sm cell c os (k+1)=((bP sm cell c os k).1.eraseIdx (sm.getD k 0 % ((bP sm cell c os k).1.length:Int)).toNat,
   (iK os cell ((bP sm cell c os k).1.getD (sm.getD k 0 % ((bP sm cell c os k).1.length:Int)).toNat 0)).foldl (eM c.length ((bP sm cell c os k).1.getD (sm.getD k 0 % ((bP sm cell c os k).1.length:Int)).toNat 0)) (bP sm cell c os k).2):=rfl
  rw [e]
  generalize bP sm cell c os k=s at h1 h2 h3
  obtain ⟨l,s2⟩:=s
  simp only at h1 h2 h3 ⊢
  have a:=Int.emod_nonneg (sm.getD k 0) (show (l.length:Int) ≠ 0 by omega)
  have b:=Int.emod_lt_of_pos (sm.getD k 0) (show 0<(l.length:Int) by omega)
  refine ⟨?_,(List.eraseIdx_sublist _ _).trans h2,xf h3 (yi h _ _)⟩
  rw [List.length_eraseIdx_of_lt (by omega)]
  omega
def md (cell:Int)(c:List Int)(os:List (List Int)):List Int:=(bP (bU (cell / 4) (os.length+1)) cell c os os.length).2.2
abbrev nj:Stmt:=top 35
theorem i5:bh ["_law_cell", "_law_counts_here", "_law_orders_here", "_law_some", "_law_askers", "_law_left_here", "_law_deal", "_law_k", "_law_asker", "_law_own", "_law_thing"] ["_law_cell", "_law_counts_here", "_law_orders_here"] (au nj):=⟨rfl,rfl,rfl,by decide +kernel,rfl,by decide +kernel,by decide +kernel⟩
def Hm (dd:List Dv)(t:Tr):Prop:=∃ (cell:Int) (c:List Int) (os:List (List Int)),eu c os/\dd=[di cell,dis c,.lst (os.map dis)]/\t=ax (md cell c os)
theorem Mp {f f1:Addr} {fd aT:FuncData} {k:Nat} (F:bj K "_law_turn_deal" "_law_turn_deal" nj f fd) (T:Txt mg) (lg:Kn P w K mg base ao (k+1) "_law_stream" f1 aT ["_law_cell", "_law_many"] (spT K qf)):aR P w K mg base ao (k+2) f fd ["_law_cell", "_law_counts_here", "_law_orders_here"] (spT K Hm):=by
 refine bC F.d i5 (fun dd t h=>by obtain ⟨_,_,_,_,rfl,_⟩:=h;rfl) fun dd t h=>?_
 obtain ⟨cell,c,os,ok,rfl,rfl⟩:=h
 refine ⟨_,.inl rfl,?_⟩
 have big : 1000<sizeLine:=by decide
 have c6:=ok.c6
 have o6:=ok.o6
 have o1:=ok.o1
 unfold md
 have sl:(bU (cell / 4) (os.length+1)).length=os.length+1:=(lO _ _).2.2
 have fS:(((os.map dis).length:Nat):Int)=os.length:=by rw [List.length_map]
 have iJ:(((c.map di).length:Nat):Int)=c.length:=by rw [List.length_map]
 refine ai (aH 3 (Ev.s (Ev.as (d:=dis (bU (cell / 4) (os.length+1))) (aQ lg (Nat.le_refl _) (ag (gg (ae 0 rfl) ah ⟨by decide,i6 (by decide) (by decide)⟩) (ag (d9 (bq T.bb (ae 2 rfl) (.inl rfl)) ah) aj)) ⟨cell / 4,os.length+1,by omega,by rw [fS];rfl,rfl⟩) (cg _))) (fun _=>i5.nd)) ?_
 generalize bU (cell / 4) (os.length+1)=sm at sl
 refine ai (aH 4 (bp.to (t':=ax (aq os.length)) (Ev.s (sJ T.fv T.dJ (bq T.bb (ae 2 rfl) (.inl rfl)) (by rw [fS];omega) (by rw [fS];omega))) (by rw [fS,Int.toNat_natCast];rfl)) (fun _=>i5.nd)) ?_
 refine ai (aH 5 (bp.to (t':=ax c) (Ev.s (km T.fv (ae 1 rfl) (.inl rfl))) (by rw [gQ])) (fun _=>i5.nd)) ?_
 refine ai (oH 6 (qS (eX.to (t':=ax (os.map fun _=>(c.length:Int))) (zq (own:=["_law_order_here"]) (fr:=[1]) os dis (fun _=>ti c.length) (cB (ae 2 rfl) rfl) (bK 0 (fun _=>by show List.Nodup (["_law_order_here", "_law_counts_here"]:List Str);decide)) (by decide) (by omega) (fun x hx=>⟨_,rfl,by exact Ev.to (bq T.bb (ae 1 rfl) (.inl rfl)) (by rw [List.length_map])⟩) (fun dd=>by cases dd<;>rfl)) ?_)) (fun i=>lcs ⟨rfl,rfl,by decide +kernel,by decide +kernel,by decide +kernel,by decide +kernel⟩) (fun _=>i5.nd)) ?_
 ·show Tr.ow _=Tr.ow _
  rw [List.map_map];rfl
 show aV _ _ [some (ti cell),some (.fz (dis c)),some (.fz (.lst (os.map dis))),some (.fz (dis sm)),some (ax (aq os.length)),some (ax c),some (ax (os.map fun _=>(c.length:Int))),none,none,none,none] _
 refine ai (cY (its:=fR 0 os.length) (aZ.s (aZ.to (ft T.dJ (bq T.bb (ae 2 rfl) (.inl rfl)) (by rw [fS];omega)) (by rw [fS,Int.toNat_natCast]))) (bK 7 (fun _=>i5.nd)) (fun k=>[some (ti cell),some (.fz (dis c)),some (.fz (.lst (os.map dis))),some (.fz (dis sm)),some (ax (bP sm cell c os k).1),some (ax (bP sm cell c os k).2.1),some (ax (bP sm cell c os k).2.2),none,none,none,none]) rfl (fun _=>rfl) (fun j d hd=>?_)) ?_
 ·obtain ⟨hj,rfl⟩:=i9 hd
  obtain ⟨h1,h2,h3⟩:=tf sm cell ok.ck j (by omega)
  have e:bP sm cell c os (j+1)=((bP sm cell c os j).1.eraseIdx (sm.getD j 0 % ((bP sm cell c os j).1.length:Int)).toNat,
   (iK os cell ((bP sm cell c os j).1.getD (sm.getD j 0 % ((bP sm cell c os j).1.length:Int)).toNat 0)).foldl (eM c.length ((bP sm cell c os j).1.getD (sm.getD j 0 % ((bP sm cell c os j).1.length:Int)).toNat 0)) (bP sm cell c os j).2):=rfl
  rw [e]
  generalize bP sm cell c os j=s at h1 h2 h3
  obtain ⟨l,s2⟩:=s
  simp only at h1 h2 h3 ⊢
  have sj:av (sm.map di) (0+(j:Int))=some (di (sm.getD j 0)):=by
   have:=mC (l:=sm) (x:=(j:Int)) (by omega) (by omega)
   rw [Int.toNat_natCast] at this
   rwa [Int.zero_add]
  generalize sm.getD j 0=y at sj
  have m0:=Int.emod_nonneg y (show (l.length:Int) ≠ 0 by omega)
  have m1:=Int.emod_lt_of_pos y (show 0<(l.length:Int) by omega)
  have iZ:(y % (l.length:Int)).toNat<l.length:=by omega
  have vz : 0<=l.getD (y % (l.length:Int)).toNat 0/\l.getD (y % (l.length:Int)).toNat 0<os.length:=by
   rw [List.getD_eq_getElem?_getD,List.getElem?_eq_getElem iZ]
   exact sZ.mp (h2.subset (List.getElem_mem iZ))
  have zC:(l.map fun n=>Tr.fz (di n))[(y % (l.length:Int)).toNat]?=some (.fz (di (l.getD (y % (l.length:Int)).toNat 0))):=by
   rw [List.getElem?_map,List.getD_eq_getElem?_getD,List.getElem?_eq_getElem iZ];rfl
  have el:(eJ (l.map fun n=>Tr.fz (di n))).length=l.length:=by rw [lL,List.length_map,List.length_map]
  generalize hm:(y % (l.length:Int)).toNat=m at vz zC iZ
  generalize l.getD m 0=a at vz zC
  refine ⟨_,[some (ti cell),some (.fz (dis c)),some (.fz (.lst (os.map dis))),some (.fz (dis sm)),some (ax (l.eraseIdx m)),some (ax ((iK os cell a).foldl (eM c.length a) s2).1),some (ax ((iK os cell a).foldl (eM c.length a) s2).2),some (ti (0+(j:Int))),some (ti a),some (.fz (dis (iK os cell a))),none],rfl,?_,[7,8,9],rfl⟩
  refine ai (OC 8 4 (n:=y % (l.length:Int)) (m:=m) (d:=di a) (by decide) rfl (bp.to (t':=ti (y % (l.length:Int))) (Ev.pk (cH (bu (ae 3 rfl) (ae 7 rfl) rfl sj) (bq T.bb (ae 4 rfl) (.inl rfl)) (by rw [el];omega)) True.intro) (by rw [el])) (by rw [List.length_map,<- hm];exact su m0 m1) ⟨by omega,by omega⟩ zC (fun _=>i5.nd)) ?_
  rw [wR]
  show aV _ _ [some (ti cell),some (.fz (dis c)),some (.fz (.lst (os.map dis))),some (.fz (dis sm)),some (ax (l.eraseIdx m)),some (ax s2.1),some (ax s2.2),some (ti (0+(j:Int))),some (ti a),none,none] _
  have Ld:∀ k:Int,-(os.length:Int)<=k->k<os.length->av os k=some ((av os k).getD []):=fun k k0 k1=>by
   unfold av dW
   by_cases z : 0<=k
   ·rw [if_pos z,if_pos k1]
    show os[_]?=some ((os[_]?).getD [])
    rw [List.getElem?_eq_getElem (show k.toNat<os.length by omega)];rfl
   ·rw [if_neg z,if_pos k0]
    show os[_]?=some ((os[_]?).getD [])
    rw [List.getElem?_eq_getElem (show (k+os.length).toNat<os.length by omega)];rfl
  refine ai (aH 9 (Ev.s (bu (d:=dis ((av os a).getD [])) (ae 2 rfl) (ae 8 rfl) rfl (xM dis (Ld a (by omega) (by omega))))) (fun _=>i5.nd)) ?_
  refine ai (ρ1:=[some (ti cell),some (.fz (dis c)),some (.fz (.lst (os.map dis))),some (.fz (dis sm)),some (ax (l.eraseIdx m)),some (ax s2.1),some (ax s2.2),some (ti (0+(j:Int))),some (ti a),some (.fz (dis (iK os cell a))),none]) ?_ ?_
  ·have eO:iK os cell a=if decide (cell % 4=3) then (av os (a-1)).getD [] else (av os a).getD []:=rfl
   cases hq:decide (cell % 4=3) with
   |true =>
    rw [hq,if_pos rfl] at eO
    rw [eO]
    exact fP (Et.s (fD (cH (ae 0 rfl) ah (by decide)) ah)) hq (aw (aH 9 (Ev.s (bu (d:=dis ((av os (a-1)).getD [])) (ae 2 rfl) (tV (ae 8 rfl) ah) rfl (xM dis (Ld (a-1) (by omega) (by omega))))) (fun _=>i5.nd)))
   |false =>
    rw [hq,if_neg (by decide)] at eO
    rw [eO]
    exact bO (Et.s (fD (cH (ae 0 rfl) ah (by decide)) ah)) hq
  have ow:=yi ok.ck cell a
  generalize iK os cell a=own at ow
  refine aw (Rn.to (cY (aZ.s (cB (ae 9 rfl) rfl)) (bK 10 (fun _=>i5.nd)) (fun i=>[some (ti cell),some (.fz (dis c)),some (.fz (.lst (os.map dis))),some (.fz (dis sm)),some (ax (l.eraseIdx m)),some (ax ((own.take i).foldl (eM c.length a) s2).1),some (ax ((own.take i).foldl (eM c.length a) s2).2),some (ti (0+(j:Int))),some (ti a),some (.fz (dis own)),none]) rfl (fun _=>rfl) (fun i d hd=>?_)) ?_)
  ·obtain ⟨x,hx,rfl⟩:=e8 hd
   obtain ⟨x0,x1⟩:=ow x (List.mem_of_getElem? hx)
   have dk:oP c.length os.length ((own.take i).foldl (eM c.length a) s2):=xf h3 fun z hz=>ow z (List.mem_of_mem_take hz)
   rw [jx hx,List.foldl_append]
   generalize (own.take i).foldl (eM c.length a) s2=s at dk
   obtain ⟨left,cQ⟩:=s
   have d1:left.length=c.length:=dk.l
   have d2:cQ.length=os.length:=dk.d
   show ∃ dd mZ,_/\aV _ _ _ _/\Fg _ [_,_,_,_,_,some (ax (eM c.length a (left,cQ) x).1),some (ax (eM c.length a (left,cQ) x).2),_,_,_,_]
   have eT:eM c.length a (left,cQ) x=if decide (cQ.getD a.toNat 0=(c.length:Int))&&decide (0<left.getD x.toNat 0) then (left.set x.toNat (left.getD x.toNat 0-1),cQ.set a.toNat x) else (left,cQ):=rfl
   have Le:av (cQ.map di) a=some (di (cQ.getD a.toNat 0)):=mC vz.1 (by omega)
   have AF:av (left.map di) x=some (di (left.getD x.toNat 0)):=mC x0 (by omega)
   have Lf:decide (cQ.getD a.toNat 0=(((c.map di).length:Nat):Int))=decide (cQ.getD a.toNat 0=(c.length:Int)):=by rw [iJ]
   cases hq:decide (cQ.getD a.toNat 0=(c.length:Int))&&decide (0<left.getD x.toNat 0) with
   |true =>
    rw [hq,if_pos rfl] at eT
    rw [eT]
    refine ⟨_,[some (ti cell),some (.fz (dis c)),some (.fz (.lst (os.map dis))),some (.fz (dis sm)),some (ax (l.eraseIdx m)),some (ax (left.set x.toNat (left.getD x.toNat 0-1))),some (ax (cQ.set a.toNat x)),some (ti (0+(j:Int))),some (ti a),some (.fz (dis own)),some (ti x)],rfl,?_,[10],rfl⟩
    refine aw (fP (Et.pk (Ew.et (lQ (fD (bu (ae 6 rfl) (ae 8 rfl) (cg cQ) Le) (bq T.bb (ae 1 rfl) (.inl rfl))) fun hp=>(lM (jH (bu (ae 5 rfl) (ae 10 rfl) (cg left) AF) ah))))) (by rw [Lf];exact hq) (ai (sX 5 (n:=x) (m:=x.toNat) rfl (Ev.s (ae 10 rfl)) (su x0 (by rw [List.length_map];show x<(left.length:Int);omega)) (Ev.pk (tV (bu (ae 5 rfl) (ae 10 rfl) (cg left) AF) ah) True.intro) (hps:=fun i=>tT (pv 5) (qC i) set_list)) ?_))
    rw [uI]
    refine ai (sX 6 (n:=a) (m:=a.toNat) rfl (Ev.s (ae 8 rfl)) (su vz.1 (by rw [List.length_map];show a<(cQ.length:Int);omega)) (Ev.s (ae 10 rfl)) (hps:=fun i=>tT (pv 6) (qC i) set_list)) ?_
    rw [uI]
    exact kn
   |false =>
    rw [hq,if_neg (by decide)] at eT
    rw [eT]
    exact ⟨_,_,rfl,aw (bO (Et.pk (Ew.et (lQ (fD (bu (ae 6 rfl) (ae 8 rfl) (cg cQ) Le) (bq T.bb (ae 1 rfl) (.inl rfl))) fun hp=>(lM (jH (bu (ae 5 rfl) (ae 10 rfl) (cg left) AF) ah))))) (by rw [Lf];exact hq)),[10],rfl⟩
  ·rw [List.length_map,List.take_of_length_le (Nat.le_refl _)]
 ·have el:(fR 0 os.length).length=os.length:=by simp
  rw [el]
  exact aw (i7 6 rfl)
end
end bM
namespace bM
open PySem L2 eY
section
variable {P:Program}{w:World}{K:PySem.W.Frag}{mg:Str->Option Value}{base:Heap}
theorem Sr (y:Int)(c:List Int)(A:Nat):(mE y c A).length=A/\∀ x ∈ mE y c A,0<=x/\x<=(c.length:Int):=⟨(tR _ c A A).2.1,(tR _ c A A).2.2⟩
theorem QL (y:Int){c:List Int}{os:List (List Int)}(h:∀ o ∈ os,∀ x ∈ o,0<=x/\x<(c.length:Int)):(md y c os).length=os.length/\∀ x ∈ md y c os,0<=x/\x<=(c.length:Int):=⟨(tf _ y h os.length (Nat.le_refl _)).2.2.d,(tf _ y h os.length (Nat.le_refl _)).2.2.r⟩
def cj (c:List Int)(os:List (List Int))(y:Int):List Int:=if decide (y % 4=0) then mE y c os.length else md y c os
theorem FE {c:List Int}{os:List (List Int)}(h:∀ o ∈ os,∀ x ∈ o,0<=x/\x<(c.length:Int))(y:Int):(cj c os y).length=os.length/\∀ x ∈ cj c os y,0<=x/\x<=(c.length:Int):=by
 unfold cj
 split
 ·exact Sr y c os.length
 ·exact QL y h
def wF (c:Int):Int:=1+if decide (c / 7 % 4=1) then c / 4 % 10 ^ 9 else c / 4 % 3
theorem uq (c:Int) : 1<=wF c/\wF c<=10 ^ 9:=by
 unfold wF
 have a:=Int.emod_nonneg (c / 4) (show (10 ^ 9:Int) ≠ 0 by decide)
 have b:=Int.emod_lt_of_pos (c / 4) (show (0:Int)<10 ^ 9 by decide)
 have c':=Int.emod_nonneg (c / 4) (show (3:Int) ≠ 0 by decide)
 have d:=Int.emod_lt_of_pos (c / 4) (show (0:Int)<3 by decide)
 split<;>omega
def bH (cells:List Int):Int:=(cells.map wF).sum
def gY (cells:List Int)(c:List Int)(os:List (List Int))(a x:Int):Int:=((cells.filter fun y=>decide ((cj c os y).getD a.toNat 0=x)).map wF).sum
def cR (cells c:List Int)(os:List (List Int))(a:Int):List Int:=(aq (c.length+1)).map (gY cells c os a)
theorem qh:∀ cells:List Int,0<=bH cells/\bH cells<=cells.length*10 ^ 9
 |[] => by show (0:Int)<=0/\(0:Int)<=((0:Nat):Int)*10 ^ 9;omega
 |c::cs=>by
  have ih:=qh cs
  have:=uq c
  have e:bH (c::cs)=wF c+bH cs:=by unfold bH;rw [List.map_cons,List.sum_cons]
  rw [e,List.length_cons];omega
theorem xx {cells:List Int}(h : 1<=cells.length) : 0<bH cells:=by
 cases cells with
 |nil=>exact absurd h (by decide)
 |cons c cs =>
  have a:=qh cs
  have:=uq c
  have e:bH (c::cs)=wF c+bH cs:=by unfold bH;rw [List.map_cons,List.sum_cons]
  rw [e];omega
theorem FG (q:Int->Bool):∀ cells:List Int,0<=((cells.filter q).map wF).sum/\((cells.filter q).map wF).sum<=bH cells
 |[] => by show (0:Int)<=0/\(0:Int)<=0;omega
 |c::cs=>by
  have ih:=FG q cs
  have:=uq c
  have e:bH (c::cs)=wF c+bH cs:=by unfold bH;rw [List.map_cons,List.sum_cons]
  rw [e,List.filter_cons]
  split
  ·rw [List.map_cons,List.sum_cons];omega
  ·omega
theorem TL {cells c:List Int}{os:List (List Int)}{a:Int}(h1 : 1<=cells.length)(h2:cells.length<=100):gq (bH cells) c.length (cR cells c os a):=by
 have s:=qh cells
 refine ⟨xx h1,by omega,by unfold cR;rw [List.length_map,gP],fun t ht=>?_⟩
 obtain ⟨x,_,rfl⟩:=List.mem_map.mp ht
 exact FG _ cells
theorem EF {α:Type}(f g : α->Dv):∀ l:List α,qQ (l.map f) (l.map g)=l.map fun a=>.tup [f a,g a]
 |[] => rfl
 |a::l=>by
  show Dv.tup [f a,g a]::qQ (l.map f) (l.map g)=_
  rw [EF f g l];rfl
abbrev kc:Stmt:=top 37
theorem ju:bh ["_law_cells", "_law_counts_here", "_law_orders_here", "_law_weights", "_law_deals", "_law_cell", "_law_shares", "_law_asker", "_law_row", "_law_one", "_law_top"] ["_law_cells", "_law_counts_here", "_law_orders_here"] (au kc):=⟨rfl,rfl,rfl,by decide +kernel,rfl,by decide +kernel,by decide +kernel⟩
def gu (W:Int)(bX:List Int):Tr:=.ow (bX.map fun t=>tF (fW W t))
def Hn (dd:List Dv)(t:Tr):Prop:=∃ (cells c:List Int) (os:List (List Int)),1<=cells.length/\cells.length<=100/\eu c os/\dd=[dis cells,dis c,.lst (os.map dis)]/\t=.ow ((aq os.length).map fun a=>gu (bH cells) (cR cells c os a))
theorem Nb {f f1 f2 f3:Addr} {fd aT fd2 j8:FuncData} {k:Nat} (F:bj K "_law_drawn" "_law_drawn" kc f fd) (T:Txt mg) (Mz:Kn P w K mg base ao (k+2) "_law_any_deal" f1 aT ["_law_cell", "_law_counts_here", "_law_askers"] (spT K IB)) (Ms:Kn P w K mg base ao (k+2) "_law_turn_deal" f3 j8 ["_law_cell", "_law_counts_here", "_law_orders_here"] (spT K Hm)) (wz:Kn P w K mg base ao (k+2) "_law_lowest" f2 fd2 ["_law_top", "_law_bottom"] (spT K kD)):aR P w K mg base ao (k+3) f fd ["_law_cells", "_law_counts_here", "_law_orders_here"] (spT K Hn):=by
 refine bC F.d ju (fun dd t h=>by obtain ⟨_,_,_,_,_,_,rfl,_⟩:=h;rfl) fun dd t h=>?_
 obtain ⟨cells,c,os,l1,l2,ok,rfl,rfl⟩:=h
 refine ⟨_,.inl rfl,?_⟩
 have big : 1000<sizeLine:=by decide
 have W0:=xx l1
 have W1:=qh cells
 have c6:=ok.c6
 have o6:=ok.o6
 have o1:=ok.o1
 have fS:(((os.map dis).length:Nat):Int)=os.length:=by rw [List.length_map]
 have iJ:(((c.map di).length:Nat):Int)=c.length:=by rw [List.length_map]
 have hAt:∀ x:Int,av [di (x / 4 % 3),di (x / 4 % 10 ^ 9)] (if decide (x / 7 % 4=1) then 1 else 0)=some (di (if decide (x / 7 % 4=1) then x / 4 % 10 ^ 9 else x / 4 % 3)):=fun x=>by cases decide (x / 7 % 4=1)<;>rfl
 refine ai (aH 3 (Ev.s (bT aj (Nat.zero_le _))) (fun _=>ju.nd)) ?_
 refine ai (aH 4 (Ev.s (bT aj (Nat.zero_le _))) (fun _=>ju.nd)) ?_
 refine ai (cY (aZ.s (cB (ae 0 rfl) rfl)) (bK 5 (fun _=>ju.nd)) (fun k=>[some (.fz (dis cells)),some (.fz (dis c)),some (.fz (.lst (os.map dis))),some (ax ((cells.take k).map wF)),some (fF ((cells.take k).map (cj c os))),none,none,none,none,none,none]) rfl (fun _=>rfl) (fun j d hd=>?_)) ?_
 ·obtain ⟨x,hx,rfl⟩:=e8 hd
  rw [jx hx,List.map_append,List.map_append]
  have tl:(cells.take j).length<=100:=by rw [List.length_take];omega
  have z1:(((cells.take j).map wF).map fun n=>Tr.fz (di n)).length<sizeLine:=by rw [List.length_map,List.length_map];omega
  have z2:(((cells.take j).map (cj c os)).map ax).length<sizeLine:=by rw [List.length_map,List.length_map];omega
  generalize (cells.take j).map wF=L at z1
  generalize (cells.take j).map (cj c os)=M at z2
  have Vk:some (ax (L++[x].map wF))=some (.ow ((L.map fun n=>Tr.fz (di n))++[ti (wF x)])):=by
   show some (Tr.ow _)=_
   rw [List.map_append];rfl
  have fin2:some (fF (M++[x].map (cj c os)))=some (.ow (M.map ax++[ax (cj c os x)])):=by
   show some (Tr.ow _)=_
   rw [List.map_append];rfl
  rw [Vk,fin2]
  have eD:cj c os x=if decide (x % 4=0) then mE x c os.length else md x c os:=rfl
  have sw:Rn (uD P w K mg base ["_law_cells", "_law_counts_here", "_law_orders_here", "_law_weights", "_law_deals", "_law_cell", "_law_shares", "_law_asker", "_law_row", "_law_one", "_law_top"] "_law_drawn" (au kc) f (k+2)) ((match (aP kc).getD 2 (.Pass ⟨0,0,0,0⟩) with | .For _ _ b _ _=>b | _=>[]).getD 0 (.Pass ⟨0,0,0,0⟩)) [some (.fz (dis cells)),some (.fz (dis c)),some (.fz (.lst (os.map dis))),some (ax L),some (fF M),some (ti x),none,none,none,none,none] (.nx [some (.fz (dis cells)),some (.fz (dis c)),some (.fz (.lst (os.map dis))),some (.ow ((L.map fun n=>Tr.fz (di n))++[ti (wF x)])),some (fF M),some (ti x),none,none,none,none,none]) :=
   ip 3 rfl (bp.to (t':=ti (wF x)) (Ev.s (d9 ah (bu (d:=di (if decide (x / 7 % 4=1) then x / 4 % 10 ^ 9 else x / 4 % 3)) (bT (ag (cH (gg (ae 5 rfl) ah ⟨by decide,i6 (by decide) (by decide)⟩) ah (by decide)) (ag (cH (gg (ae 5 rfl) ah ⟨by decide,i6 (by decide) (by decide)⟩) (To ah ah ⟨by decide,by decide,by decide⟩) (by decide)) aj)) (by show 2<=sizeLine;decide)) (Rw T.yF (Ig (cH (gg (ae 5 rfl) ah ⟨by decide,i6 (by decide) (by decide)⟩) ah (by decide)) ah)) rfl (hAt x)))) rfl) z1
  cases hq:decide (x % 4=0) with
  |true =>
   rw [hq,if_pos rfl] at eD
   rw [eD]
   exact ⟨_,_,rfl,ai sw (aw (fP (Et.s (fD (cH (ae 5 rfl) ah (by decide)) ah)) hq (aw (ip 4 rfl (Ev.s (aQ Mz (Nat.le_refl _) (ag (ae 5 rfl) (ag (ae 1 rfl) (ag (bq T.bb (ae 2 rfl) (.inl rfl)) aj))) ⟨x,c,os.length,c6,o1,o6,by rw [<- fS];rfl,rfl⟩)) z2)))),[5],rfl⟩
  |false =>
   rw [hq,if_neg (by decide)] at eD
   rw [eD]
   exact ⟨_,_,rfl,ai sw (aw (x8 (Et.s (fD (cH (ae 5 rfl) ah (by decide)) ah)) hq (aw (ip 4 rfl (Ev.s (aQ Ms (Nat.le_refl _) (ag (ae 5 rfl) (ag (ae 1 rfl) (ag (ae 2 rfl) aj))) ⟨x,c,os,ok,rfl,rfl⟩)) z2)))),[5],rfl⟩
 rw [List.length_map,List.take_of_length_le (Nat.le_refl _)]
 refine lh (d:=dis (cells.map wF)) 3 rfl (cg _) ?_
 have eDl:er (fF (cells.map (cj c os)))=.lst (cells.map fun x=>dis (cj c os x)):=by
  rw [ke,List.map_map];rfl
 refine lh (d:=.lst (cells.map fun x=>dis (cj c os x))) 4 rfl eDl ?_
 show aV _ _ [some (.fz (dis cells)),some (.fz (dis c)),some (.fz (.lst (os.map dis))),some (.fz (dis (cells.map wF))),some (.fz (.lst (cells.map fun x=>dis (cj c os x)))),none,none,none,none,none,none] _
 refine ai (aH 6 (Ev.s (bT aj (Nat.zero_le _))) (fun _=>ju.nd)) ?_
 refine ai (cY (its:=fR 0 os.length) (aZ.s (aZ.to (ft T.dJ (bq T.bb (ae 2 rfl) (.inl rfl)) (by rw [fS];omega)) (by rw [fS,Int.toNat_natCast]))) (bK 7 (fun _=>ju.nd)) (fun k=>[some (.fz (dis cells)),some (.fz (dis c)),some (.fz (.lst (os.map dis))),some (.fz (dis (cells.map wF))),some (.fz (.lst (cells.map fun x=>dis (cj c os x)))),none,some (.ow ((aq k).map fun a=>gu (bH cells) (cR cells c os a))),none,none,none,none]) rfl (fun _=>rfl) (fun j d hd=>?_)) ?_
 ·obtain ⟨hj,rfl⟩:=i9 hd
  have eN:(aq (j+1)).map (fun a=>gu (bH cells) (cR cells c os a))=(aq j).map (fun a=>gu (bH cells) (cR cells c os a))++[gu (bH cells) (cR cells c os (0+(j:Int)))]:=by
   unfold aq
   rw [List.range_succ,List.map_append,List.map_append];rfl
  rw [eN]
  have hL:((aq j).map fun a=>gu (bH cells) (cR cells c os a)).length<sizeLine:=by rw [List.length_map,gP];omega
  generalize ((aq j).map fun a=>gu (bH cells) (cR cells c os a))=L at hL
  refine ⟨_,_,rfl,ai (aH 8 (Ev.s (bT aj (Nat.zero_le _))) (fun _=>ju.nd)) (ai (cY (its:=fR 0 (c.length+1)) (aZ.s (aZ.to (ft T.dJ (d9 (bq T.bb (ae 1 rfl) (.inl rfl)) ah) (by rw [iJ];omega)) (by rw [iJ];congr 1))) (bK 9 (fun _=>ju.nd)) (fun i=>[some (.fz (dis cells)),some (.fz (dis c)),some (.fz (.lst (os.map dis))),some (.fz (dis (cells.map wF))),some (.fz (.lst (cells.map fun x=>dis (cj c os x)))),none,some (.ow L),some (ti (0+(j:Int))),some (gu (bH cells) ((cR cells c os (0+(j:Int))).take i)),none,none]) rfl (fun _=>rfl) (fun i d hd=>?_)) (aw (NI 6 8 (by decide) rfl rfl hL))),[7],?_⟩
  ·obtain ⟨hi,rfl⟩:=i9 hd
   have ht:(cR cells c os (0+(j:Int)))[i]?=some (gY cells c os (0+(j:Int)) (0+(i:Int))):=by
    unfold cR aq
    rw [List.getElem?_map,List.getElem?_map,List.getElem?_range hi];rfl
   have eR:gu (bH cells) ((cR cells c os (0+(j:Int))).take (i+1))=.ow (((cR cells c os (0+(j:Int))).take i).map (fun t=>tF (fW (bH cells) t))++[tF (fW (bH cells) (gY cells c os (0+(j:Int)) (0+(i:Int))))]):=by
    rw [jx ht]
    show Tr.ow _=_
    rw [List.map_append];rfl
   rw [eR]
   have hz:(((cR cells c os (0+(j:Int))).take i).map (fun t=>tF (fW (bH cells) t))).length<sizeLine:=by rw [List.length_map,List.length_take];omega
   rw [show gu (bH cells) ((cR cells c os (0+(j:Int))).take i)=.ow (((cR cells c os (0+(j:Int))).take i).map (fun t=>tF (fW (bH cells) t))) from rfl]
   generalize ((cR cells c os (0+(j:Int))).take i).map (fun t=>tF (fW (bH cells) t))=M at hz
   have Vl:∀ y:Int,av ((cj c os y).map di) (0+(j:Int))=some (di ((cj c os y).getD (0+(j:Int)).toNat 0)):=fun y=>mC (by omega) (by
    have:=(FE ok.ck y).1
    omega)
   refine ⟨_,[some (.fz (dis cells)),some (.fz (dis c)),some (.fz (.lst (os.map dis))),some (.fz (dis (cells.map wF))),some (.fz (.lst (cells.map fun x=>dis (cj c os x)))),none,some (.ow L),some (ti (0+(j:Int))),some (.ow (M++[tF (fW (bH cells) (gY cells c os (0+(j:Int)) (0+(i:Int))))])),some (ti (0+(i:Int))),some (ti (gY cells c os (0+(j:Int)) (0+(i:Int))))],rfl,?_,[9,10],rfl⟩
   refine ai (aH 10 (bp.to (t':=ti (gY cells c os (0+(j:Int)) (0+(i:Int)))) (Ev.s (Gw T.Iy (lV (own:=["_law_weight", "_law_deal"]) (fr:=[9,7]) cells (fun y=>.tup [di (wF y),dis (cj c os y)]) (fun y=>decide ((cj c os y).getD (0+(j:Int)).toNat 0=0+(i:Int))) (fun y=>ti (wF y)) (fun i=>lcs ⟨rfl,rfl,by decide +kernel,by decide +kernel,by decide +kernel,by decide +kernel⟩) (aZ.to (Rq T.UC (ae 3 rfl) (ae 4 rfl) rfl rfl) ?_) (kv 0 1 (fun _=>by show List.Nodup (["_law_weight", "_law_deal", "_law_one", "_law_asker"]:List Str);decide)) (by decide) (by omega) (fun y hy=>⟨_,rfl,by exact iw (fD (bu (ae 1 rfl) (ae 3 rfl) rfl (Vl y)) (ae 2 rfl)),fun _=>by exact ae 0 rfl⟩) (fun dd=>by rcases dd with _ | ⟨_,_ | ⟨_,_⟩⟩<;>rfl)) (kx _ _))) rfl) (fun _=>ju.nd)) ?_
   ·rw [List.map_map]
    exact EF _ _ cells
   exact aw (ip 8 rfl (Ev.s (aQ wz (Nat.le_refl _) (ag (ae 10 rfl) (ag (Gw T.Iy (ae 3 rfl) rfl) aj)) ⟨_,bH cells,W0,i6 (by omega) (by omega),rfl,rfl⟩)) hz)
  ·have el:(fR 0 (c.length+1)).length=c.length+1:=by simp
   rw [el,List.take_of_length_le (by unfold cR;rw [List.length_map,gP];exact Nat.le_refl _)]
   rfl
 ·have el:(fR 0 os.length).length=os.length:=by simp
  rw [el]
  exact aw (i7 6 rfl)
end
end bM
namespace bM
open PySem L2 eY
section
variable {P:Program}{w:World}{K:PySem.W.Frag}{mg:Str->Option Value}{base:Heap}
def iL (ns:List Int):Nat:=(cD ns 0 % 7).toNat
def fH (ns:List Int):Nat:=(1+cD ns 0 / 7 % 6).toNat
def qX (ns:List Int):List Int:=tQ (cD ns 1) (iL ns)
def qY (ns:List Int):List (List Int):=dg ((aq (fH ns)).map fun x=>cD ns (2+x)) (iL ns) (fH ns)
theorem FH (ns:List Int):cD ns 0 % 7=(iL ns:Int)/\iL ns<=6:=by
 unfold iL
 have n0:=Int.emod_nonneg (cD ns 0) (show (7:Int) ≠ 0 by decide)
 have n1:=Int.emod_lt_of_pos (cD ns 0) (show (0:Int)<7 by decide)
 omega
theorem FI (ns:List Int) : 1+cD ns 0 / 7 % 6=(fH ns:Int)/\1<=fH ns/\fH ns<=6:=by
 unfold fH
 have m0:=Int.emod_nonneg (cD ns 0 / 7) (show (6:Int) ≠ 0 by decide)
 have m1:=Int.emod_lt_of_pos (cD ns 0 / 7) (show (0:Int)<6 by decide)
 omega
theorem QM (ns:List Int):(qX ns).length=iL ns:=by unfold qX tQ;rw [List.length_map];exact (lO _ _).2.2
theorem P4 (ns:List Int):eu (qX ns) (qY ns):=by
 obtain ⟨_,n6⟩:=FH ns
 obtain ⟨_,m1,m6⟩:=FI ns
 obtain ⟨ol,oo⟩:=xN ((aq (fH ns)).map fun x=>cD ns (2+x)) (iL ns) (fH ns)
 have cl:=QM ns
 exact ⟨by omega,fun x hx=>by
  obtain ⟨y,_,rfl⟩:=List.mem_map.mp hx
  exact Sn y,by show 1<=(dg _ _ _).length;omega,by show (dg _ _ _).length<=6;omega,fun o ho=>(oo o ho).1,fun o ho=>by rw [cl];exact (oo o ho).2⟩
abbrev nI:Stmt:=top 43
theorem sG:bh ["_law_script", "_law_many", "_law_askers", "_law_orders_here"] ["_law_script"] (au nI):=⟨rfl,rfl,rfl,by decide +kernel,rfl,by decide +kernel,by decide +kernel⟩
def FJ (dd:List Dv)(t:Tr):Prop:=∃ ns:List Int,dd=[dis ns]/\t=.fz (e9 (qX ns) (qY ns))
theorem MO {f f1 f2 f3:Addr} {fd aT fd2 j8:FuncData} {k:Nat} (F:bj K "_law_tabled" "_law_tabled" nI f fd) (T:Txt mg) (ny:Kn P w K mg base ao (k+1) "_law_cell_at" f1 aT ["_law_script", "_law_k"] (spT K yK)) (Nc:Kn P w K mg base ao (k+2) "_law_counts" f2 fd2 ["_law_cell", "_law_many"] (spT K FD)) (Nf:Kn P w K mg base ao (k+3) "_law_orders" f3 j8 ["_law_cells", "_law_many"] (spT K FC)):aR P w K mg base ao (k+4) f fd ["_law_script"] (spT K FJ):=by
 refine bC F.d sG (fun dd t h=>by obtain ⟨_,rfl,_⟩:=h;rfl) fun dd t h=>?_
 obtain ⟨ns,rfl,rfl⟩:=h
 refine ⟨_,.inl rfl,?_⟩
 have big : 1000<sizeLine:=by decide
 have r1:k+1<=k+3:=by omega
 have r2:k+2<=k+3:=by omega
 obtain ⟨en,hn⟩:=FH ns
 obtain ⟨em,m1,m6⟩:=FI ns
 have vA:qA (cD ns 0) 7:=⟨by decide,i6 (by decide) (by decide)⟩
 refine ai (aH 1 (bp.to (t':=ti (iL ns)) (Ev.s (cH (aQ ny r1 (ag (ae 0 rfl) (ag ah aj)) ⟨ns,0,by decide,rfl,rfl⟩) ah (by decide))) (by rw [en])) (fun _=>sG.nd)) ?_
 refine ai (aH 2 (bp.to (t':=ti (fH ns)) (Ev.s (d9 ah (cH (gg (aQ ny r1 (ag (ae 0 rfl) (ag ah aj)) ⟨ns,0,by decide,rfl,rfl⟩) ah vA) ah (by decide)))) (by rw [em])) (fun _=>sG.nd)) ?_
 have ml:((aq (fH ns)).map fun x=>cD ns (2+x)).length=fH ns:=by rw [List.length_map,gP]
 have eO:er (fF (dg ((aq (fH ns)).map fun x=>cD ns (2+x)) (iL ns) ((aq (fH ns)).map fun x=>cD ns (2+x)).length))=.lst ((qY ns).map dis):=by
  rw [ke,ml];rfl
 refine ai (aH 3 (Ev.s (Ev.as (d:=.lst ((qY ns).map dis)) (aQ Nf (Nat.le_refl _) (ag (jd (own:=["_law_k"]) (fr:=[0]) (aq (fH ns)) di (fun x=>ti (cD ns (2+x))) (fun i=>lcs ⟨rfl,rfl,by decide +kernel,by decide +kernel,by decide +kernel,by decide +kernel⟩) (aZ.to (ft T.dJ (ae 2 rfl) ⟨by omega,by omega⟩) ?_) (bK 0 (fun _=>by show List.Nodup (["_law_k", "_law_script"]:List Str);decide)) (by decide) (by rw [gP];omega) (fun x hx=>⟨_,rfl,by
   have:=sZ.mp hx
   exact aQ ny r1 (ag (ae 1 rfl) (ag (d9 ah (ae 0 rfl)) aj)) ⟨ns,2+x,by omega,rfl,rfl⟩⟩) (fun dd=>by cases dd<;>rfl)) (ag (ae 1 rfl) aj)) ⟨(aq (fH ns)).map fun x=>cD ns (2+x),iL ns,hn,by omega,?_,rfl⟩) eO)) (fun _=>sG.nd)) ?_
 ·rw [Int.toNat_natCast]
  unfold aq
  rw [List.map_map];rfl
 rotate_left
 ·show [er (.ow _),_]=_
  rw [kx];rfl
 refine aw (bS (Ev.s (jB (ag (aQ Nc r2 (ag (aQ ny r1 (ag (ae 0 rfl) (ag ah aj)) ⟨ns,1,by decide,rfl,rfl⟩) (ag (ae 1 rfl) aj)) ⟨cD ns 1,iL ns,by omega,rfl,rfl⟩) (ag (ae 3 rfl) aj)) ?_ (by show 2<=sizeLine;decide))))
 show [er (ax _),_]=_
 rw [cg];rfl
end
end bM
namespace bM
open PySem L2 eY
section
variable {P:Program}{w:World}{K:PySem.W.Frag}{mg:Str->Option Value}{base:Heap}
abbrev l3 (t:Int×Int×Int):List Int:=[t.1,t.2.1,t.2.2]
def wJ (n:Nat)(o bX:List Int)(a:Nat)(m:Nat):List (Int×Int×Int):=(List.range m).flatMap fun j=>if cn bX ((aM n o).getD j 0)=0 then [] else ((aM n o).take j).map fun x=>((a:Int),x,(aM n o).getD j 0)
def bz (n:Nat)(os:List (List Int))(S:Nat->List Int)(m:Nat):List (Int×Int×Int):=(List.range m).flatMap fun a=>wJ n (os.getD a []) (S a) a (aM n (os.getD a [])).length
theorem qj (n:Nat)(o bX:List Int)(a m:Nat):wJ n o bX a (m+1)=wJ n o bX a m++(if cn bX ((aM n o).getD m 0)=0 then [] else ((aM n o).take m).map fun x=>((a:Int),x,(aM n o).getD m 0)):=by
 unfold wJ
 rw [List.range_succ,List.flatMap_append]
 simp
theorem xg (n:Nat)(os:List (List Int))(S:Nat->List Int)(m:Nat):bz n os S (m+1)=bz n os S m++wJ n (os.getD m []) (S m) m (aM n (os.getD m [])).length:=by
 unfold bz
 rw [List.range_succ,List.flatMap_append]
 simp
def tri:Nat->Nat
 |0=>0
 |m+1=>tri m+m
theorem t7 (n:Nat)(o bX:List Int)(a:Nat):∀ m,(wJ n o bX a m).length<=tri m
 |0=>Nat.zero_le _
 |m+1=>by
  rw [qj,List.length_append]
  have:=t7 n o bX a m
  show _<=tri m+m
  split
  ·show _+0<=_;omega
  ·rw [List.length_map,List.length_take];omega
theorem zD {m:Nat}(h:m<=7):tri m<=21:=by
 have:∀ m:Fin 8,tri m.val<=21:=by decide
 exact this ⟨m,by omega⟩
theorem lI {n:Nat}{o:List Int}(hr:∀ x ∈ o,0<=x/\x<n){x:Int}:x ∈ aM n o ↔ 0<=x/\x<=n:=by
 unfold aM gn
 simp only [List.mem_append,List.mem_singleton,List.mem_map,List.mem_filter,List.mem_range]
 constructor
 ·rintro ((h | h) | ⟨k,⟨h1,_⟩,rfl⟩)
  ·have:=hr x h;omega
  ·omega
  ·omega
 ·intro h
  by_cases hx:x ∈ o
  ·exact .inl (.inl hx)
  by_cases hn:x=n
  ·exact .inl (.inr hn)
  ·refine .inr ⟨x.toNat,⟨by omega,?_⟩,by omega⟩
   rw [show 0+((x.toNat:Nat):Int)=x by omega]
   simpa using hx
theorem oW {n:Nat}{o:List Int}(hn:n<=6)(nd:o.Nodup)(hr:∀ x ∈ o,0<=x/\x<n):(aM n o).length<=7/\(aM n o).Nodup:=by
 have nf:(aM n o).Nodup:=by
  unfold aM
  rw [List.nodup_append,List.nodup_append]
  refine ⟨⟨nd,List.nodup_cons.mpr ⟨(fun z=>nomatch z),.nil⟩,fun a ha b hb=>?_⟩,?_,fun a ha b hb=>?_⟩
  ·rw [List.mem_singleton.mp hb]
   have:=hr a ha
   omega
  ·unfold gn
   refine List.Pairwise.map _ (fun a b (h:a<b)=>?_) ((List.pairwise_lt_range (n:=n)).filter _)
   omega
  ·obtain ⟨k,hk,rfl⟩:=List.mem_map.mp hb
   obtain ⟨h1,h2⟩:=List.mem_filter.mp hk
   have h1:=List.mem_range.mp h1
   rcases List.mem_append.mp ha with ha | ha
   ·intro z
    rw [z] at ha
    rw [List.contains_iff_mem.mpr ha] at h2
    cases h2
   ·rw [List.mem_singleton.mp ha];omega
 refine ⟨?_,nf⟩
 have:=Ts.t5 (aM n o) (aq (n+1)) nf fun x hx=>by
  have:=(lI hr).mp hx
  exact sZ.mpr ⟨by omega,by omega⟩
 rw [show (aq (n+1)).length=n+1 by unfold aq;rw [List.length_map,List.length_range]] at this
 omega
theorem lJ {n:Nat}{os:List (List Int)}(S:Nat->List Int)(h:∀ o ∈ os,(aM n o).length<=7):∀ m,m<=os.length->(bz n os S m).length<=21*m
 |0,_=>Nat.zero_le _
 |m+1,hm=>by
  rw [xg,List.length_append]
  have:=lJ S h m (by omega)
  have h1:=t7 n (os.getD m []) (S m) m (aM n (os.getD m [])).length
  have h2:os.getD m [] ∈ os:=by
   rw [List.getD_eq_getElem?_getD,List.getElem?_eq_getElem (show m<os.length by omega)]
   exact List.getElem_mem _
  have:=zD (h _ h2)
  omega
theorem EG {n:Nat}{os:List (List Int)}{S:Nat->List Int}{m:Nat}{t:Int×Int×Int}:t ∈ bz n os S m ↔ ∃ a j,a<m/\j<(aM n (os.getD a [])).length/\cn (S a) ((aM n (os.getD a [])).getD j 0) ≠ 0/\∃ x ∈ (aM n (os.getD a [])).take j,t=((a:Int),x,(aM n (os.getD a [])).getD j 0):=by
 unfold bz wJ
 simp only [List.mem_flatMap,List.mem_range]
 constructor
 ·rintro ⟨a,ha,j,hj,h⟩
  split at h
  ·cases h
  ·rename_i hz
   obtain ⟨x,hx,rfl⟩:=List.mem_map.mp h
   exact ⟨a,j,ha,hj,hz,x,hx,rfl⟩
 ·rintro ⟨a,j,ha,hj,hz,x,hx,rfl⟩
  exact ⟨a,ha,j,hj,by rw [if_neg hz];exact List.mem_map.mpr ⟨x,hx,rfl⟩⟩
def sv (n:Nat)(os:List (List Int))(S:Nat->List Int):List (Nat×Nat):=(bz n os S os.length).map fun t=>(t.2.1.toNat,t.2.2.toNat)
theorem OZ {ps qs:List (Nat×Nat)}(h:∀ p,p ∈ ps ↔ p ∈ qs):gX ps=gX qs:=by
 unfold gX
 refine List.filter_congr fun p _=>?_
 rw [Bool.eq_iff_iff]
 simpa using h p
theorem TN (ts:List (Int×Int×Int)):∃ Lg:List (Int×Int×Int),iG (ts.map l3)=Lg.map l3/\Lg.Perm ts:=by
 obtain ⟨g,hg⟩:∃ g:List Int->Int×Int×Int,g=fun d=>(d.getD 0 0,d.getD 1 0,d.getD 2 0):=⟨_,rfl⟩
 have gl:∀ t,g (l3 t)=t:=fun t=>by rw [hg];rfl
 refine ⟨(iG (ts.map l3)).map g,?_,?_⟩
 ·rw [List.map_map]
  refine ((List.map_congr_left (g:=id) fun d hd=>?_).trans (List.map_id _)).symm
  obtain ⟨t,_,rfl⟩:=List.mem_map.mp ((pO _).mem_iff.mp hd)
  show l3 (g (l3 t))=_
  rw [gl];rfl
 ·have:=(pO (ts.map l3)).map g
  rw [List.map_map] at this
  refine this.trans (List.Perm.of_eq ?_)
  exact (List.map_congr_left (g:=id) fun t _=>gl t).trans (List.map_id _)
theorem tj {n:Nat}{o:List Int}{j:Nat}(h:j<(aM n o).length):(aM n o)[j]?=some ((aM n o).getD j 0):=by
 rw [List.getD_eq_getElem?_getD,List.getElem?_eq_getElem h];rfl
theorem QN {α:Type}(l:List α)(m:Nat):cutD l none (some (m:Int))=l.take m:=by
 unfold cutD
 rw [HT.tu]
 show (l.drop 0).take (min m l.length-0)=_
 rw [List.drop_zero,Nat.sub_zero]
 rcases Nat.le_total m l.length with z | z
 ·rw [Nat.min_eq_left z]
 ·rw [Nat.min_eq_right z,List.take_length,List.take_of_length_le z]
abbrev nWI:List Str:=["table", "shares", "told", "asker", "row", "order", "place", "b"]
abbrev oq:Stmt:=top 21
theorem pP:bh nWI ["table", "shares"] (au oq):=⟨rfl,rfl,rfl,by decide +kernel,rfl,by decide +kernel,by decide +kernel⟩
abbrev tW (ts:List (Int×Int×Int)):Tr:=.ow (ts.map fun t=>.fz (dT (l3 t)))
theorem UG (ts:List (Int×Int×Int)):er (tW ts)=.lst ((ts.map l3).map dT):=by rw [fu,List.map_map];rfl
abbrev dc (W:Int)(A:Nat)(S:Nat->List Int):Dv:=.lst ((List.range A).map fun a=>dC W (S a))
theorem Ho (p q:Int×Int):bL (dF p) (dF q)=decide (p=q):=by
 show (p.1==q.1&&(p.2==q.2&&true))=_
 rw [Bool.and_true,Bool.eq_iff_iff,Bool.and_eq_true,beq_iff_eq,beq_iff_eq,decide_eq_true_iff]
 exact ⟨fun h=>Prod.ext h.1 h.2,fun h=>by rw [h];exact ⟨rfl,rfl⟩⟩
theorem QO {W s:Int}(h : 0<W):bL (dF (fW W s)) (dF (lT 0 1,lB 0 1))=decide (s=0):=by
 rw [Ho,yJ,<- tJ h,decide_eq_decide]
 exact ⟨fun e=>GJ h e,fun e=>by rw [e]⟩
def yL (dd:List Dv)(t:Tr):Prop:=∃ (c:List Int) (os:List (List Int)) (W:Int) (S:Nat->List Int),eu c os/\(∀ a,a<os.length->gq W c.length (S a))/\dd=[e9 c os,dc W os.length S]/\t=.ow ((iG ((bz c.length os S os.length).map l3)).map fun d=>.fz (dT d))
theorem P5 {f f1 f2:Addr} {fd aT fd2:FuncData} {k:Nat} {tk:Tok} (F:bj K "wishes" "wishes" oq f fd) (T:Txt mg) (NP:Kn P w K mg base ao (k+2) "full_order" f1 aT ["table", "asker"] (spT K IA)) (lr:Kn P w K mg base ao (k+2) "fraction" f2 fd2 ["top", "bottom"] (spT K kD)) (B1:Binds K fd2 ["top", "bottom"] [.int 1 tk]):aR P w K mg base ao (k+3) f fd ["table", "shares"] (spT K yL):=by
 refine bC F.d pP (fun dd t h=>by obtain ⟨_,_,_,_,_,_,rfl,_⟩:=h;rfl) fun dd t h=>?_
 obtain ⟨c,os,W,S,ok,b0,rfl,rfl⟩:=h
 refine ⟨_,.inl rfl,?_⟩
 have big : 1000<sizeLine:=by decide
 have o6:=ok.o6
 have c6:=ok.c6
 have fl:∀ o ∈ os,(aM c.length o).length<=7:=fun o ho=>(oW c6 (ok.nd o ho) (ok.ck o ho)).1
 have wl:=lJ S fl os.length (Nat.le_refl _)
 refine ai (aH 2 (Ev.s (bT aj (Nat.zero_le _))) (fun _=>pP.nd)) ?_
 refine ai (cY (aZ.s (pV T.pL (ae 1 rfl) rfl)) (kv 3 4 (fun _=>pP.nd)) (fun k=>[some (.fz (e9 c os)),some (.fz (dc W os.length S)),some (tW (bz c.length os S k)),none,none,none,none,none]) rfl (fun _=>rfl) (fun j d hd=>?_)) ?_
 ·obtain ⟨x,hx,rfl⟩:=qc hd
  obtain ⟨a,ha,rfl⟩:=e8 hx
  have ja:a=j:=by
   obtain ⟨q1,q2⟩:=List.getElem?_eq_some_iff.mp ha
   rw [List.getElem_range] at q2;exact q2.symm
  subst ja
  have hj:a<os.length:=by have:=(List.getElem?_eq_some_iff.mp ha).1;rw [List.length_range] at this;exact this
  obtain ⟨o,nh⟩:∃ o,os[a]?=some o:=⟨_,List.getElem?_eq_getElem hj⟩
  have og:os.getD a []=o:=by rw [List.getD_eq_getElem?_getD,nh];rfl
  have om:=List.mem_of_getElem? nh
  have f7:=fl o om
  have R:=b0 a hj
  have kU:=ok.fS om
  have wa:=lJ S fl a (by omega)
  refine ⟨_,_,rfl,ai (aH 5 (Ev.s (Ev.as (d:=dis (aM c.length o)) (aQ NP (Nat.le_refl _) (ag (ae 0 rfl) (ag (ae 3 rfl) aj)) ⟨c,os,a,o,by omega,by omega,e7 nh,rfl,rfl⟩) (cg _))) (fun _=>pP.nd)) (aw (cY (aZ.s (pV T.pL (ae 5 rfl) rfl)) (kv 6 7 (fun _=>pP.nd)) (fun i=>[some (.fz (e9 c os)),some (.fz (dc W os.length S)),some (tW (bz c.length os S a++wJ c.length o (S a) a i)),some (ti a),some (.fz (dC W (S a))),some (.fz (dis (aM c.length o))),none,none]) ?_ (fun _=>rfl) (fun i d hd=>?_))),[3,4,5],?_⟩
  ·show [_,_,some (tW (bz c.length os S a++[])),_,_,_,_,_]=_
   rw [List.append_nil];rfl
  ·obtain ⟨y,hy,rfl⟩:=qc hd
   obtain ⟨b,hb,rfl⟩:=e8 hy
   have il:=(List.getElem?_eq_some_iff.mp hb).1
   have bg:(aM c.length o).getD i 0=b:=by rw [List.getD_eq_getElem?_getD,hb];rfl
   have bm:=(lI (ok.ck o om)).mp (List.mem_of_getElem? hb)
   have Vm:er (.ow ((cutD ((aM c.length o).map di) none (some ((i:Nat):Int))).map .fz))=.lst (((aM c.length o).take i).map di):=by
    rw [lU,sV,QN]
   have wj:=t7 c.length o (S a) a i
   have ti7:=zD (m:=i) (by omega)
   have tw:∀ l r:List (Int×Int×Int),tW (l++r)=.ow ((l.map fun t=>.fz (dT (l3 t)))++r.map fun t=>.fz (dT (l3 t))):=fun l r=>by show Tr.ow _=Tr.ow _;rw [List.map_append]
   refine ⟨_,_,rfl,aw (qB (o:=.nx [some (.fz (e9 c os)),some (.fz (dc W os.length S)),some (tW (bz c.length os S a++wJ c.length o (S a) a (i+1))),some (ti a),some (.fz (dC W (S a))),some (.fz (dis (aM c.length o))),some (ti i),some (ti b)]) (p:=!decide (cn (S a) b=0)) (cU.to (Et.s (fO (bu (ae 4 rfl) (ae 7 rfl) rfl (rowAt R bm.1 bm.2)) (xr lr B1 (Nat.le_refl _) (ag ah aj) ⟨0,1,by decide,by decide,rfl,rfl⟩) (.inr ⟨_,_,rfl,rfl⟩) (Nat.le_trans (yh _) (by decide)))) ?_) (fun h=>aV.to (aw (Pw 2 rfl (Ev.s (jd (own:=["a"]) (fr:=[3,7]) ((aM c.length o).take i) di (fun x=>.fz (dT [(a:Int),x,b])) (fun i=>lcs ⟨rfl,rfl,by decide +kernel,by decide +kernel,by decide +kernel,by decide +kernel⟩) (cB (sU (ae 5 rfl) rfl p7 (lN (ae 6 rfl))) Vm) (bK 0 (fun _=>by show List.Nodup (["a", "asker", "b"]:List Str);decide)) (by decide) (by rw [List.length_take];omega) (fun x hx=>⟨_,rfl,by exact jB (dd:=[di a,di x,di b]) (ag (ae 1 rfl) (ag (ae 0 rfl) (ag (ae 2 rfl) aj))) rfl (by show 3<=sizeLine;decide)⟩) (fun dd=>by cases dd<;>rfl))) ?_)) ?_) (fun h=>aV.to kn ?_)),[6,7],rfl⟩
   ·show (!bL (dF _) (dF _))=_
    rw [QO R.w0]
   ·rw [List.length_map,List.length_map,List.length_append,List.length_take];omega
   ·have hb:¬ cn (S a) b=0:=fun z=>by rw [decide_eq_true z] at h;cases h
    show Out.nx [_,_,some (.ow _),_,_,_,_,_]=_
    rw [qj,bg,if_neg hb,<- List.append_assoc,tw,List.map_map]
    rfl
   ·have hb:cn (S a) b=0:=Classical.byContradiction fun z=>by rw [decide_eq_false z] at h;cases h
    rw [qj,bg,if_pos hb,List.append_nil]
    rfl
  ·show [_,_,some (tW _),_,_,_,_,_]=_
   rw [xg,og,tI,List.length_map]
 ·rw [tI,List.length_map,List.length_range]
  refine lh (d:=.lst (((bz c.length os S os.length).map l3).map dT)) 2 rfl (UG _) ?_
  exact aw (bS (Ev.s (OQ T.xv (ae 2 rfl) rfl (fun d hd=>by obtain ⟨t,_,rfl⟩:=List.mem_map.mp hd;exact List.cons_ne_nil _ _) (by rw [List.length_map];omega))))
abbrev nO:Stmt:=top 22
theorem Ng:bh ["table", "shares"] ["table", "shares"] (au nO):=⟨rfl,rfl,rfl,by decide +kernel,rfl,by decide +kernel,by decide +kernel⟩
abbrev Lh (ps:List (Nat×Nat)):Tr:=.ow ((ps.map lP).map fun d=>.fz (dT d))
def IC (dd:List Dv)(t:Tr):Prop:=∃ (c:List Int) (os:List (List Int)) (W:Int) (S:Nat->List Int),eu c os/\(∀ a,a<os.length->gq W c.length (S a))/\dd=[e9 c os,dc W os.length S]/\t=Lh (gX (sv c.length os S))
theorem Nh {f f1:Addr} {fd aT:FuncData} {k:Nat} (F:bj K "over_pairs" "over_pairs" nO f fd) (T:Txt mg) (xA:Kn P w K mg base ao (k+3) "wishes" f1 aT ["table", "shares"] (spT K yL)):aR P w K mg base ao (k+4) f fd ["table", "shares"] (spT K IC):=by
 refine bC F.d Ng (fun dd t h=>by obtain ⟨_,_,_,_,_,_,rfl,_⟩:=h;rfl) fun dd t h=>?_
 obtain ⟨c,os,W,S,ok,b0,rfl,rfl⟩:=h
 refine ⟨_,.inl rfl,?_⟩
 have big : 1000<sizeLine:=by decide
 have o6:=ok.o6
 have c6:=ok.c6
 have fl:∀ o ∈ os,(aM c.length o).length<=7:=fun o ho=>(oW c6 (ok.nd o ho) (ok.ck o ho)).1
 have wl:=lJ S fl os.length (Nat.le_refl _)
 obtain ⟨ts,ets,AG⟩:=TN (bz c.length os S os.length)
 have Li:∀ t ∈ ts,0<=t.2.1/\t.2.1<=6/\0<=t.2.2/\t.2.2<=6:=fun t ht=>by
  obtain ⟨a,j,ha,hj,_,x,hx,rfl⟩:=EG.mp (AG.mem_iff.mp ht)
  have om:os.getD a [] ∈ os:=by
   rw [List.getD_eq_getElem?_getD,List.getElem?_eq_getElem ha]
   exact List.getElem_mem _
  have h1:=(lI (ok.ck _ om)).mp (List.mem_of_mem_take hx)
  have h2:=(lI (ok.ck _ om)).mp (List.mem_of_getElem? (tj hj))
  exact ⟨h1.1,by show x<=6;omega,h2.1,by show (aM c.length (os.getD a [])).getD j 0<=6;omega⟩
 have ew:er (.ow ((iG ((bz c.length os S os.length).map l3)).map fun d=>.fz (dT d)))=.lst (ts.map fun t=>dT (l3 t)):=by
  rw [fu,ets,List.map_map];rfl
 have ec:er (.ow (ts.map fun t=>Tr.fz (dT (lP (t.2.1.toNat,t.2.2.toNat)))))=.lst (((ts.map fun t=>(t.2.1.toNat,t.2.2.toNat)).map lP).map dT):=by
  rw [fu,List.map_map,List.map_map];rfl
 refine aw (bS (bp.to (Ev.s (N7 T.xv T.yG (jd (own:=["asker", "a", "b"]) (fr:=[]) ts (fun t=>dT (l3 t)) (fun t=>Tr.fz (dT (lP (t.2.1.toNat,t.2.2.toNat)))) (fun i=>lcs ⟨rfl,rfl,by decide +kernel,by decide +kernel,by decide +kernel,by decide +kernel⟩) (cB (aQ xA (Nat.le_refl _) (ag (ae 0 rfl) (ag (ae 1 rfl) aj)) ⟨c,os,W,S,ok,b0,rfl,rfl⟩) ew) (x6 0 1 2 (fun _=>by show List.Nodup (["asker", "a", "b"]:List Str);decide)) (by decide) (by rw [AG.length_eq];omega) (fun t ht=>⟨_,rfl,?_⟩) (fun dd=>by match dd with | [] => rfl | [_] => rfl | [_,_] => rfl | _::_::_::_=>rfl)) ec ?_)) ?_))
 ·have:=Li t ht
  exact Ev.to (jB (dd:=[di t.2.1,di t.2.2]) (ag (ae 1 rfl) (ag (ae 2 rfl) aj)) rfl (by show 2<=sizeLine;decide)) (by
   show Tr.fz (.tup [di t.2.1,di t.2.2])=Tr.fz (.tup [di ((t.2.1.toNat:Nat):Int),di ((t.2.2.toNat:Nat):Int)])
   rw [show ((t.2.1.toNat:Nat):Int)=t.2.1 by omega,show ((t.2.2.toNat:Nat):Int)=t.2.2 by omega])
 ·intro p hp
  obtain ⟨t,ht,rfl⟩:=List.mem_map.mp hp
  have:=Li t ht
  exact ⟨by show t.2.1.toNat<=6;omega,by show t.2.2.toNat<=6;omega⟩
 ·show Tr.ow _=Tr.ow _
  rw [OZ (ps:=ts.map fun t=>(t.2.1.toNat,t.2.2.toNat)) (qs:=sv c.length os S) fun p=>(AG.map _).mem_iff]
def kW (l:List Int)(x b:Int):Prop:=∃ (j:Nat),l[j]?=some b/\x ∈ l.take j
theorem Ss {l r:List Int}{x b:Int}:kW (l++r) x b ↔ kW l x b\/(x ∈ l/\b ∈ r)\/kW r x b:=by
 constructor
 ·rintro ⟨j,h1,h2⟩
  rcases Nat.lt_or_ge j l.length with h | h
  ·rw [List.getElem?_append_left h] at h1
   rw [List.take_append_of_le_length (Nat.le_of_lt h)] at h2
   exact .inl ⟨j,h1,h2⟩
  ·rw [List.getElem?_append_right h] at h1
   rw [List.take_append,List.take_of_length_le h] at h2
   rcases List.mem_append.mp h2 with h2 | h2
   ·exact .inr (.inl ⟨h2,List.mem_of_getElem? h1⟩)
   ·exact .inr (.inr ⟨j-l.length,h1,h2⟩)
 ·rintro (⟨j,h1,h2⟩ | ⟨h1,h2⟩ | ⟨j,h1,h2⟩)
  ·have h:=(List.getElem?_eq_some_iff.mp h1).1
   exact ⟨j,by rw [List.getElem?_append_left h];exact h1,by rw [List.take_append_of_le_length (Nat.le_of_lt h)];exact h2⟩
  ·obtain ⟨j,hj,ej⟩:=List.getElem_of_mem h2
   refine ⟨l.length+j,?_,?_⟩
   ·rw [List.getElem?_append_right (by omega),show l.length+j-l.length=j by omega,List.getElem?_eq_getElem hj,ej]
   ·rw [List.take_append,List.take_of_length_le (by omega)]
    exact List.mem_append_left _ h1
  ·refine ⟨l.length+j,?_,?_⟩
   ·rw [List.getElem?_append_right (by omega),show l.length+j-l.length=j by omega];exact h1
   ·rw [List.take_append,show l.length+j-l.length=j by omega]
    exact List.mem_append_right _ h2
theorem Su {l:List Int}(nd:l.Nodup){x b:Int}:kW l x b ↔ x ∈ l/\b ∈ l/\l.idxOf x<l.idxOf b:=by
 constructor
 ·rintro ⟨j,h1,h2⟩
  obtain ⟨hj,rfl⟩:=List.getElem?_eq_some_iff.mp h1
  obtain ⟨i,hi,rfl⟩:=List.mem_take_iff_getElem.mp h2
  rw [nd.idxOf_getElem j hj,nd.idxOf_getElem i (by omega)]
  exact ⟨List.getElem_mem _,List.getElem_mem _,by omega⟩
 ·rintro ⟨h1,h2,h3⟩
  have k1:=List.idxOf_lt_length_iff.mpr h1
  have k2:=List.idxOf_lt_length_iff.mpr h2
  refine ⟨l.idxOf b,by rw [List.getElem?_eq_getElem k2,List.getElem_idxOf k2],List.mem_take_iff_getElem.mpr ⟨l.idxOf x,by omega,List.getElem_idxOf k1⟩⟩
end
end bM
namespace bM
open PySem L2 eY
section
variable {P:Program}{w:World}{K:PySem.W.Frag}{mg:Str->Option Value}{base:Heap}
theorem qG {W s:Int}(h : 0<W)(w1:W<2 ^ 70)(s0 : 0<=s)(s1:s<=200*W):oO (fW W s):=by
 have a:=ky (s:=s) h
 have b:=Uq (s:=s) h
 have c:=Tz (s:=s) h
 refine ⟨a,?_,?_⟩
 ·have:(fW W s).2.natAbs<=2 ^ 70:=by omega
  exact Nat.lt_of_le_of_lt this (by decide)
 ·have:(fW W s).1.natAbs<=200*2 ^ 70:=by omega
  exact Nat.lt_of_le_of_lt this (by decide)
abbrev AH (W:Int)(ss:List Int):Dv:=.lst (ss.map fun s=>dF (fW W s))
abbrev ot:Stmt:=top 12
theorem sQ:bh ["some", "total", "one"] ["some"] (au ot):=⟨rfl,rfl,rfl,by decide +kernel,rfl,by decide +kernel,by decide +kernel⟩
def Hq (dd:List Dv)(t:Tr):Prop:=∃ (W:Int) (ss:List Int),0<W/\W<2 ^ 70/\(∀ s ∈ ss,0<=s/\s<=W)/\ss.length<=120/\dd=[AH W ss]/\t=tF (fW W ss.sum)
theorem tq {ss:List Int}{W:Int}(h:∀ s ∈ ss,0<=s/\s<=W)(w0 : 0<W):∀ j,0<=(ss.take j).sum/\(ss.take j).sum<=j*W
 |0=>by rw [List.take_zero];show 0<=(0:Int)/\(0:Int)<=((0:Nat):Int)*W;omega
 |j+1=>by
  have ih:=tq h w0 j
  have e:(((j+1:Nat):Int))*W=j*W+W:=by rw [Int.natCast_add,Int.add_mul];show _+1*W=_;rw [Int.one_mul]
  rw [e]
  cases q:ss[j]? with
  |none =>
   have hj:ss.length<=j:=by
    rcases Nat.lt_or_ge j ss.length with z | z
    ·rw [List.getElem?_eq_getElem z] at q;cases q
    ·exact z
   rw [List.take_of_length_le (by omega)]
   rw [List.take_of_length_le hj] at ih
   omega
  |some x =>
   have hx:=h x (List.mem_of_getElem? q)
   rw [jx q,List.sum_append,List.sum_singleton]
   omega
theorem P6 {f f1 f2:Addr} {fd aT fd2:FuncData} {k:Nat} {tk:Tok} (F:bj K "sum_of" "sum_of" ot f fd) (T:Txt mg) (lr:Kn P w K mg base ao (k+2) "fraction" f1 aT ["top", "bottom"] (spT K kD)) (B1:Binds K aT ["top", "bottom"] [.int 1 tk]) (TQ:Kn P w K mg base ao (k+3) "plus" f2 fd2 ["one", "other"] (spT K uo)):aR P w K mg base ao (k+4) f fd ["some"] (spT K Hq):=by
 refine bC F.d sQ (fun dd t h=>by obtain ⟨_,_,_,_,_,_,rfl,_⟩:=h;rfl) fun dd t h=>?_
 obtain ⟨W,ss,w0,w1,sb,sl,rfl,rfl⟩:=h
 refine ⟨_,.inl rfl,?_⟩
 refine ai (aH 1 (bp.to (t':=tF (fW W (ss.take 0).sum)) (Ev.s (xr lr B1 (by show k+2<=k+3;omega) (ag ah aj) ⟨0,1,by decide,by decide,rfl,rfl⟩)) (by rw [yJ,List.take_zero];show tF (0,1)=tF (fW W 0);rw [tJ w0])) (fun _=>sQ.nd)) ?_
 refine ai (cY (aZ.s (cB (ae 0 rfl) rfl)) (bK 2 (fun _=>sQ.nd)) (fun j=>[some (.fz (AH W ss)),some (tF (fW W (ss.take j).sum)),none]) rfl (fun _=>rfl) (fun j d hd=>?_)) ?_
 ·obtain ⟨x,hx,rfl⟩:=e8 hd
  have hb:=sb x (List.mem_of_getElem? hx)
  have ht:=tq sb w0 j
  have hj:j<ss.length:=by
   rcases Nat.lt_or_ge j ss.length with z | z
   ·exact z
   ·rw [List.getElem?_eq_none z] at hx;cases hx
  have Vn:(j:Int)*W<=200*W:=Int.mul_le_mul_of_nonneg_right (by omega) (by omega)
  refine ⟨_,[some (.fz (AH W ss)),some (tF (fW W (ss.take (j+1)).sum)),some (tF (fW W x))],rfl,?_,[2],rfl⟩
  rw [jx hx,List.sum_append,List.sum_singleton]
  generalize (ss.take j).sum=S at ht
  exact aw (aH 1 (bp.to (t':=tF (fW W (S+x))) (Ev.s (aQ TQ (Nat.le_refl _) (ag (ae 1 rfl) (ag (ae 2 rfl) aj)) ⟨fW W S,fW W x,qG w0 w1 ht.1 (by omega),qG w0 w1 hb.1 (by omega),rfl,rfl⟩)) (by rw [Fj w0])) (fun _=>sQ.nd))
 ·rw [List.length_map,List.take_length]
  exact aw (bS (Ev.s (ae 1 rfl)))
def ji (ps:List (Nat×Nat))(r:List Int):List Int:=(ps.filter fun p=>r.contains (p.1:Int)).map fun p=>(p.2:Int)
def cf (ps:List (Nat×Nat))(r:List Int):List Int:=r.filter fun x=>!(ji ps r).contains x
def gE (ps:List (Nat×Nat))(r:List Int):List Int:=r.filter fun x=>(ji ps r).contains x
def kX (ps:List (Nat×Nat)):Nat->List Int->List Int->List Int
 |0,o,_=>o
 |n+1,o,r=>if cf ps r=[] then o else kX ps n (o++cf ps r) (gE ps r)
def cL (ps:List (Nat×Nat))(n:Nat):List Int:=kX ps (n+1) [] (aq n)
theorem FK (ps:List (Nat×Nat))(r:List Int):(cf ps r++gE ps r).Perm r:=by
 unfold cf gE
 have:=List.filter_append_perm (fun x=>!(ji ps r).contains x) r
 refine (List.Perm.append_left _ (List.Perm.of_eq ?_)).trans this
 exact List.filter_congr fun x _=>by rw [Bool.not_not]
theorem FL (ps:List (Nat×Nat))(r:List Int):(cf ps r).length+(gE ps r).length=r.length:=by
 rw [<- List.length_append]
 exact (FK ps r).length_eq
theorem FN {ps:List (Nat×Nat)}{r:List Int}{x:Int}:x ∈ ji ps r ↔ ∃ p ∈ ps,(p.1:Int) ∈ r/\x=(p.2:Int):=by
 unfold ji
 simp only [List.mem_map,List.mem_filter,List.contains_iff_mem]
 constructor
 ·rintro ⟨p,⟨h1,h2⟩,rfl⟩;exact ⟨p,h1,h2,rfl⟩
 ·rintro ⟨p,h1,h2,rfl⟩;exact ⟨p,⟨h1,h2⟩,rfl⟩
structure Lu (ps:List (Nat×Nat)) (N:Nat) (o r:List Int):Prop where
 perm:(o++r).Perm (aq N)
 Lj:∀ p ∈ ps,(p.1:Int) ∈ aq N->(p.2:Int) ∈ o->kW o p.1 p.2
theorem Sv {ps:List (Nat×Nat)}{N:Nat}{o r:List Int}(L:Lu ps N o r):Lu ps N (o++cf ps r) (gE ps r):=by
 refine ⟨?_,fun p hp hn hb=>?_⟩
 ·rw [List.append_assoc]
  exact (List.Perm.append_left o (FK ps r)).trans L.perm
 ·rw [Ss]
  rcases List.mem_append.mp hb with hb | hb
  ·exact .inl (L.Lj p hp hn hb)
  ·right;left
   refine ⟨?_,hb⟩
   have h1:(p.1:Int) ∈ o++r:=L.perm.mem_iff.mpr hn
   rcases List.mem_append.mp h1 with h1 | h1
   ·exact h1
   ·exfalso
    have:=(List.mem_filter.mp hb).2
    rw [List.contains_iff_mem.mpr (FN.mpr ⟨p,hp,h1,rfl⟩)] at this
    cases this
theorem Hr {ps:List (Nat×Nat)}{N:Nat}:∀ (n:Nat) (o r:List Int),r.length<n->Lu ps N o r->∃ r',Lu ps N (kX ps n o r) r'/\cf ps r'=[]
 |0,o,r,h,_=>by omega
 |n+1,o,r,h,L=>by
  unfold kX
  by_cases hf:cf ps r=[]
  ·rw [if_pos hf];exact ⟨r,L,hf⟩
  ·rw [if_neg hf]
   have:=FL ps r
   have : 0<(cf ps r).length:=List.length_pos_iff.mpr hf
   exact Hr n _ _ (by omega) (Sv L)
theorem Hs (ps:List (Nat×Nat))(N:Nat):∃ r',Lu ps N (cL ps N) r'/\cf ps r'=[]:=by
 have hl:(aq N).length=N:=by unfold aq;rw [List.length_map,List.length_range]
 exact Hr (N+1) [] (aq N) (by omega) ⟨List.Perm.refl _,fun p _ _ h=>nomatch h⟩
def cW (ps:List (Nat×Nat))(N:Nat):List Int:=(aq N).filter fun x=>!(cL ps N).contains x
theorem Sw {ps:List (Nat×Nat)}{N:Nat}{x:Int}(h:x ∈ cW ps N):∃ p ∈ ps,(p.1:Int) ∈ cW ps N/\x=(p.2:Int):=by
 obtain ⟨r',L,hf⟩:=Hs ps N
 have nd:(cL ps N++r').Nodup:=L.perm.nodup_iff.mpr (sM N)
 have mem:∀ y,y ∈ cW ps N ↔ y ∈ r':=fun y=>by
  unfold cW
  rw [List.mem_filter]
  constructor
  ·rintro ⟨h1,h2⟩
   rcases List.mem_append.mp (L.perm.mem_iff.mpr h1) with z | z
   ·rw [List.contains_iff_mem.mpr z] at h2;cases h2
   ·exact z
  ·intro z
   refine ⟨L.perm.mem_iff.mp (List.mem_append_right _ z),?_⟩
   rw [Bool.not_eq_true',Bool.eq_false_iff]
   intro q
   have q:=List.contains_iff_mem.mp q
   exact (List.nodup_append.mp nd).2.2 y q y z rfl
 have hx:=(mem x).mp h
 have:x ∈ ji ps r':=by
  apply Classical.byContradiction
  intro z
  have:x ∈ cf ps r':=List.mem_filter.mpr ⟨hx,by rw [Bool.not_eq_true',Bool.eq_false_iff];exact fun q=>z (List.contains_iff_mem.mp q)⟩
  rw [hf] at this
  cases this
 obtain ⟨p,h1,h2,h3⟩:=FN.mp this
 exact ⟨p,h1,(mem _).mpr h2,h3⟩
theorem TR {ps:List (Nat×Nat)}{N:Nat}(h:cW ps N=[]):(cL ps N).Perm (aq N)/\∀ p ∈ ps,(p.1:Int) ∈ aq N->(p.2:Int) ∈ aq N->kW (cL ps N) p.1 p.2:=by
 obtain ⟨r',L,hf⟩:=Hs ps N
 have nd:(cL ps N++r').Nodup:=L.perm.nodup_iff.mpr (sM N)
 have rn:r'=[]:=by
  cases hr:r' with
  |nil=>rfl
  |cons y l =>
   exfalso
   have hy:y ∈ r':=by rw [hr];exact List.mem_cons_self ..
   have:y ∈ cW ps N:=List.mem_filter.mpr ⟨L.perm.mem_iff.mp (List.mem_append_right _ hy),by
    rw [Bool.not_eq_true',Bool.eq_false_iff]
    exact fun q=>(List.nodup_append.mp nd).2.2 y (List.contains_iff_mem.mp q) y hy rfl⟩
   rw [h] at this
   cases this
 have P:=L.perm
 rw [rn,List.append_nil] at P
 exact ⟨P,fun p hp h1 h2=>L.Lj p hp h1 (P.mem_iff.mpr h2)⟩
def cm (rest:List Int)(ts:List (Int×Int×Int))(x:Int):Int×Int×Int:=(ts.filter fun t=>rest.contains t.2.1&&decide (t.2.2=x)).headD (0,0,0)
def kY (rest:List Int)(ts:List (Int×Int×Int)):Nat->List Int->Int->List (Int×Int×Int)
 |0,_,_=>[]
 |n+1,p,x=>if p.contains x=true then ((p.drop (p.idxOf x)).map (cm rest ts)).reverse else kY rest ts n (p++[x]) (cm rest ts x).2.1
def jt (rest:List Int)(ts:List (Int×Int×Int)):List (Int×Int×Int):=kY rest ts (rest.length+1) [] (rest.headD 0)
def pC (rest:List Int)(ts:List (Int×Int×Int)):Prop:=∀ x ∈ rest,∃ t ∈ ts,t.2.1 ∈ rest/\t.2.2=x
theorem ur {rest:List Int}{ts:List (Int×Int×Int)}(h:pC rest ts){x:Int}(hx:x ∈ rest):cm rest ts x ∈ ts/\(cm rest ts x).2.1 ∈ rest/\(cm rest ts x).2.2=x/\∃ r,(ts.filter fun t=>rest.contains t.2.1&&decide (t.2.2=x))=cm rest ts x::r:=by
 obtain ⟨t,h1,h2,h3⟩:=h x hx
 have ht:t ∈ ts.filter fun t=>rest.contains t.2.1&&decide (t.2.2=x):=List.mem_filter.mpr ⟨h1,by rw [List.contains_iff_mem.mpr h2,decide_eq_true h3];rfl⟩
 cases e:ts.filter fun t=>rest.contains t.2.1&&decide (t.2.2=x) with
 |nil=>rw [e] at ht;cases ht
 |cons a l =>
  have ea:cm rest ts x=a:=by unfold cm;rw [e];rfl
  have ha:a ∈ ts.filter fun t=>rest.contains t.2.1&&decide (t.2.2=x):=by rw [e];exact List.mem_cons_self ..
  obtain ⟨q1,q2⟩:=List.mem_filter.mp ha
  rw [Bool.and_eq_true] at q2
  rw [ea]
  exact ⟨q1,List.contains_iff_mem.mp q2.1,of_decide_eq_true q2.2,l,rfl⟩
structure j9 (rest:List Int) (ts:List (Int×Int×Int)) (p:List Int) (x:Int):Prop where
 nd:p.Nodup
 sub:∀ y ∈ p,y ∈ rest
 AI:x ∈ rest
 Lk:∀ (i:Nat) (y z:Int),p[i]?=some y->(p++[x])[i+1]?=some z->(cm rest ts y).2.1=z
theorem j9.more {rest:List Int}{ts:List (Int×Int×Int)}(h:pC rest ts){p:List Int}{x:Int}(P:j9 rest ts p x)(hx:p.contains x=false):j9 rest ts (p++[x]) (cm rest ts x).2.1:=by
 have xp:x ∉ p:=fun z=>by rw [List.contains_iff_mem.mpr z] at hx;cases hx
 refine ⟨?_,fun y hy=>?_,(ur h P.AI).2.1,fun i y z h1 h2=>?_⟩
 ·rw [List.nodup_append]
  exact ⟨P.nd,List.nodup_cons.mpr ⟨(fun z=>nomatch z),.nil⟩,fun a ha b hb z=>by rw [List.mem_singleton.mp hb] at z;exact xp (z ▸ ha)⟩
 ·rcases List.mem_append.mp hy with hy | hy
  ·exact P.sub y hy
  ·rw [List.mem_singleton.mp hy];exact P.AI
 ·rcases Nat.lt_or_ge i p.length with hi | hi
  ·rw [List.getElem?_append_left hi] at h1
   refine P.Lk i y z h1 ?_
   rw [List.getElem?_append_left (by rw [List.length_append,List.length_singleton];omega)] at h2
   exact h2
  ·rw [List.getElem?_append_right hi] at h1
   have fj:i=p.length:=by
    have:=(List.getElem?_eq_some_iff.mp h1).1
    rw [List.length_singleton] at this
    omega
   subst fj
   rw [Nat.sub_self] at h1
   cases h1
   rw [List.getElem?_append_right (by rw [List.length_append,List.length_singleton];omega),List.length_append,List.length_singleton,Nat.sub_self] at h2
   cases h2
   rfl
theorem j9.len {rest:List Int}{ts:List (Int×Int×Int)}{p:List Int}{x:Int}(P:j9 rest ts p x):p.length<=rest.length:=Ts.t5 p rest P.nd P.sub
theorem Ht {rest:List Int}{ts:List (Int×Int×Int)}(h:pC rest ts):∀ (n:Nat) (p:List Int) (x:Int),j9 rest ts p x->rest.length<n+p.length->∃ p' x',j9 rest ts p' x'/\p'.contains x'=true/\kY rest ts n p x=((p'.drop (p'.idxOf x')).map (cm rest ts)).reverse
 |0,p,x,P,hn=>by have:=P.len;omega
 |n+1,p,x,P,hn=>by
  unfold kY
  cases hx:p.contains x with
  |true=>rw [if_pos rfl];exact ⟨p,x,P,hx,rfl⟩
  |false =>
   rw [if_neg Bool.false_ne_true]
   exact Ht h n _ _ (P.more h hx) (by rw [List.length_append,List.length_singleton];omega)
end
end bM
namespace bM
open PySem L2 eY
section
variable {P:Program}{w:World}{K:PySem.W.Frag}{mg:Str->Option Value}{base:Heap}
theorem Sx {ι:Type}{F:aO ι}{ρ:En}{pos:Pos}(j:Nat){x n:Str}{t:Tr}{c0:Nat}{p0 px pt:Pos}{kt}(h : ρ[j]?=some (some t))(hps:∀ i,PS (F.cx i) (.Return (some (.Tuple [.Constant (.str n) c0 p0,.Name x px] kt pt)) pos) (uw (zg (df (tC (.str n)) (df (eQ j) eA))))) :
  Rn F (.Return (some (.Tuple [.Constant (.str n) c0 p0,.Name x px] kt pt)) pos) ρ (.rt (.tp [tx n,t])):=by
 refine ⟨_,hps,fun D σ G0 H0 G H r k=>?_⟩
 obtain ⟨fp,r⟩:=r
 obtain ⟨v,f,fr,q1,q2,q3,q4⟩:=r.own.split h
 have sub:∀ a ∈ f,a ∈ fp:=fun a ha=>q4.mem_iff.mpr (List.mem_append_left _ ha)
 refine ⟨v,q1,by show 2<=sizeLine;decide,fun p hp=>?_⟩
 have pf:p ∉ f:=fun z=>by
  obtain ⟨u,hu⟩:=r.own.there p (sub p z)
  rw [hp] at hu;cases hu
 refine k (.ref p) G _ (p::f) (r.st.trans (.kG r.st.s hp)) ⟨p,_,f,rfl,d8,⟨.str n,[v],[],f,rfl,rfl,⟨rfl,rfl,rfl⟩,⟨v,[],f,[],rfl,(List.append_nil f).symm,q2.frame pf,rfl,rfl⟩⟩,rfl⟩ ⟨fun a ha=>?_,fun a ha=>?_,List.nodup_cons.mpr ⟨pf,(List.nodup_append.mp (q4.nodup_iff.mp r.d)).1⟩⟩
 ·rcases List.mem_cons.mp ha with rfl | z
  ·exact r.st.h.free hp
  ·exact r.n a (sub a z)
 ·rcases List.mem_cons.mp ha with rfl | z
  ·exact r.st.s.free hp
  ·exact r.g a (sub a z)
theorem O1 {ι:Type}{F:aO ι}{ρ:En}{st:Stmt}(j j2:Nat){us:List Tr}{ns:List Int}(m8:j ≠ j2)(h : ρ[j]?=some (some (.ow us)))(h2 : ρ[j2]?=some (some (ax ns)))(hz:us.length+ns.length<=sizeLine)
  (hps:∀ i,PS (F.cx i) st (kB (jS F.K "list" xD (eQ j) (df (eQ j2) eA)))):Rn F st ρ (.nx (ρ.set j (some (.ow (us++ns.map fun n=>.fz (di n)))))):=by
 refine ⟨_,hps,fun D σ G0 H0 G H r k=>?_⟩
 obtain ⟨fp,r⟩:=r
 obtain ⟨l0,u9,vd,c1,c2,_⟩:=r.mut h (.refl r.st.s)
 obtain ⟨l,vs,fq,d1,d2,d3,d4,d5,d6,d7⟩:=r.mut h (.refl r.st.s)
 rw [c1] at d1
 cases d1
 obtain ⟨v2,f2,fr,a1,a2,a3,a4⟩:=r.own.split h2
 obtain ⟨b,zs,f',rfl,hb,ob,_⟩:=a2
 obtain ⟨rfl,rfl⟩:=Er ob
 refine ⟨_,c1,.inl ⟨rfl,_,aN.of c2⟩,_,a1,l0,b,vs,_,rfl,rfl,d3,hb,by rw [<- d4.length,List.length_map];exact hz,k σ G _ (d7 (us++ns.map fun n=>.fz (di n)) (vs++ns.map V.int) (fq++[]) (d4.append (PJ ns)) (by rw [List.append_nil];exact d5) fun a ha=>?_)⟩
 rw [List.append_nil] at ha
 exact .inl ha
def fi (A:Nat)(S:Nat->List Int)(x:Int):Int:=((List.range A).map fun a=>cn (S a) x).sum
abbrev oe:Stmt:=top 19
theorem Od:bh ["shares", "one"] ["shares", "one"] (au oe):=⟨rfl,rfl,rfl,by decide +kernel,rfl,by decide +kernel,by decide +kernel⟩
def t8 (dd:List Dv)(t:Tr):Prop:=∃ (W:Int) (n A:Nat) (S:Nat->List Int) (x:Int),0<W/\W<2 ^ 70/\(∀ a,a<A->gq W n (S a))/\A<=6/\0<=x/\x<=n/\dd=[dc W A S,di x]/\t=tF (fW W (fi A S x))
theorem Oe {f f1:Addr} {fd aT:FuncData} {k:Nat} (F:bj K "dealt_of" "dealt_of" oe f fd) (T:Txt mg) (QP:Kn P w K mg base ao (k+4) "sum_of" f1 aT ["some"] (spT K Hq)):aR P w K mg base ao (k+5) f fd ["shares", "one"] (spT K t8):=by
 refine bC F.d Od (fun dd t h=>by obtain ⟨_,_,_,_,_,_,_,_,_,_,_,rfl,_⟩:=h;rfl) fun dd t h=>?_
 obtain ⟨W,n,A,S,x,w0,w1,b0,a6,x0,x1,rfl,rfl⟩:=h
 refine ⟨_,.inl rfl,?_⟩
 have big : 1000<sizeLine:=by decide
 refine aw (bS (Ev.s (aQ QP (Nat.le_refl _) (ag (jd (own:=["row"]) (fr:=[1]) (List.range A) (fun a=>dC W (S a)) (fun a=>tF (fW W (cn (S a) x))) (fun i=>lcs ⟨rfl,rfl,by decide +kernel,by decide +kernel,by decide +kernel,by decide +kernel⟩) (cB (ae 0 rfl) rfl) (bK 0 (fun _=>by show List.Nodup (["row", "one"]:List Str);decide)) (by decide) (by rw [List.length_range];omega) (fun a ha=>⟨_,rfl,by exact bu (ae 0 rfl) (ae 1 rfl) rfl (rowAt (b0 a (List.mem_range.mp ha)) x0 x1)⟩) (fun dd=>by cases dd<;>rfl)) aj) ⟨W,(List.range A).map fun a=>cn (S a) x,w0,w1,fun s hs=>?_,by rw [List.length_map,List.length_range];omega,?_,rfl⟩)))
 ·obtain ⟨a,ha,rfl⟩:=List.mem_map.mp hs
  exact td (b0 a (List.mem_range.mp ha)) x
 ·show [er (.ow _)]=_
  rw [fu]
  show [Dv.lst _]=[Dv.lst _]
  rw [List.map_map];rfl
def kZ (W:Int)(c:List Int)(A:Nat)(S:Nat->List Int):List Int:=((List.range c.length).filter fun j=>decide (fi A S ((j:Nat):Int)=(c.getD j 0)*W)).map fun j=>((j:Nat):Int)
abbrev nJ:Stmt:=top 23
theorem MP:bh ["counts", "shares"] ["counts", "shares"] (au nJ):=⟨rfl,rfl,rfl,by decide +kernel,rfl,by decide +kernel,by decide +kernel⟩
def Js (dd:List Dv)(t:Tr):Prop:=∃ (c:List Int) (W:Int) (A:Nat) (S:Nat->List Int),c.length<=6/\0<W/\W<2 ^ 70/\(∀ a,a<A->gq W c.length (S a))/\A<=6/\dd=[dis c,dc W A S]/\t=ax (kZ W c A S)
theorem Hu {W c:Int}(h : 0<W):(lT c 1,lB c 1)=fW W (c*W):=Fi h (by decide) (by rw [Int.mul_one])
theorem MQ {f f1 f2:Addr} {fd aT fd2:FuncData} {k:Nat} {tk:Tok} (F:bj K "full_things" "full_things" nJ f fd) (T:Txt mg) (O2:Kn P w K mg base ao (k+5) "dealt_of" f1 aT ["shares", "one"] (spT K t8)) (lr:Kn P w K mg base ao (k+2) "fraction" f2 fd2 ["top", "bottom"] (spT K kD)) (B1:Binds K fd2 ["top", "bottom"] [.int 1 tk]):aR P w K mg base ao (k+6) f fd ["counts", "shares"] (spT K Js):=by
 refine bC F.d MP (fun dd t h=>by obtain ⟨_,_,_,_,_,_,_,_,_,rfl,_⟩:=h;rfl) fun dd t h=>?_
 obtain ⟨c,W,A,S,c6,w0,w1,b0,a6,rfl,rfl⟩:=h
 refine ⟨_,.inl rfl,?_⟩
 have r25:k+2<=k+5:=by omega
 have big : 1000<sizeLine:=by decide
 refine aw (bS (Ev.s (Ev.to (t':=ax (kZ W c A S)) (yx (own:=["thing", "count"]) (fr:=[1]) (fun i=>lcs ⟨rfl,rfl,by decide +kernel,by decide +kernel,by decide +kernel,by decide +kernel⟩) (pV T.pL (ae 0 rfl) rfl) (kv 0 1 (fun _=>by show List.Nodup (["thing", "count", "shares"]:List Str);decide)) (by decide) (fun k=>decide (fi A S ((k:Nat):Int)=(c.getD k 0)*W)) (fun k=>ti ((k:Nat):Int)) ?_ (fun k d hd=>?_) (fun dd=>?_)) ?_)))
 ·rw [tI,List.length_map];omega
 ·obtain ⟨y,hy,rfl⟩:=qc hd
  obtain ⟨z,hz,rfl⟩:=e8 hy
  have hk:=(List.getElem?_eq_some_iff.mp hz).1
  refine ⟨_,rfl,?_,fun _=>ae 0 rfl⟩
  have ez:c.getD k 0=z:=by rw [List.getD_eq_getElem?_getD,hz];rfl
  rw [ez]
  exact iw (Et.to (x4 (aQ O2 (Nat.le_refl _) (ag (ae 2 rfl) (ag (ae 0 rfl) aj)) ⟨W,c.length,A,S,((k:Nat):Int),w0,w1,b0,a6,by omega,by omega,rfl,rfl⟩) (xr lr B1 r25 (ag (ae 1 rfl) aj) ⟨z,1,by decide,by decide,rfl,rfl⟩) (.inr ⟨_,_,rfl,rfl⟩) (Nat.le_trans (yh _) (by decide))) (by
   show bL (dF _) (dF _)=_
   rw [Hu w0,Ho,decide_eq_decide]
   exact ⟨fun q=>GJ w0 q,fun q=>by rw [q]⟩))
 ·match dd with
  |[] => rfl
  |[_] => rfl
  |_::_::_=>rfl
 ·rw [tI,List.length_map]
  show _=Tr.ow ((List.map _ _).map _)
  rw [List.map_map]
  rfl
abbrev nLU:List Str:=["many", "pairs", "order", "rest", "free", "held"]
abbrev oh:Stmt:=top 24
theorem lq:bh nLU ["many", "pairs"] (au oh):=⟨rfl,rfl,rfl,by decide +kernel,rfl,by decide +kernel,by decide +kernel⟩
def Hw (dd:List Dv)(t:Tr):Prop:=∃ (N:Nat) (ps:List (Nat×Nat)),1<=N/\N<=7/\ps.length<=49/\dd=[di N,.lst (ps.map fun p=>dT (lP p))]/\t=ax (cL ps N)
theorem EH {α:Type}(p : α->Bool)(l:List α):(l.filter p).length<=l.length:=List.length_filter_le p l
theorem Og {f:Addr} {fd:FuncData} {k:Nat} (F:bj K "lined_up" "lined_up" oh f fd) (T:Txt mg):aR P w K mg base ao (k+1) f fd ["many", "pairs"] (spT K Hw):=by
 refine bC F.d lq (fun dd t h=>by obtain ⟨_,_,_,_,_,rfl,_⟩:=h;rfl) fun dd t h=>?_
 obtain ⟨N,ps,n1,n7,pl,rfl,rfl⟩:=h
 refine ⟨_,.inl rfl,?_⟩
 have big : 1000<sizeLine:=by decide
 have nl:(aq N).length=N:=by unfold aq;rw [List.length_map,List.length_range]
 have en:er (Tr.ow (((List.range ((N:Nat):Int).toNat).map fun i=>(0+((i:Nat):Int))).map fun n=>Tr.fz (di n)))=dis (aq N):=by rw [kx,List.map_id'];rfl
 refine ai (aH 2 (Ev.s (bT aj (Nat.zero_le _))) (fun _=>lq.nd)) ?_
 refine ai (aH 3 (Ev.s (Ev.as (d:=dis (aq N)) (sJ T.fv T.dJ (ae 0 rfl) (by omega) (by omega)) en)) (fun _=>lq.nd)) ?_
 refine ai (aH 4 (Ev.s (ae 3 rfl)) (fun _=>lq.nd)) ?_
 refine sI (α:=List Int×List Int×List Int×Nat) (fun a=>[some (ti N),some (.fz (.lst (ps.map fun p=>dT (lP p)))),some (ax a.1),some (.fz (dis a.2.1)),some (.fz (dis a.2.2.1)),none]) (fun a=>(a.2.2.1 ≠ []->a.2.1.length<a.2.2.2)/\a.1.length+a.2.1.length<=7/\cL ps N=if a.2.2.1=[] then a.1 else kX ps a.2.2.2 a.1 a.2.1) (fun a=>!a.2.2.1.isEmpty) (fun a=>a.2.1.length+if a.2.2.1=[] then 0 else 1) ([],aq N,aq N,N+1) rfl ⟨fun _=>by show (aq N).length<N+1;omega,by show 0+(aq N).length<=7;omega,?_⟩ (fun a h=>?_) (fun a h hp=>?_) (fun a h hp=>?_)
 ·show cL ps N=if aq N=[] then [] else kX ps (N+1) [] (aq N)
  rw [if_neg (fun z=>by rw [z] at nl;exact absurd nl.symm (by show ¬ N=0;omega))]
  rfl
 ·refine cU.to (Et.s (fO (ae 4 rfl) (bT aj (Nat.zero_le _)) (.inl ⟨_,_,rfl,rfl⟩) (Nat.le_trans (ko _) (by decide)))) ?_
  show (!bL (dis _) (.lst []))=_
  cases a.2.2.1<;>rfl
 ·obtain ⟨o,r,fr,n⟩:=a
  obtain ⟨h1,h2,h3⟩:=h
  dsimp only at h1 h2 h3 hp ⊢
  have AJ:fr ≠ []:=fun z=>by rw [z] at hp;cases hp
  rw [if_neg AJ] at h3
  have h1:=h1 AJ
  have rl:=FL ps r
  cases n with
  |zero=>omega
  |succ n =>
   refine ⟨(o++cf ps r,gE ps r,cf ps r,n),⟨fun z=>?_,?_,?_⟩,?_,?_⟩
   ·have : 0<(cf ps r).length:=List.length_pos_iff.mpr z
    show (gE ps r).length<n
    omega
   ·show (o++cf ps r).length+(gE ps r).length<=7
    rw [List.length_append];omega
   ·show cL ps N=if cf ps r=[] then o++cf ps r else kX ps n (o++cf ps r) (gE ps r)
    rw [h3]
    show (if cf ps r=[] then o else kX ps n (o++cf ps r) (gE ps r))=_
    by_cases z:cf ps r=[]
    ·rw [if_pos z,if_pos z,z,List.append_nil]
    ·rw [if_neg z,if_neg z]
   ·show (gE ps r).length+(if cf ps r=[] then 0 else 1)<r.length+if fr=[] then 0 else 1
    rw [if_neg AJ]
    by_cases z:cf ps r=[]
    ·rw [if_pos z];omega
    ·have : 0<(cf ps r).length:=List.length_pos_iff.mpr z
     rw [if_neg z];omega
   ·have hh:=EH (fun p:Nat×Nat=>r.contains (p.1:Int)) ps
    refine ai (aH 5 (Ev.s (Ev.as (d:=dis (ji ps r)) (lV (own:=["a", "b"]) (fr:=[3]) ps (fun p=>dT (lP p)) (fun p=>r.contains (p.1:Int)) (fun p=>ti (p.2:Int)) (fun i=>lcs ⟨rfl,rfl,by decide +kernel,by decide +kernel,by decide +kernel,by decide +kernel⟩) (cB (ae 1 rfl) rfl) (kv 0 1 (fun _=>by show List.Nodup (["a", "b", "rest"]:List Str);decide)) (by decide) (by omega) (fun p hp=>⟨_,rfl,by exact iw (yv (ae 0 rfl) (ae 2 rfl) rfl (by with_unfolding_all rfl)),fun _=>by exact ae 1 rfl⟩) (fun dd=>by match dd with | [] => rfl | [_] => rfl | _::_::_=>rfl)) ?_)) (fun _=>lq.nd)) ?_
    ·rw [fu]
     unfold ji
     show _=Dv.lst ((List.map _ _).map di)
     rw [List.map_map];rfl
    refine ai (oH 4 (qS (eX.to (t':=ax (cf ps r)) (uF (own:=["one"]) (fr:=[5]) r di (fun x=>!(ji ps r).contains x) ti (cB (ae 3 rfl) rfl) (bK 0 (fun _=>by show List.Nodup (["one", "held"]:List Str);decide)) (by decide) (by omega) (fun x hx=>⟨_,rfl,by exact iw (oj (ae 0 rfl) (ae 1 rfl) rfl (by with_unfolding_all rfl)),fun _=>by exact ae 0 rfl⟩) (fun dd=>by cases dd<;>rfl)) rfl)) (fun i=>lcs ⟨rfl,rfl,by decide +kernel,by decide +kernel,by decide +kernel,by decide +kernel⟩) (fun _=>lq.nd)) ?_
    refine ai (aH 3 (Ev.s (Ev.as (d:=dis (gE ps r)) (lV (own:=["one"]) (fr:=[5]) r di (fun x=>(ji ps r).contains x) ti (fun i=>lcs ⟨rfl,rfl,by decide +kernel,by decide +kernel,by decide +kernel,by decide +kernel⟩) (cB (ae 3 rfl) rfl) (bK 0 (fun _=>by show List.Nodup (["one", "held"]:List Str);decide)) (by decide) (by omega) (fun x hx=>⟨_,rfl,by exact iw (yv (ae 0 rfl) (ae 1 rfl) rfl (by with_unfolding_all rfl)),fun _=>by exact ae 0 rfl⟩) (fun dd=>by cases dd<;>rfl)) ?_)) (fun _=>lq.nd)) ?_
    ·rw [kx,List.map_id'];rfl
    refine ai (O1 2 4 (ns:=cf ps r) (by decide) rfl rfl (by rw [List.length_map];omega) (fun i=>kj (kC PySem.F.plainAttrs_list PySem.F.slot_list_extend PySem.F.type_list_extend DL (pv 2) (cX (pv 4) dN)))) ?_
    refine lh (d:=dis (cf ps r)) 4 rfl (cg _) ?_
    refine aV.to (Qv (ρ2:=[some (ti N),some (.fz (.lst (ps.map fun p=>dT (lP p)))),some (.ow ((o.map fun n=>.fz (di n))++(cf ps r).map fun n=>.fz (di n))),some (.fz (dis (gE ps r))),some (.fz (dis (cf ps r))),none]) ⟨[5],rfl⟩) ?_
    rw [<- List.map_append]
 ·obtain ⟨o,r,fr,n⟩:=a
  obtain ⟨_,_,h3⟩:=h
  dsimp only at h3 hp ⊢
  have fe:fr=[]:=by
   cases fr with
   |nil=>rfl
   |cons _ _=>cases hp
  rw [if_pos fe] at h3
  rw [h3]
  exact aw (i7 2 rfl)
theorem QQ {α:Type}(l:List α)(m:Nat)(hm:m<=l.length):cutD l (some (m:Int)) none=l.drop m:=by
 unfold cutD
 rw [HT.tu,Nat.min_eq_left hm]
 show (l.drop m).take (l.length-m)=_
 rw [List.take_of_length_le (by rw [List.length_drop];exact Nat.le_refl _)]
theorem FO {α:Type}(l:List α)(x : α):av (l++[x]) (-1)=some x:=by
 unfold av dW
 rw [if_neg (by decide),List.length_append,List.length_singleton,if_pos (by omega),Option.bind_some,show (-1+((l.length+1:Nat):Int)).toNat=l.length by omega,List.getElem?_append_right (Nat.le_refl _),Nat.sub_self]
 rfl
abbrev nRG:List Str:=["rest", "wished", "path", "passed", "now"]
abbrev nP:Stmt:=top 25
theorem pG:bh nRG ["rest", "wished"] (au nP):=⟨rfl,rfl,rfl,by decide +kernel,rfl,by decide +kernel,by decide +kernel⟩
abbrev bJ (ts:List (Int×Int×Int)):Dv:=.lst (ts.map fun t=>dT (l3 t))
theorem t9 (ts:List (Int×Int×Int)):er (tW ts)=bJ ts:=by rw [fu];rfl
def IE (dd:List Dv)(t:Tr):Prop:=∃ (rest:List Int) (ts:List (Int×Int×Int)),rest ≠ []/\rest.length<=7/\ts.length<=126/\pC rest ts/\dd=[dis rest,bJ ts]/\t=tW (jt rest ts)
theorem Ni {f:Addr} {fd:FuncData} {k:Nat} (F:bj K "ring_among" "ring_among" nP f fd) (T:Txt mg):aR P w K mg base ao (k+1) f fd ["rest", "wished"] (spT K IE):=by
 refine bC F.d pG (fun dd t h=>by obtain ⟨_,_,_,_,_,_,rfl,_⟩:=h;rfl) fun dd t h=>?_
 obtain ⟨rest,ts,sx,r7,tl,hH,rfl,rfl⟩:=h
 refine ⟨_,.inl rfl,?_⟩
 have big : 1000<sizeLine:=by decide
 obtain ⟨x0,rs,AK⟩:∃ x0 rs,rest=x0::rs:=by
  cases rest with
  |nil=>exact absurd rfl sx
  |cons a l=>exact ⟨a,l,rfl⟩
 have AO:x0 ∈ rest:=by rw [AK];exact List.mem_cons_self ..
 have hd0:rest.headD 0=x0:=by rw [AK];rfl
 refine ai (aH 2 (Ev.s (bT aj (Nat.zero_le _))) (fun _=>pG.nd)) ?_
 refine ai (aH 3 (Ev.s (bT aj (Nat.zero_le _))) (fun _=>pG.nd)) ?_
 refine ai (aH 4 (Ev.s (bu (d:=di x0) (ae 0 rfl) ah rfl (by rw [AK];show av _ ((0:Nat):Int)=_;exact e7 rfl))) (fun _=>pG.nd)) ?_
 refine sI (α:=List Int×Int×Nat) (fun a=>[some (.fz (dis rest)),some (.fz (bJ ts)),some (tW (a.1.map (cm rest ts))),some (ax a.1),some (ti a.2.1)]) (fun a=>j9 rest ts a.1 a.2.1/\rest.length<a.2.2+a.1.length/\jt rest ts=kY rest ts a.2.2 a.1 a.2.1) (fun a=>!a.1.contains a.2.1) (fun a=>rest.length+1-a.1.length) ([],x0,rest.length+1) rfl ⟨⟨.nil,(fun y h=>nomatch h),AO,fun i y z h=>by cases h⟩,by show rest.length<rest.length+1+0;omega,?_⟩ (fun a h=>?_) (fun a h hp=>?_) (fun a h hp=>?_)
 ·show kY rest ts (rest.length+1) [] (rest.headD 0)=_
  rw [hd0]
 ·exact Et.pk (oj (ae 4 rfl) (ae 3 rfl) (cg _) (by with_unfolding_all rfl))
 ·obtain ⟨p,x,n⟩:=a
  obtain ⟨h1,h2,h3⟩:=h
  dsimp only at h1 h2 h3 hp ⊢
  have eG:=h1.len
  have hc:p.contains x=false:=by simpa using hp
  cases n with
  |zero=>omega
  |succ n =>
   obtain ⟨k1,k2,k3,rr,k4⟩:=ur hH h1.AI
   have fl:=EH (fun t:Int×Int×Int=>rest.contains t.2.1&&decide (t.2.2=x)) ts
   have P2:=h1.more hH hc
   have P2l:=P2.len
   rw [List.length_append,List.length_singleton] at P2l
   generalize Ln:cm rest ts x=tt at k1 k2 k3 k4 P2
   refine ⟨(p++[x],tt.2.1,n),⟨P2,?_,?_⟩,?_,?_⟩
   ·show rest.length<n+(p++[x]).length
    rw [List.length_append,List.length_singleton];omega
   ·show jt rest ts=kY rest ts n (p++[x]) tt.2.1
    rw [h3,<- Ln]
    show (if p.contains x=true then _ else kY rest ts n (p++[x]) (cm rest ts x).2.1)=_
    rw [if_neg (by rw [hc];exact Bool.false_ne_true)]
   ·show rest.length+1-(p++[x]).length<rest.length+1-p.length
    rw [List.length_append,List.length_singleton];omega
   ·refine ai (ip 3 rfl (Ev.s (ae 4 rfl)) (by rw [List.length_map];omega)) ?_
    refine ai (ip 2 rfl (Ev.s (bu (d:=dT (l3 tt)) (lV (own:=["wish"]) (fr:=[0,4]) ts (fun t=>dT (l3 t)) (fun t=>rest.contains t.2.1&&decide (t.2.2=x)) (fun t=>.fz (dT (l3 t))) (fun i=>lcs ⟨rfl,rfl,by decide +kernel,by decide +kernel,by decide +kernel,by decide +kernel⟩) (cB (ae 1 rfl) rfl) (bK 0 (fun _=>by show List.Nodup (["wish", "rest", "now"]:List Str);decide)) (by decide) (by omega) (fun t ht=>?_) (fun dd=>by cases dd<;>rfl)) ah (fu ..) ?_)) (by rw [List.length_map,List.length_map];omega)) ?_
    ·have a1:av ((l3 t).map di) 1=some (di t.2.1):=rfl
     have a2:av ((l3 t).map di) 2=some (di t.2.2):=rfl
     exact ⟨_,rfl,iw (Ew.et (lQ (yv (aY (ae 0 rfl) ah rfl a1) (ae 1 rfl) rfl (by with_unfolding_all rfl)) fun _=>(lM (fD (aY (ae 0 rfl) ah rfl a2) (ae 2 rfl))))),fun _=>ae 0 rfl⟩
    ·rw [k4];show av _ ((0:Nat):Int)=_;exact e7 rfl
    have e2:er (.ow (((p.map (cm rest ts)).map fun t=>Tr.fz (dT (l3 t)))++[Tr.fz (dT (l3 tt))]))=.lst (((p.map (cm rest ts)).map fun t=>dT (l3 t))++[dT (l3 tt)]):=by
     rw [show Tr.ow (((p.map (cm rest ts)).map fun t=>Tr.fz (dT (l3 t)))++[Tr.fz (dT (l3 tt))])=tW (p.map (cm rest ts)++[tt]) from by show Tr.ow _=Tr.ow _;rw [List.map_append (l₂:=[tt])];rfl,t9]
     show Dv.lst _=_
     rw [List.map_append];rfl
    have a1:av ((l3 tt).map di) 1=some (di tt.2.1):=rfl
    refine aw (Rn.to (aH 4 (Ev.pk (t:=ti tt.2.1) (aY (d:=di tt.2.1) (bu (d:=dT (l3 tt)) (ae 2 rfl) (Gs ah) e2 (FO _ _)) ah rfl a1) True.intro) (fun _=>pG.nd)) ?_)
    show [_,_,some (Tr.ow _),some (Tr.ow _),_]=[_,_,some (Tr.ow _),some (Tr.ow _),_]
    rw [List.map_append,List.map_append,List.map_append,<- Ln]
    rfl
 ·obtain ⟨p,x,n⟩:=a
  obtain ⟨h1,h2,h3⟩:=h
  dsimp only at h1 h2 h3 hp ⊢
  have eG:=h1.len
  have hc:p.contains x=true:=by simpa using hp
  have xm:x ∈ p:=List.contains_iff_mem.mp hc
  have il:=List.idxOf_lt_length_iff.mpr xm
  have e3:jt rest ts=((p.drop (p.idxOf x)).map (cm rest ts)).reverse:=by
   rw [h3]
   cases n with
   |zero=>omega
   |succ n =>
    show (if p.contains x=true then _ else _)=_
    rw [if_pos hc]
  refine lh (d:=bJ (p.map (cm rest ts))) 2 rfl (t9 _) ?_
  refine lh (d:=dis p) 3 rfl (cg _) ?_
  refine aw (bS (bp.to (Ev.s (OV T.fv T.OX (sU (ae 2 rfl) rfl (lN (xo (ae 3 rfl) rfl (ae 4 rfl) xm)) p7))) ?_))
  rw [e3,QQ _ _ (by rw [List.length_map,List.length_map];omega)]
  show Tr.ow _=Tr.ow _
  rw [<- List.map_drop,<- List.map_drop,<- List.map_reverse,List.map_map]
  rfl
end
end bM
namespace bM
open PySem L2 eY
section
variable {P:Program}{w:World}{K:PySem.W.Frag}{mg:Str->Option Value}{base:Heap}
def g3 (d:List Int):Int×Int×Int:=(d.getD 0 0,d.getD 1 0,d.getD 2 0)
def dI (n:Nat)(os:List (List Int))(S:Nat->List Int):List (Int×Int×Int):=(iG ((bz n os S os.length).map l3)).map g3
theorem IG (n:Nat)(os:List (List Int))(S:Nat->List Int):(dI n os S).map l3=iG ((bz n os S os.length).map l3):=by
 unfold dI
 rw [List.map_map]
 refine (List.map_congr_left (g:=id) fun d hd=>?_).trans (List.map_id _)
 obtain ⟨t,_,rfl⟩:=List.mem_map.mp ((pO _).mem_iff.mp hd)
 rfl
theorem qk (n:Nat)(os:List (List Int))(S:Nat->List Int):(dI n os S).Perm (bz n os S os.length):=by
 have:=(pO ((bz n os S os.length).map l3)).map g3
 rw [List.map_map] at this
 exact this.trans (List.Perm.of_eq ((List.map_congr_left (g:=id) fun t _=>rfl).trans (List.map_id _)))
theorem UH (n:Nat)(os:List (List Int))(S:Nat->List Int):((dI n os S).map l3).Pairwise fm:=by rw [IG];exact Fy _
def i3 (W:Int)(c:List Int)(os:List (List Int))(S:Nat->List Int):List (Int×Int×Int):=(dI c.length os S).filter fun t=>!(kZ W c os.length S).contains t.2.1
def bN (c:List Int)(os:List (List Int))(S:Nat->List Int):List (Nat×Nat):=gX (sv c.length os S)
def mF (W:Int)(c:List Int)(os:List (List Int))(S:Nat->List Int):Tr :=
 match i3 W c os S with
 |t::_=>.fz (.tup [ds "left",di t.1,di t.2.1,di t.2.2])
 |[] => if cW (bN c os S) (c.length+1)=[] then .tp [tx "good",ax (cL (bN c os S) (c.length+1))] else .tp [tx "ring",tW (jt (cW (bN c os S) (c.length+1)) (dI c.length os S))]
theorem oZ {c:List Int}{os:List (List Int)}{S:Nat->List Int}(ok:eu c os){t:Int×Int×Int}(ht:t ∈ bz c.length os S os.length) : 0<=t.2.1/\t.2.1<=c.length/\0<=t.2.2/\t.2.2<=c.length/\t.2.1 ≠ t.2.2:=by
 obtain ⟨a,j,ha,hj,_,x,hx,rfl⟩:=EG.mp ht
 have om:os.getD a [] ∈ os:=by
  rw [List.getD_eq_getElem?_getD,List.getElem?_eq_getElem ha]
  exact List.getElem_mem _
 have h1:=(lI (ok.ck _ om)).mp (List.mem_of_mem_take hx)
 have h2:=(lI (ok.ck _ om)).mp (List.mem_of_getElem? (tj hj))
 refine ⟨h1.1,h1.2,h2.1,h2.2,fun z=>?_⟩
 have nd:=(oW ok.c6 (ok.nd _ om) (ok.ck _ om)).2
 obtain ⟨i,hi,ei⟩:=List.mem_take_iff_getElem.mp hx
 have z:x=(aM c.length (os.getD a [])).getD j 0:=z
 rw [List.getD_eq_getElem?_getD,List.getElem?_eq_getElem hj,Option.getD_some,<- ei] at z
 have:=(List.getElem_inj nd).mp z
 omega
theorem TU {c:List Int}{os:List (List Int)}{S:Nat->List Int}{p:Nat×Nat}(h:p ∈ bN c os S):∃ t ∈ bz c.length os S os.length,p=(t.2.1.toNat,t.2.2.toNat):=by
 have h:=(List.mem_filter.mp h).2
 have h:p ∈ sv c.length os S:=by simpa using h
 obtain ⟨t,ht,rfl⟩:=List.mem_map.mp h
 exact ⟨t,ht,rfl⟩
theorem Hx {c:List Int}{os:List (List Int)}{S:Nat->List Int}(ok:eu c os):pC (cW (bN c os S) (c.length+1)) (dI c.length os S):=fun x hx=>by
 obtain ⟨p,h1,h2,rfl⟩:=Sw hx
 obtain ⟨t,ht,rfl⟩:=TU h1
 have hi:=oZ ok ht
 refine ⟨t,(qk _ _ _).mem_iff.mpr ht,?_,?_⟩
 ·rw [show t.2.1=((t.2.1.toNat:Nat):Int) by omega];exact h2
 ·show t.2.2=((t.2.2.toNat:Nat):Int)
  omega
theorem QR (ps:List (Nat×Nat)):(gX ps).length<=49:=Nat.le_trans (List.length_filter_le _ _) (by decide)
abbrev nJU:List Str:=["table", "shares", "many", "wished", "full", "left", "order", "rest"]
abbrev ou:Stmt:=top 26
theorem lz:bh nJU ["table", "shares"] (au ou):=⟨rfl,rfl,rfl,by decide +kernel,rfl,by decide +kernel,by decide +kernel⟩
def Jt (dd:List Dv)(t:Tr):Prop:=∃ (c:List Int) (os:List (List Int)) (W:Int) (S:Nat->List Int),eu c os/\0<W/\W<2 ^ 70/\(∀ a,a<os.length->gq W c.length (S a))/\dd=[e9 c os,dc W os.length S]/\t=mF W c os S
theorem P7 {f f1 f2 f3 f4 f5:Addr} {fd aT fd2 j8 sy AQ:FuncData} {k:Nat} (F:bj K "judged" "judged" ou f fd) (T:Txt mg) (xA:Kn P w K mg base ao (k+3) "wishes" f1 aT ["table", "shares"] (spT K yL)) (Nj:Kn P w K mg base ao (k+6) "full_things" f2 fd2 ["counts", "shares"] (spT K Js)) (O3:Kn P w K mg base ao (k+1) "lined_up" f3 j8 ["many", "pairs"] (spT K Hw)) (NQ:Kn P w K mg base ao (k+4) "over_pairs" f4 sy ["table", "shares"] (spT K IC)) (NR:Kn P w K mg base ao (k+1) "ring_among" f5 AQ ["rest", "wished"] (spT K IE)):aR P w K mg base ao (k+7) f fd ["table", "shares"] (spT K Jt):=by
 refine bC F.d lz (fun dd t h=>by obtain ⟨_,_,_,_,_,_,_,_,rfl,_⟩:=h;rfl) fun dd t h=>?_
 obtain ⟨c,os,W,S,ok,w0,w1,b0,rfl,rfl⟩:=h
 refine ⟨_,.inl rfl,?_⟩
 have big : 1000<sizeLine:=by decide
 have o6:=ok.o6
 have c6:=ok.c6
 have fl:∀ o ∈ os,(aM c.length o).length<=7:=fun o ho=>(oW c6 (ok.nd o ho) (ok.ck o ho)).1
 have wl:=lJ S fl os.length (Nat.le_refl _)
 have Lp:(dI c.length os S).length<=126:=by rw [(qk _ _ _).length_eq];omega
 obtain ⟨N,eN⟩:∃ N,N=c.length+1:=⟨_,rfl⟩
 have ew:er (.ow ((iG ((bz c.length os S os.length).map l3)).map fun d=>.fz (dT d)))=bJ (dI c.length os S):=by
  rw [fu,<- IG,List.map_map];rfl
 refine ai (aH 2 (bp.to (t':=ti N) (Ev.s (d9 (bq T.bb (aY (d:=dis c) (ae 0 rfl) ah rfl rfl) (.inl rfl)) ah)) (by rw [List.length_map,eN];rfl)) (fun _=>lz.nd)) ?_
 refine ai (aH 3 (Ev.s (Ev.as (d:=bJ (dI c.length os S)) (aQ xA (by show k+3<=k+6;omega) (ag (ae 0 rfl) (ag (ae 1 rfl) aj)) ⟨c,os,W,S,ok,b0,rfl,rfl⟩) ew)) (fun _=>lz.nd)) ?_
 refine ai (aH 4 (Ev.s (Ev.as (d:=dis (kZ W c os.length S)) (aQ Nj (Nat.le_refl _) (ag (aY (d:=dis c) (ae 0 rfl) ah rfl rfl) (ag (ae 1 rfl) aj)) ⟨c,W,os.length,S,c6,w0,w1,b0,o6,rfl,rfl⟩) (cg _))) (fun _=>lz.nd)) ?_
 refine ai (oH 5 (qS (eX.as (d:=bJ (i3 W c os S)) (uF (own:=["wish"]) (fr:=[4]) (dI c.length os S) (fun t=>dT (l3 t)) (fun t=>!(kZ W c os.length S).contains t.2.1) (fun t=>.fz (dT (l3 t))) (cB (ae 3 rfl) rfl) (bK 0 (fun _=>by show List.Nodup (["wish", "full"]:List Str);decide)) (by decide) (by omega) (fun t ht=>?_) (fun dd=>by cases dd<;>rfl)) (fu ..))) (fun i=>lcs ⟨rfl,rfl,by decide +kernel,by decide +kernel,by decide +kernel,by decide +kernel⟩) (fun _=>lz.nd)) ?_
 ·have a1:av ((l3 t).map di) 1=some (di t.2.1):=rfl
  exact ⟨_,rfl,iw (oj (aY (ae 0 rfl) ah rfl a1) (ae 1 rfl) rfl (by with_unfolding_all rfl)),fun _=>ae 0 rfl⟩
 have ll:(i3 W c os S).length<=126:=Nat.le_trans (List.length_filter_le _ _) Lp
 have pD:∀ l:List (Int×Int×Int),cF (bJ l)<=50:=fun l=>Nat.le_trans (qa (n:=1) fun d hd=>by
  obtain ⟨t,_,rfl⟩:=List.mem_map.mp hd
  exact t6 _) (by decide)
 unfold mF
 cases hl:i3 W c os S with
 |cons t l =>
  dsimp only
  have ic:av ((t::l).map fun t=>dT (l3 t)) 0=some (dT (l3 t)):=by show av _ ((0:Nat):Int)=_;exact e7 rfl
  have a0:av ((l3 t).map di) 0=some (di t.1):=rfl
  have a1:av ((l3 t).map di) 1=some (di t.2.1):=rfl
  have a2:av ((l3 t).map di) 2=some (di t.2.2):=rfl
  refine p8 (fP (Et.s (fO (ae 5 rfl) (bT aj (Nat.zero_le _)) (.inl ⟨_,_,rfl,rfl⟩) (pD _))) rfl (aw (bS (Ev.s (jB (dd:=[ds "left",di t.1,di t.2.1,di t.2.2]) (ag jE (ag (aY (bu (ae 5 rfl) ah rfl ic) ah rfl a0) (ag (aY (bu (ae 5 rfl) ah rfl ic) ah rfl a1) (ag (aY (bu (ae 5 rfl) ah rfl ic) ah rfl a2) aj)))) rfl (by show 4<=sizeLine;decide))))))
 |nil =>
  dsimp only
  refine ai (bO (Et.s (fO (ae 5 rfl) (bT aj (Nat.zero_le _)) (.inl ⟨_,_,rfl,rfl⟩) (pD _))) rfl) ?_
  have eo:er (Lh (gX (sv c.length os S)))=.lst ((bN c os S).map fun p=>dT (lP p)):=by rw [fu,List.map_map];rfl
  refine ai (aH 6 (bp.to (t':=ax (cL (bN c os S) N)) (Ev.s (aQ O3 (by show k+1<=k+6;omega) (ag (ae 2 rfl) (ag (aQ NQ (by show k+4<=k+6;omega) (ag (ae 0 rfl) (ag (ae 1 rfl) aj)) ⟨c,os,W,S,ok,b0,rfl,rfl⟩) aj)) ⟨N,bN c os S,by omega,by omega,QR _,?_,rfl⟩)) rfl) (fun _=>lz.nd)) ?_
  rotate_left
  ·show [di _,er _]=_
   rw [eo]
  have KQ:((aq N).filter fun x=>!(cL (bN c os S) N).contains x)=cW (bN c os S) N:=rfl
  refine ai (oH 7 (U6 (eX.to (t':=ax (cW (bN c os S) N)) (uF (own:=["one"]) (fr:=[6]) (aq N) di (fun x=>!(cL (bN c os S) N).contains x) ti (aZ.to (ft T.dJ (ae 2 rfl) ⟨by omega,by omega⟩) ?_) (bK 0 (fun _=>by show List.Nodup (["one", "order"]:List Str);decide)) (by decide) (by rw [show (aq N).length=N by unfold aq;rw [List.length_map,List.length_range]];omega) (fun x hx=>⟨_,rfl,by exact iw (oj (ae 0 rfl) (ae 1 rfl) (cg _) (by with_unfolding_all rfl)),fun _=>by exact ae 0 rfl⟩) (fun dd=>by cases dd<;>rfl)) rfl) (tH _)) (fun i=>lcs ⟨rfl,rfl,by decide +kernel,by decide +kernel,by decide +kernel,by decide +kernel⟩) (fun _=>lz.nd)) ?_
  ·rw [Int.toNat_natCast]
   unfold aq
   rw [List.map_map];rfl
  have rl:(cW (bN c os S) N).length<=7:=Nat.le_trans (List.length_filter_le _ _) (by rw [show (aq N).length=N by unfold aq;rw [List.length_map,List.length_range]];omega)
  refine lh (d:=dis (cW (bN c os S) N)) 7 rfl (cg _) ?_
  rw [<- eN]
  by_cases hr:cW (bN c os S) N=[]
  ·rw [if_pos hr]
   refine ai (bO (cU.to (q:=false) (Et.s (fO (ae 7 rfl) (bT aj (Nat.zero_le _)) (.inl ⟨_,_,rfl,rfl⟩) (Nat.le_trans (ko _) (by decide)))) (by show (!bL (dis _) (.lst []))=false;rw [hr];rfl)) rfl) ?_
   exact aw (Sx 6 rfl (fun i=>xR (Gf (cX FU (cX (pv 6) dN)))))
  ·rw [if_neg hr]
   refine p8 (fP (cU.to (q:=true) (Et.s (fO (ae 7 rfl) (bT aj (Nat.zero_le _)) (.inl ⟨_,_,rfl,rfl⟩) (Nat.le_trans (ko _) (by decide)))) ?_) rfl (aw (bS (Ev.s (qq (ag jE (ag (aQ NR (by show k+1<=k+6;omega) (ag (ae 7 rfl) (ag (ae 3 rfl) aj)) ⟨cW (bN c os S) N,dI c.length os S,hr,rl,Lp,by rw [eN];exact Hx ok,rfl,rfl⟩) aj)) (by show 2<=sizeLine;decide))))))
   show (!bL (dis _) (.lst []))=true
   cases h:cW (bN c os S) N with
   |nil=>exact absurd h hr
   |cons _ _=>rfl
end
end bM
namespace bM
open PySem L2 eY
section
variable {P:Program}{w:World}{K:PySem.W.Frag}{mg:Str->Option Value}{base:Heap}
theorem count_set (l:List Int)(i:Nat)(w y:Int):(l.set i w).count y<=l.count y+if y=w then 1 else 0:=by
 induction l generalizing i with
 |nil=>simp
 |cons a l ih =>
  cases i with
  |zero =>
   rw [List.set_cons_zero,List.count_cons,List.count_cons]
   have h:(if (w==y)=true then 1 else 0)<=(if y=w then (1:Nat) else 0):=by
    by_cases e:y=w
    ·rw [if_pos e];split<;>omega
    ·rw [if_neg e,if_neg (fun z=>e (eq_of_beq z).symm)];exact Nat.le_refl _
   omega
  |succ i =>
   rw [List.set_cons_succ,List.count_cons,List.count_cons]
   have:=ih i
   omega
structure Cq (c:List Int) (s:List Int×List Int):Prop where
 len:s.1.length=c.length
 le:∀ x:Nat,x<c.length->((s.2.count (x:Int):Nat):Int)+s.1.getD x 0<=c.getD x 0/\0<=s.1.getD x 0
theorem FP {c:List Int}{s:List Int×List Int}(q:Cq c s){w:Int}{i:Nat}(w0 : 0<=w)(hp : 0<s.1.getD w.toNat 0):Cq c (s.1.set w.toNat (s.1.getD w.toNat 0-1),s.2.set i w):=by
 refine ⟨by rw [List.length_set];exact q.len,fun x hx=>?_⟩
 have h:=q.le x hx
 have hc:=count_set s.2 i w x
 have hl:=q.len
 dsimp only
 by_cases e:x=w.toNat
 ·subst e
  have e2:(s.1.set w.toNat (s.1.getD w.toNat 0-1)).getD w.toNat 0=s.1.getD w.toNat 0-1:=by
   rw [List.getD_eq_getElem?_getD,List.getElem?_set_self (by omega)];rfl
  rw [e2]
  have:(if ((w.toNat:Nat):Int)=w then 1 else 0)<=1:=by split<;>omega
  omega
 ·have e2:(s.1.set w.toNat (s.1.getD w.toNat 0-1)).getD x 0=s.1.getD x 0:=by
   rw [List.getD_eq_getElem?_getD,List.getElem?_set_ne (Ne.symm e),<- List.getD_eq_getElem?_getD]
  rw [e2]
  rw [if_neg (by omega)] at hc
  omega
theorem EI {c:List Int}{d:List Int}(h0:∀ x ∈ c,0<=x)(hd:∀ x ∈ d,x=(c.length:Int)):Cq c (c,d):=by
 refine ⟨rfl,fun x hx=>?_⟩
 have:d.count (x:Int)=0:=List.count_eq_zero.mpr fun z=>by have:=hd _ z;omega
 dsimp only
 rw [this]
 have:c.getD x 0 ∈ c:=by rw [List.getD_eq_getElem?_getD,List.getElem?_eq_getElem hx];exact List.getElem_mem _
 have:=h0 _ this
 omega
theorem Hy {sm c:List Int}{A:Nat}(h0:∀ x ∈ c,0<=x):∀ k,Cq c (fh sm c A k)
 |0=>EI h0 fun x hx=>by obtain ⟨_,_,rfl⟩:=List.mem_map.mp hx;rfl
 |k+1=>by
  have ih:=Hy (sm:=sm) (A:=A) h0 k
  show Cq c (iI sm c.length A k (fh sm c A k))
  unfold iI
  split
  ·rename_i h
   rw [Bool.and_eq_true,decide_eq_true_eq,decide_eq_true_eq] at h
   exact FP ih (Int.emod_nonneg _ (by omega)) h.2
  ·exact ih
theorem D1 {c:List Int}{a:Int}:∀ {l:List Int} {s:List Int×List Int},Cq c s->(∀ x ∈ l,0<=x)->Cq c (l.foldl (eM c.length a) s)
 |[],_,h,_=>h
 |x::l,s,h,hl=>by
  rw [List.foldl_cons]
  refine D1 ?_ fun y hy=>hl y (.tail _ hy)
  unfold eM
  split
  ·rename_i hh
   rw [Bool.and_eq_true,decide_eq_true_eq,decide_eq_true_eq] at hh
   exact FP h (hl x (.head _)) hh.2
  ·exact h
theorem FQ {sm:List Int}{cell:Int}{c:List Int}{os:List (List Int)}(h0:∀ x ∈ c,0<=x)(h:∀ o ∈ os,∀ x ∈ o,0<=x/\x<(c.length:Int)):∀ k,Cq c (bP sm cell c os k).2
 |0=>EI h0 fun x hx=>by obtain ⟨_,_,rfl⟩:=List.mem_map.mp hx;rfl
 |k+1=>D1 (FQ (sm:=sm) (cell:=cell) h0 h k) fun x hx=>(yi h _ _ x hx).1
theorem TV {c:List Int}{os:List (List Int)}(ok:eu c os)(y:Int){x:Nat}(hx:x<c.length):(((cj c os y).count (x:Int):Nat):Int)<=c.getD x 0:=by
 have h0:∀ x ∈ c,0<=x:=fun x hx=>(ok.cnt x hx).1
 unfold cj
 split
 ·have:=(Hy (sm:=bU (y / 4) (os.length+1)) (A:=os.length) h0 os.length).le x hx
  unfold mE
  omega
 ·have:=(FQ (sm:=bU (y / 4) (os.length+1)) (cell:=y) h0 ok.ck os.length).le x hx
  unfold md
  omega
theorem sum_add {α:Type}(l:List α)(f g : α->Int):(l.map fun a=>f a+g a).sum=(l.map f).sum+(l.map g).sum:=by
 induction l with
 |nil=>rfl
 |cons a l ih=>rw [List.map_cons,List.map_cons,List.map_cons,List.sum_cons,List.sum_cons,List.sum_cons,ih];omega
theorem FR (w x:Int):∀ d:List Int,(d.map fun y=>if y=x then w else 0).sum=w*((d.count x:Nat):Int)
 |[] => by simp
 |a::d=>by
  rw [List.map_cons,List.sum_cons,FR w x d,List.count_cons]
  by_cases h:a=x
  ·rw [if_pos h,if_pos (by rw [h];exact beq_self_eq_true x),Int.natCast_add,Int.mul_add];show _=_+w*1;omega
  ·rw [if_neg h,if_neg (by simpa using h),Nat.add_zero,Int.zero_add]
theorem P8 {α:Type}(d:List Int)(f:Int -> α):(List.range d.length).map (fun a=>f (d.getD a 0))=d.map f:=by
 refine List.ext_getElem? fun i=>?_
 rw [List.getElem?_map,List.getElem?_map]
 rcases Nat.lt_or_ge i d.length with h | h
 ·rw [List.getElem?_range h,List.getElem?_eq_getElem h]
  show some (f (d.getD i 0))=some (f d[i])
  rw [List.getD_eq_getElem?_getD,List.getElem?_eq_getElem h];rfl
 ·rw [List.getElem?_eq_none (by rw [List.length_range];exact h),List.getElem?_eq_none h];rfl
theorem Hz {c:List Int}{os:List (List Int)}(ok:eu c os){x:Nat}(hx:x<c.length):∀ cells:List Int,((List.range os.length).map fun (a:Nat)=>gY cells c os (0+(a:Int)) x).sum<=c.getD x 0*bH cells
 |[] => by
  have:((List.range os.length).map fun (a:Nat)=>gY [] c os (0+(a:Int)) x)=(List.range os.length).map fun _=>(0:Int):=List.map_congr_left fun a _=>rfl
  rw [this]
  have z:∀ l:List Nat,(l.map fun _=>(0:Int)).sum=0:=by
   intro l
   induction l with
   |nil=>rfl
   |cons _ _ ih=>rw [List.map_cons,List.sum_cons,ih];rfl
  rw [z]
  show (0:Int)<=c.getD x 0*0
  rw [Int.mul_zero];exact Int.le_refl _
 |y::ys=>by
  have ih:=Hz ok hx ys
  have dl:=(FE ok.ck y).1
  have e:((List.range os.length).map fun (a:Nat)=>gY (y::ys) c os (0+(a:Int)) x)=(List.range os.length).map fun (a:Nat)=>(if (cj c os y).getD a 0=(x:Int) then wF y else 0)+gY ys c os (0+(a:Int)) x:=List.map_congr_left fun a _=>by
   unfold gY
   rw [List.filter_cons,show (0+(a:Int)).toNat=a by omega]
   by_cases h:(cj c os y).getD a 0=(x:Int)
   ·rw [if_pos (decide_eq_true h),if_pos h,List.map_cons,List.sum_cons]
   ·rw [if_neg (by rw [decide_eq_false h];exact Bool.false_ne_true),if_neg h,Int.zero_add]
  rw [e,sum_add]
  have e2:((List.range os.length).map fun (a:Nat)=>if (cj c os y).getD a 0=(x:Int) then wF y else 0)=(cj c os y).map fun z=>if z=(x:Int) then wF y else 0:=by
   rw [<- dl]
   exact P8 (cj c os y) fun z=>if z=(x:Int) then wF y else 0
  rw [e2,FR]
  have hc:=TV ok y hx
  have hw:=uq y
  have es:bH (y::ys)=wF y+bH ys:=by unfold bH;rw [List.map_cons,List.sum_cons]
  rw [es,Int.mul_add,Int.mul_comm (c.getD x 0) (wF y)]
  have:=Int.mul_le_mul_of_nonneg_left hc (show 0<=wF y by omega)
  omega
theorem Sy {cells c:List Int}{os:List (List Int)}{a:Int}{x:Nat}(hx:x<=c.length):cn (cR cells c os a) (x:Int)=gY cells c os a x:=by
 unfold cn cR
 rw [Int.toNat_natCast,List.getD_eq_getElem?_getD,List.getElem?_map]
 have:(aq (c.length+1))[x]?=some (x:Int):=by
  unfold aq
  rw [List.getElem?_map,List.getElem?_range (by omega)]
  show some (0+(x:Int))=_
  rw [Int.zero_add]
 rw [this];rfl
end
end bM
namespace bM
open PySem L2 eY
section
variable {P:Program}{w:World}{K:PySem.W.Frag}{mg:Str->Option Value}{base:Heap}
theorem EJ (n:Nat)(o:List Int):gn n o=(aq n).filter fun x=>!o.contains x:=by
 unfold gn aq
 rw [List.filter_map];rfl
def yj (p q:Int×Int):Bool:=decide (p.1*q.2<q.1*p.2)
def HA (dd:List Dv)(t:Tr):Prop:=∃ p q:Int×Int,oO p/\oO q/\dd=[dF p,dF q]/\t=tb (yj p q)
theorem QS {W s t:Int}(h : 0<W):yj (fW W s) (fW W t)=decide (s<t):=by
 unfold yj
 rw [decide_eq_decide]
 exact Ur h
abbrev nU:Stmt:=top 38
theorem NS:bh ["_law_counts_here", "_law_order_here"] ["_law_counts_here", "_law_order_here"] (au nU):=⟨rfl,rfl,rfl,by decide +kernel,rfl,by decide +kernel,by decide +kernel⟩
def HB (dd:List Dv)(t:Tr):Prop:=∃ c o:List Int,c.length<=6/\o.length<=6/\dd=[dis c,dis o]/\t=ax (aM c.length o)
theorem NT {f:Addr} {fd:FuncData} {k:Nat} (F:bj K "_law_full" "_law_full" nU f fd) (T:Txt mg):aR P w K mg base ao (k+1) f fd ["_law_counts_here", "_law_order_here"] (spT K HB):=by
 refine bC F.d NS (fun dd t h=>by obtain ⟨_,_,_,_,rfl,_⟩:=h;rfl) fun dd t h=>?_
 obtain ⟨c,o,c6,o6,rfl,rfl⟩:=h
 refine ⟨_,.inl rfl,?_⟩
 have big : 1000<sizeLine:=by decide
 have iJ:(((c.map di).length:Nat):Int)=c.length:=by rw [List.length_map]
 have rl:=DU c.length o
 refine aw (bS (bp.to (Ev.s (qp (qp (ae 1 rfl) (bT (ag (bq T.bb (ae 0 rfl) (.inl rfl)) aj) (by show 1<=sizeLine;decide)) rfl rfl ?_) (lV (own:=["_law_one"]) (fr:=[1]) (aq c.length) di (fun x=>!o.contains x) ti (fun i=>lcs ⟨rfl,rfl,by decide +kernel,by decide +kernel,by decide +kernel,by decide +kernel⟩) (aZ.to (ft T.dJ (bq T.bb (ae 0 rfl) (.inl rfl)) (by rw [iJ];omega)) ?_) (bK 0 (fun _=>by show List.Nodup (["_law_one", "_law_order_here"]:List Str);decide)) (by decide) (by rw [gP];omega) (fun x hx=>⟨_,rfl,by exact iw (oj (ae 0 rfl) (ae 1 rfl) rfl (by with_unfolding_all rfl)),fun _=>by exact ae 0 rfl⟩) (fun dd=>by cases dd<;>rfl)) (lU _) (cg _) ?_)) ?_))
 ·show (o.map di).length+1<=sizeLine
  rw [List.length_map];omega
 ·rw [iJ,Int.toNat_natCast]
  unfold aq
  rw [List.map_map];rfl
 ·rw [<- EJ]
  show ((o.map di)++[di _]).length+((gn c.length o).map di).length<=sizeLine
  simp only [List.length_append,List.length_map,List.length_singleton]
  omega
 ·rw [<- EJ,iJ]
  unfold aM
  show Tr.ow ((((o.map di)++[di _])++((gn c.length o).map di)).map .fz)=Tr.ow ((o++[(c.length:Int)]++gn c.length o).map _)
  simp only [List.map_append,List.map_map]
  rfl
abbrev nV:Stmt:=top 39
theorem NU:bh ["_law_one", "_law_other"] ["_law_one", "_law_other"] (au nV):=⟨rfl,rfl,rfl,by decide +kernel,rfl,by decide +kernel,by decide +kernel⟩
theorem NV {f f1:Addr} {fd aT:FuncData} {k:Nat} (F:bj K "_law_plus" "_law_plus" nV f fd) (T:Txt mg) (wz:Kn P w K mg base ao (k+2) "_law_lowest" f1 aT ["_law_top", "_law_bottom"] (spT K kD)):aR P w K mg base ao (k+3) f fd ["_law_one", "_law_other"] (spT K uo):=by
 refine bC F.d NU (fun dd t h=>by obtain ⟨_,_,_,_,rfl,_⟩:=h;rfl) fun dd t h=>?_
 obtain ⟨p,q,⟨p1,p2,p3⟩,⟨q1,q2,q3⟩,rfl,rfl⟩:=h
 refine ⟨_,.inl rfl,?_⟩
 have ic:∀ r:Int×Int,av [di r.1,di r.2] 0=some (di r.1):=fun _=>rfl
 have ie:∀ r:Int×Int,av [di r.1,di r.2] 1=some (di r.2):=fun _=>rfl
 exact aw (bS (Ev.s (aQ wz (Nat.le_refl _) (ag (d9 (ku (aY (ae 0 rfl) ah rfl (ic p)) (aY (ae 1 rfl) ah rfl (ie q)) ⟨ef p3 (by decide),ef q2 (by decide)⟩) (ku (aY (ae 1 rfl) ah rfl (ic q)) (aY (ae 0 rfl) ah rfl (ie p)) ⟨ef q3 (by decide),ef p2 (by decide)⟩)) (ag (ku (aY (ae 0 rfl) ah rfl (ie p)) (aY (ae 1 rfl) ah rfl (ie q)) ⟨ef p2 (by decide),ef q2 (by decide)⟩) aj)) ⟨_,_,Int.mul_pos p1 q1,ef (Hj p2 q2) (by decide),rfl,rfl⟩)))
abbrev nQ:Stmt:=top 40
theorem Nk:bh ["_law_one", "_law_other"] ["_law_one", "_law_other"] (au nQ):=⟨rfl,rfl,rfl,by decide +kernel,rfl,by decide +kernel,by decide +kernel⟩
theorem Nm {f:Addr} {fd:FuncData} {k:Nat} (F:bj K "_law_under" "_law_under" nQ f fd) (T:Txt mg):aR P w K mg base ao (k+1) f fd ["_law_one", "_law_other"] (spT K HA):=by
 refine bC F.d Nk (fun dd t h=>by obtain ⟨_,_,_,_,rfl,_⟩:=h;rfl) fun dd t h=>?_
 obtain ⟨p,q,⟨p1,p2,p3⟩,⟨q1,q2,q3⟩,rfl,rfl⟩:=h
 refine ⟨_,.inl rfl,?_⟩
 have ic:∀ r:Int×Int,av [di r.1,di r.2] 0=some (di r.1):=fun _=>rfl
 have ie:∀ r:Int×Int,av [di r.1,di r.2] 1=some (di r.2):=fun _=>rfl
 exact aw (bS (Ev.s (yu (ku (aY (ae 0 rfl) ah rfl (ic p)) (aY (ae 1 rfl) ah rfl (ie q)) ⟨ef p3 (by decide),ef q2 (by decide)⟩) (ku (aY (ae 1 rfl) ah rfl (ic q)) (aY (ae 0 rfl) ah rfl (ie p)) ⟨ef q3 (by decide),ef p2 (by decide)⟩))))
abbrev nK:Stmt:=top 46
theorem sH:bh ["_law_shares", "_law_one", "_law_total", "_law_row"] ["_law_shares", "_law_one"] (au nK):=⟨rfl,rfl,rfl,by decide +kernel,rfl,by decide +kernel,by decide +kernel⟩
theorem MR {f f1:Addr} {fd aT:FuncData} {k:Nat} (F:bj K "_law_column" "_law_column" nK f fd) (T:Txt mg) (Oh:Kn P w K mg base ao (k+3) "_law_plus" f1 aT ["_law_one", "_law_other"] (spT K uo)):aR P w K mg base ao (k+4) f fd ["_law_shares", "_law_one"] (spT K t8):=by
 refine bC F.d sH (fun dd t h=>by obtain ⟨_,_,_,_,_,_,_,_,_,_,_,rfl,_⟩:=h;rfl) fun dd t h=>?_
 obtain ⟨W,n,A,S,x,w0,w1,b0,a6,x0,x1,rfl,rfl⟩:=h
 refine ⟨_,.inl rfl,?_⟩
 obtain ⟨ss,vB⟩:∃ ss:List Int,ss=(List.range A).map fun a=>cn (S a) x:=⟨_,rfl⟩
 have sb:∀ s ∈ ss,0<=s/\s<=W:=fun s hs=>by
  rw [vB] at hs
  obtain ⟨a,ha,rfl⟩:=List.mem_map.mp hs
  exact td (b0 a (List.mem_range.mp ha)) x
 have sl:ss.length=A:=by rw [vB,List.length_map,List.length_range]
 refine ai (aH 2 (bp.to (t':=tF (fW W (ss.take 0).sum)) (Ev.s (jB (dd:=[di 0,di 1]) (ag ah (ag ah aj)) rfl (by show 2<=sizeLine;decide))) (by rw [List.take_zero];show tF (0,1)=tF (fW W 0);rw [tJ w0])) (fun _=>sH.nd)) ?_
 refine ai (cY (aZ.s (cB (ae 0 rfl) rfl)) (bK 3 (fun _=>sH.nd)) (fun j=>[some (.fz (dc W A S)),some (ti x),some (tF (fW W (ss.take j).sum)),none]) rfl (fun _=>rfl) (fun j d hd=>?_)) ?_
 ·obtain ⟨a,ha,rfl⟩:=e8 hd
  have ja:a=j:=by
   obtain ⟨q1,q2⟩:=List.getElem?_eq_some_iff.mp ha
   rw [List.getElem_range] at q2;exact q2.symm
  subst ja
  have hj:a<A:=by have:=(List.getElem?_eq_some_iff.mp ha).1;rw [List.length_range] at this;exact this
  have hx:ss[a]?=some (cn (S a) x):=by rw [vB,List.getElem?_map,List.getElem?_range hj];rfl
  have hb:=sb _ (List.mem_of_getElem? hx)
  have ht:=tq sb w0 a
  have Vn:(a:Int)*W<=200*W:=Int.mul_le_mul_of_nonneg_right (by omega) (by omega)
  refine ⟨_,[some (.fz (dc W A S)),some (ti x),some (tF (fW W (ss.take (a+1)).sum)),some (.fz (dC W (S a)))],rfl,?_,[3],rfl⟩
  rw [jx hx,List.sum_append,List.sum_singleton]
  generalize (ss.take a).sum=s0 at ht
  exact aw (aH 2 (bp.to (t':=tF (fW W (s0+cn (S a) x))) (Ev.s (aQ Oh (Nat.le_refl _) (ag (ae 2 rfl) (ag (bu (ae 3 rfl) (ae 1 rfl) rfl (rowAt (b0 a hj) x0 x1)) aj)) ⟨fW W s0,fW W (cn (S a) x),qG w0 w1 ht.1 (by omega),qG w0 w1 hb.1 (by omega),rfl,rfl⟩)) (by rw [Fj w0])) (fun _=>sH.nd))
 ·rw [List.length_map,List.length_range,show ss.take A=ss from List.take_of_length_le (by omega)]
  exact aw (bS (bp.to (Ev.s (ae 2 rfl)) (by unfold fi;rw [vB])))
theorem UI {W s:Int}(h : 0<W)(s0 : 0<=s):decide (0<(fW W s).1)=decide (0<s):=by
 have c:=kg (s:=s) h
 have p:=ky (s:=s) h
 have n:=PC (s:=s) h s0
 rw [decide_eq_decide]
 constructor
 ·intro z
  rcases Int.lt_or_le 0 s with q | q
  ·exact q
  ·have:s=0:=by omega
   rw [this,tJ h] at z
   exact absurd z (by decide)
 ·intro z
  rcases Int.lt_or_le 0 (fW W s).1 with q | q
  ·exact q
  ·have e:(fW W s).1=0:=by omega
   rw [e,Int.zero_mul] at c
   have:=Int.mul_pos z p
   omega
abbrev nLW:List Str:=["_law_counts_here", "_law_orders_here", "_law_shares", "_law_found", "_law_asker", "_law_full_here", "_law_k"]
abbrev nL:Stmt:=top 48
theorem nz:bh nLW ["_law_counts_here", "_law_orders_here", "_law_shares"] (au nL):=⟨rfl,rfl,rfl,by decide +kernel,rfl,by decide +kernel,by decide +kernel⟩
def HC (dd:List Dv)(t:Tr):Prop:=∃ (c:List Int) (os:List (List Int)) (W:Int) (S:Nat->List Int),eu c os/\0<W/\(∀ a,a<os.length->gq W c.length (S a))/\dd=[dis c,.lst (os.map dis),dc W os.length S]/\t=.fz (bJ (bz c.length os S os.length))
theorem O4 (F:List Int){i:Nat}(h:i<=F.length):(List.range i).map (fun j=>F.getD j 0)=F.take i:=by
 refine List.ext_getElem? fun j=>?_
 rw [List.getElem?_map]
 rcases Nat.lt_or_ge j i with hj | hj
 ·rw [List.getElem?_range hj,List.getElem?_take_of_lt hj,List.getElem?_eq_getElem (by omega)]
  show some (F.getD j 0)=_
  rw [List.getD_eq_getElem?_getD,List.getElem?_eq_getElem (by omega)];rfl
 ·rw [List.getElem?_eq_none (by rw [List.length_range];exact hj),List.getElem?_eq_none (by rw [List.length_take];omega)];rfl
theorem MS {f f1:Addr} {fd aT:FuncData} {k:Nat} (F:bj K "_law_wishes" "_law_wishes" nL f fd) (T:Txt mg) (Oi:Kn P w K mg base ao (k+1) "_law_full" f1 aT ["_law_counts_here", "_law_order_here"] (spT K HB)):aR P w K mg base ao (k+2) f fd ["_law_counts_here", "_law_orders_here", "_law_shares"] (spT K HC):=by
 refine bC F.d nz (fun dd t h=>by obtain ⟨_,_,_,_,_,_,_,rfl,_⟩:=h;rfl) fun dd t h=>?_
 obtain ⟨c,os,W,S,ok,w0,b0,rfl,rfl⟩:=h
 refine ⟨_,.inl rfl,?_⟩
 have big : 1000<sizeLine:=by decide
 have o6:=ok.o6
 have c6:=ok.c6
 have fl:∀ o ∈ os,(aM c.length o).length<=7:=fun o ho=>(oW c6 (ok.nd o ho) (ok.ck o ho)).1
 refine ai (aH 3 (Ev.s (Ev.as (d:=bJ []) (bT aj (Nat.zero_le _)) rfl)) (fun _=>nz.nd)) ?_
 have rl:((fR 0 (((os.map dis).length:Nat):Int).toNat)).length=os.length:=by rw [List.length_map,List.length_range,List.length_map];omega
 refine ai (cY (aZ.s (ft T.dJ (bq T.bb (ae 1 rfl) (.inl rfl)) ⟨by omega,by rw [List.length_map];omega⟩)) (bK 4 (fun _=>nz.nd)) (fun k=>[some (.fz (dis c)),some (.fz (.lst (os.map dis))),some (.fz (dc W os.length S)),some (.fz (bJ (bz c.length os S k))),none,none,none]) rfl (fun _=>rfl) (fun a d hd=>?_)) ?_
 ·obtain ⟨ha,rfl⟩:=i9 hd
  rw [List.length_map] at ha
  have hj:a<os.length:=by omega
  rw [Int.zero_add]
  obtain ⟨o,nh⟩:∃ o,os[a]?=some o:=⟨_,List.getElem?_eq_getElem hj⟩
  have og:os.getD a []=o:=by rw [List.getD_eq_getElem?_getD,nh];rfl
  have om:=List.mem_of_getElem? nh
  have f7:=fl o om
  have R:=b0 a hj
  have kU:=ok.fS om
  have wa:=lJ S fl a (by omega)
  have oat:av (os.map dis) ((a:Nat):Int)=some (dis o):=e7 (by rw [List.getElem?_map,nh];rfl)
  have sat:av ((List.range os.length).map fun a=>dC W (S a)) ((a:Nat):Int)=some (dC W (S a)):=e7 (by rw [List.getElem?_map,List.getElem?_range hj];rfl)
  have fl2:((fR 0 ((((aM c.length o).map di).length:Nat):Int).toNat)).length=(aM c.length o).length:=by rw [List.length_map,List.length_range,List.length_map];omega
  refine ⟨_,_,rfl,ai (aH 5 (Ev.s (Ev.as (d:=dis (aM c.length o)) (aQ Oi (Nat.le_refl _) (ag (ae 0 rfl) (ag (bu (ae 1 rfl) (ae 4 rfl) rfl oat) aj)) ⟨c,o,c6,kU,rfl,rfl⟩) (cg _))) (fun _=>nz.nd)) (aw (cY (aZ.s (ft T.dJ (bq T.bb (ae 5 rfl) (.inl rfl)) ⟨by omega,by rw [List.length_map];omega⟩)) (bK 6 (fun _=>nz.nd)) (fun i=>[some (.fz (dis c)),some (.fz (.lst (os.map dis))),some (.fz (dc W os.length S)),some (.fz (bJ (bz c.length os S a++wJ c.length o (S a) a i))),some (ti a),some (.fz (dis (aM c.length o))),none]) ?_ (fun _=>rfl) (fun i d hd=>?_))),[4,5],?_⟩
  ·show [_,_,_,some (Tr.fz (bJ (bz c.length os S a++[]))),_,_,_]=_
   rw [List.append_nil];rfl
  ·obtain ⟨hi,rfl⟩:=i9 hd
   rw [List.length_map] at hi
   have il:i<(aM c.length o).length:=by omega
   rw [Int.zero_add]
   have hb:=tj il
   generalize uX:(aM c.length o).getD i 0=b at hb
   have bm:=(lI (ok.ck o om)).mp (List.mem_of_getElem? hb)
   have Lq:av ((aM c.length o).map di) ((i:Nat):Int)=some (di b):=e7 (by rw [List.getElem?_map,hb];rfl)
   have wj:=t7 c.length o (S a) a i
   have ti7:=zD (m:=i) (by omega)
   have tk:=td R b
   have a0:av [di (fW W (cn (S a) b)).1,di (fW W (cn (S a) b)).2] 0=some (di (fW W (cn (S a) b)).1):=rfl
   refine ⟨_,_,rfl,aw (qB (o:=.nx [some (.fz (dis c)),some (.fz (.lst (os.map dis))),some (.fz (dc W os.length S)),some (.fz (bJ (bz c.length os S a++wJ c.length o (S a) a (i+1)))),some (ti a),some (.fz (dis (aM c.length o))),some (ti i)]) (p:=decide (0<cn (S a) b)) (cU.to (Et.s (jH (aY (bu (bu (ae 2 rfl) (ae 4 rfl) rfl sat) (bu (ae 5 rfl) (ae 6 rfl) rfl Lq) rfl (rowAt R bm.1 bm.2)) ah rfl a0) ah)) (UI w0 tk.1)) (fun h=>aV.to (aw (aH 3 (Ev.s (Ev.as (d:=bJ (bz c.length os S a++wJ c.length o (S a) a (i+1))) (qp (xs:=(bz c.length os S a++wJ c.length o (S a) a i).map fun t=>dT (l3 t)) (ys:=(List.range i).map fun j=>dT [(a:Int),(aM c.length o).getD j 0,b]) (ae 3 rfl) (jd (own:=["_law_j"]) (fr:=[4,5,6]) (List.range i) (fun j=>di ((j:Nat):Int)) (fun j=>.fz (dT [(a:Int),(aM c.length o).getD j 0,b])) (fun i=>lcs ⟨rfl,rfl,by decide +kernel,by decide +kernel,by decide +kernel,by decide +kernel⟩) (aZ.to (ft T.dJ (ae 6 rfl) ⟨by omega,by omega⟩) ?_) (bK 0 (fun _=>by show List.Nodup (["_law_j", "_law_asker", "_law_full_here", "_law_k"]:List Str);decide)) (by decide) (by rw [List.length_range];omega) (fun j hj=>⟨_,rfl,?_⟩) (fun dd=>by cases dd<;>rfl)) rfl (fu ..) ?_) ?_)) (fun _=>nz.nd))) rfl) (fun h=>aV.to kn ?_)),[6],rfl⟩
   ·rw [Int.toNat_natCast]
    unfold fR
    exact List.map_congr_left fun j _=>by rw [Int.zero_add]
   ·have jm:=List.mem_range.mp hj
    have jat:av ((aM c.length o).map di) ((j:Nat):Int)=some (di ((aM c.length o).getD j 0)):=e7 (by rw [List.getElem?_map,tj (by omega)];rfl)
    exact jB (dd:=[di a,di ((aM c.length o).getD j 0),di b]) (ag (ae 1 rfl) (ag (bu (ae 2 rfl) (ae 0 rfl) rfl jat) (ag (bu (ae 2 rfl) (ae 3 rfl) rfl Lq) aj))) rfl (by show 3<=sizeLine;decide)
   ·rw [List.length_map,List.length_map,List.length_append,List.length_range];omega
   ·have AR:¬ cn (S a) b=0:=by have:=of_decide_eq_true h;omega
    rw [lU,qj,uX,if_neg AR,<- List.append_assoc]
    show Dv.lst _=Dv.lst _
    rw [List.map_append (l₂:=((aM c.length o).take i).map _),<- O4 _ (by omega:i<=(aM c.length o).length),List.map_map,List.map_map]
    rfl
   ·have AR:cn (S a) b=0:=by have:=of_decide_eq_false h;omega
    rw [qj,uX,if_pos AR,List.append_nil]
    rfl
  ·show [_,_,_,some (Tr.fz (bJ _)),_,_,_]=_
   rw [xg,og,fl2]
 ·rw [rl]
  exact aw (bS (Ev.s (ae 3 rfl)))
end
end bM
namespace bM
open PySem L2 eY
section
variable {P:Program}{w:World}{K:PySem.W.Frag}{mg:Str->Option Value}{base:Heap}
abbrev nR:Stmt:=top 44
theorem Nn:bh ["_law_found"] ["_law_found"] (au nR):=⟨rfl,rfl,rfl,by decide +kernel,rfl,by decide +kernel,by decide +kernel⟩
def yk (dd:List Dv)(t:Tr):Prop:=∃ n:Int,dd=[di n]/\t=tb true
theorem Np {f:Addr} {fd:FuncData} {k:Nat} (F:bj K "_law_whole" "_law_whole" nR f fd) (T:Txt mg):aR P w K mg base ao (k+1) f fd ["_law_found"] (spT K yk):=by
 refine bC F.d Nn (fun dd t h=>by obtain ⟨n,rfl,_⟩:=h;rfl) fun dd t h=>?_
 obtain ⟨n,rfl,rfl⟩:=h
 refine ⟨_,.inl rfl,?_⟩
 exact aw (bS (Ev.s (Ev.to (lS (p:=true) (q:=true) (gk T.fZ T.yF xY (ae 0 rfl) (by with_unfolding_all rfl)) fun _=>(lR (Gv (p:=false) (gk T.fZ T.Hi E8 (ae 0 rfl) (by with_unfolding_all rfl))))) rfl)))
theorem D2 {α:Type}(p : α->Bool){ts:List α}{j:Nat}{t : α}(h:ts[j]?=some t):(ts.take (j+1)).filter p=(ts.take j).filter p++if p t=true then [t] else []:=by
 rw [jx h,List.filter_append]
 congr 1
 rw [List.filter_cons,List.filter_nil]
theorem Sz {W:Int}{n A:Nat}{S:Nat->List Int}(w0 : 0<W)(b0:∀ a,a<A->gq W n (S a))(a6:A<=6)(x:Int) : 0<=fi A S x/\fi A S x<=200*W:=by
 have sb:∀ s ∈ (List.range A).map (fun a=>cn (S a) x),0<=s/\s<=W:=fun s hs=>by
  obtain ⟨a,ha,rfl⟩:=List.mem_map.mp hs
  exact td (b0 a (List.mem_range.mp ha)) x
 have h:=tq sb w0 A
 rw [List.take_of_length_le (by rw [List.length_map,List.length_range];exact Nat.le_refl _)] at h
 have h2:(A:Int)*W<=200*W:=Int.mul_le_mul_of_nonneg_right (by omega) (by omega)
 exact ⟨h.1,Int.le_trans h.2 h2⟩
def ig (W:Int)(c:List Int)(A:Nat)(S:Nat->List Int)(t:Int×Int×Int):Bool:=decide (t.2.1=(c.length:Int)) || decide (fi A S t.2.1<c.getD t.2.1.toNat 0*W)
abbrev nLL:List Str:=["_law_counts_here", "_law_shares", "_law_wishes_here", "_law_found", "_law_asker", "_law_better", "_law_one"]
abbrev nW:Stmt:=top 49
theorem wB:bh nLL ["_law_counts_here", "_law_shares", "_law_wishes_here"] (au nW):=⟨rfl,rfl,rfl,by decide +kernel,rfl,by decide +kernel,by decide +kernel⟩
def IH (dd:List Dv)(t:Tr):Prop:=∃ (c:List Int) (W:Int) (A:Nat) (S:Nat->List Int) (ts:List (Int×Int×Int)),c.length<=6/\(∀ x ∈ c,0<=x/\x<=9)/\0<W/\W<2 ^ 70/\(∀ a,a<A->gq W c.length (S a))/\A<=6/\ts.length<=126/\(∀ t ∈ ts,0<=t.2.1/\t.2.1<=c.length)/\dd=[dis c,dc W A S,bJ ts]/\t=tW (ts.filter (ig W c A S))
theorem NW {f f1 f2:Addr} {fd aT fd2:FuncData} {k:Nat} (F:bj K "_law_left" "_law_left" nW f fd) (T:Txt mg) (Nq:Kn P w K mg base ao (k+4) "_law_column" f1 aT ["_law_shares", "_law_one"] (spT K t8)) (NX:Kn P w K mg base ao (k+1) "_law_under" f2 fd2 ["_law_one", "_law_other"] (spT K HA)):aR P w K mg base ao (k+5) f fd ["_law_counts_here", "_law_shares", "_law_wishes_here"] (spT K IH):=by
 refine bC F.d wB (fun dd t h=>by obtain ⟨_,_,_,_,_,_,_,_,_,_,_,_,_,rfl,_⟩:=h;rfl) fun dd t h=>?_
 obtain ⟨c,W,A,S,ts,c6,c9,w0,w1,b0,a6,tl,tr,rfl,rfl⟩:=h
 refine ⟨_,.inl rfl,?_⟩
 have big : 1000<sizeLine:=by decide
 refine ai (aH 3 (bp.to (t':=tW ((ts.take 0).filter (ig W c A S))) (Ev.s (bT aj (Nat.zero_le _))) rfl) (fun _=>wB.nd)) ?_
 refine ai (cY (aZ.s (cB (ae 2 rfl) rfl)) (x6 4 5 6 (fun _=>wB.nd)) (fun j=>[some (.fz (dis c)),some (.fz (dc W A S)),some (.fz (bJ ts)),some (tW ((ts.take j).filter (ig W c A S))),none,none,none]) rfl (fun _=>rfl) (fun j d hd=>?_)) ?_
 ·obtain ⟨t,ht,rfl⟩:=e8 hd
  have tm:=List.mem_of_getElem? ht
  obtain ⟨t0,t1⟩:=tr t tm
  have cb:=Sz w0 b0 a6 t.2.1
  have fl:=List.length_filter_le (ig W c A S) (ts.take j)
  rw [List.length_take] at fl
  refine ⟨_,_,rfl,aw (qB (o:=.nx [some (.fz (dis c)),some (.fz (dc W A S)),some (.fz (bJ ts)),some (tW ((ts.take (j+1)).filter (ig W c A S))),some (ti t.1),some (ti t.2.1),some (ti t.2.2)]) (p:=ig W c A S t) (Et.s (Ew.et (fE (p:=decide (t.2.1=(c.length:Int))) (q:=decide (fi A S t.2.1<c.getD t.2.1.toNat 0*W)) (Et.to (fD (ae 5 rfl) (bq T.bb (ae 0 rfl) (.inl rfl))) (by rw [List.length_map])) fun hp=>(iu ?_)))) (fun h=>aV.to (aw (ip 3 rfl (Ev.s (jB (dd:=[di t.1,di t.2.1,di t.2.2]) (ag (ae 4 rfl) (ag (ae 5 rfl) (ag (ae 6 rfl) aj))) rfl (by show 3<=sizeLine;decide))) (by rw [List.length_map];omega))) ?_) (fun h=>aV.to kn ?_)),[4,5,6],rfl⟩
  ·have hn:¬ t.2.1=(c.length:Int):=of_decide_eq_false hp
   have hl:t.2.1.toNat<c.length:=by omega
   have hc:c[t.2.1.toNat]?=some (c.getD t.2.1.toNat 0):=by rw [List.getD_eq_getElem?_getD,List.getElem?_eq_getElem hl];rfl
   have hb:=c9 _ (List.mem_of_getElem? hc)
   have vC:av (c.map di) t.2.1=some (di (c.getD t.2.1.toNat 0)):=by
    rw [show t.2.1=((t.2.1.toNat:Nat):Int) by omega]
    exact e7 (by rw [List.getElem?_map,Int.toNat_natCast,hc];rfl)
   generalize c.getD t.2.1.toNat 0=cx at hb vC
   have sm:oO (cx,1):=⟨Int.one_pos,show (1:Int).natAbs<2 ^ 90 by decide,Nat.lt_of_le_of_lt (show cx.natAbs<=9 by omega) (by decide)⟩
   refine Et.to (eK (aQ NX (by show k+1<=k+4;omega) (ag (aQ Nq (Nat.le_refl _) (ag (ae 1 rfl) (ag (ae 5 rfl) aj)) ⟨W,c.length,A,S,t.2.1,w0,w1,b0,a6,t0,t1,rfl,rfl⟩) (ag (qq (ag (bu (ae 0 rfl) (ae 5 rfl) rfl vC) (ag ah aj)) (by show 2<=sizeLine;decide)) aj)) ⟨fW W (fi A S t.2.1),(cx,1),qG w0 w1 cb.1 cb.2,sm,rfl,rfl⟩)) ?_
   rw [show (cx,(1:Int))=fW W (cx*W) from (yJ cx).symm.trans (Hu w0),QS w0]
  ·rw [D2 _ ht,if_pos h]
   show Out.nx [_,_,_,some (Tr.ow _),_,_,_]=Out.nx [_,_,_,some (Tr.ow _),_,_,_]
   rw [List.map_append];rfl
  ·rw [D2 _ ht,if_neg (by rw [h];exact Bool.false_ne_true),List.append_nil];rfl
 ·rw [List.length_map,List.take_length]
  exact aw (i7 3 rfl)
abbrev nS:Stmt:=top 50
theorem Nr:bh ["_law_row"] ["_law_row"] (au nS):=⟨rfl,rfl,rfl,by decide +kernel,rfl,by decide +kernel,by decide +kernel⟩
def yl (dd:List Dv)(t:Tr):Prop:=∃ a b c:Int,dd=[dT [a,b,c]]/\t=tb true
theorem Nt {f f1:Addr} {fd aT:FuncData} {k:Nat} (F:bj K "_law_three" "_law_three" nS f fd) (T:Txt mg) (pJ:Kn P w K mg base ao (k+1) "_law_whole" f1 aT ["_law_found"] (spT K yk)):aR P w K mg base ao (k+2) f fd ["_law_row"] (spT K yl):=by
 refine bC F.d Nr (fun dd t h=>by obtain ⟨_,_,_,rfl,_⟩:=h;rfl) fun dd t h=>?_
 obtain ⟨a,b,c,rfl,rfl⟩:=h
 refine ⟨_,.inl rfl,?_⟩
 have a0:av [di a,di b,di c] 0=some (di a):=rfl
 have a1:av [di a,di b,di c] 1=some (di b):=rfl
 have a2:av [di a,di b,di c] 2=some (di c):=rfl
 refine ai (bO (Et.s (Ew.et (fE (gh (eK (gk T.fZ T.tP sT (ae 0 rfl) (by with_unfolding_all rfl)))) fun _=>(iu (lY (bq T.bb (ae 0 rfl) (.inr rfl)) ah))))) rfl) ?_
 exact aw (bS (Ev.s (Ev.to (lS (p:=true) (q:=true) (aQ pJ (Nat.le_refl _) (ag (aY (ae 0 rfl) ah rfl a0) aj) ⟨_,rfl,rfl⟩) fun _=>(Ev.to (lS (p:=true) (q:=true) (aQ pJ (Nat.le_refl _) (ag (aY (ae 0 rfl) ah rfl a1) aj) ⟨_,rfl,rfl⟩) fun _=>(lR (aQ pJ (Nat.le_refl _) (ag (aY (ae 0 rfl) ah rfl a2) aj) ⟨_,rfl,rfl⟩))) rfl)) rfl)))
end
end bM
namespace bM
open PySem L2 eY
section
variable {P:Program}{w:World}{K:PySem.W.Frag}{mg:Str->Option Value}{base:Heap}
def ym (R ts:List (Int×Int×Int)):Prop:=∃ (x:Int) (r:List Int),R.map (fun t=>t.2.1)=x::r/\R.map (fun t=>t.2.2)=r++[x]/\(x::r).Nodup/\r ≠ []/\R.length<=126/\∀ t ∈ R,t ∈ ts
theorem SA {R ts:List (Int×Int×Int)}(h:ym R ts){k:Nat}{t:Int×Int×Int}(hk:R[k]?=some t):∃ s,av (R.map fun t=>dT (l3 t)) ((k:Int)-1)=some (dT (l3 s))/\s.2.2=t.2.1:=by
 obtain ⟨x,r,h1,h2,_,_,_,_⟩:=h
 have e1:(x::r)[k]?=some t.2.1:=by rw [<- h1,List.getElem?_map,hk];rfl
 cases k with
 |zero =>
  rcases List.eq_nil_or_concat R with e | ⟨q,s,e⟩
  ·rw [e] at hk;cases hk
  ·refine ⟨s,?_,?_⟩
   ·rw [e,List.concat_eq_append,List.map_append]
    exact FO _ _
   ·rw [e,List.concat_eq_append,List.map_append] at h2
    have:=(List.append_inj' h2 rfl).2
    have h3:s.2.2=x:=by simpa using this
    have h4:x=t.2.1:=by simpa using e1
    rw [h3,h4]
 |succ k =>
  have kl:k+1<R.length:=(List.getElem?_eq_some_iff.mp hk).1
  have hs:R[k]?=some R[k]:=List.getElem?_eq_getElem (by omega)
  have e2:(r++[x])[k]?=some R[k].2.2:=by rw [<- h2,List.getElem?_map,hs];rfl
  have rl:R.length=r.length+1:=by have:=congrArg List.length h1;rw [List.length_map,List.length_cons] at this;exact this
  rw [List.getElem?_append_left (by omega)] at e2
  rw [List.getElem?_cons_succ,e2] at e1
  refine ⟨R[k],?_,Option.some.inj e1⟩
  rw [show (((k+1:Nat):Int)-1)=((k:Nat):Int) by omega]
  exact e7 (by rw [List.getElem?_map,hs];rfl)
abbrev nLR:List Str:=["_law_rows", "_law_wishes_here", "_law_row", "_law_k"]
abbrev nX:Stmt:=top 51
theorem wC:bh nLR ["_law_rows", "_law_wishes_here"] (au nX):=⟨rfl,rfl,rfl,by decide +kernel,rfl,by decide +kernel,by decide +kernel⟩
def HD (dd:List Dv)(t:Tr):Prop:=∃ (R ts:List (Int×Int×Int)),ym R ts/\dd=[bJ R,bJ ts]/\t=tb true
theorem NY {f f1:Addr} {fd aT:FuncData} {k:Nat} (F:bj K "_law_ring" "_law_ring" nX f fd) (T:Txt mg) (wD:Kn P w K mg base ao (k+2) "_law_three" f1 aT ["_law_row"] (spT K yl)):aR P w K mg base ao (k+3) f fd ["_law_rows", "_law_wishes_here"] (spT K HD):=by
 refine bC F.d wC (fun dd t h=>by obtain ⟨_,_,_,rfl,_⟩:=h;rfl) fun dd t h=>?_
 obtain ⟨R,ts,ok,rfl,rfl⟩:=h
 refine ⟨_,.inl rfl,?_⟩
 have big : 1000<sizeLine:=by decide
 have ok':=ok
 obtain ⟨x,r,h1,h2,nd,sx,rl,sub⟩:=ok'
 have rl2:R.length=r.length+1:=by have:=congrArg List.length h1;rw [List.length_map,List.length_cons] at this;exact this
 have r1 : 0<r.length:=List.length_pos_iff.mpr sx
 refine ai (bO (cU.to (q:=false) (Et.s (Ew.et (fE (gh (eK (gk T.fZ T.fv pZ (ae 0 rfl) (by with_unfolding_all rfl)))) fun _=>(iu (jG (bq T.bb (ae 0 rfl) (.inl rfl)) ah))))) (by
  rw [List.length_map,decide_eq_false (by omega)];rfl)) rfl) ?_
 refine ai (cY (aZ.s (cB (ae 0 rfl) rfl)) (bK 2 (fun _=>wC.nd)) (fun _=>[some (.fz (bJ R)),some (.fz (bJ ts)),none,none]) rfl (fun _=>rfl) (fun j d hd=>?_)) ?_
 ·obtain ⟨t,ht,rfl⟩:=e8 hd
  have tm:=sub t (List.mem_of_getElem? ht)
  refine ⟨_,_,rfl,aw (bO (cU.to (q:=false) (Et.s (Ew.et (fE (gh (eK (aQ wD (Nat.le_refl _) (ag (ae 2 rfl) aj) ⟨t.1,t.2.1,t.2.2,rfl,rfl⟩))) fun _=>(iu (PY (d:=l3 t) (ls:=ts.map l3) (ae 2 rfl) (ae 1 rfl) rfl (by rw [List.map_map];rfl) (by with_unfolding_all rfl)))))) ?_) rfl),[2],rfl⟩
  rw [List.contains_iff_mem.mpr (List.mem_map_of_mem tm)];rfl
 refine ai (cY (aZ.s (ft T.dJ (bq T.bb (ae 0 rfl) (.inl rfl)) ⟨by omega,by rw [List.length_map];omega⟩)) (bK 3 (fun _=>wC.nd)) (fun _=>[some (.fz (bJ R)),some (.fz (bJ ts)),none,none]) rfl (fun _=>rfl) (fun j d hd=>?_)) ?_
 ·obtain ⟨hj,rfl⟩:=i9 hd
  rw [List.length_map] at hj
  rw [Int.zero_add]
  obtain ⟨t,ht⟩:∃ t,R[j]?=some t:=⟨_,List.getElem?_eq_getElem (by omega)⟩
  obtain ⟨s,hs,es⟩:=SA ok ht
  have vC:av (R.map fun t=>dT (l3 t)) ((j:Nat):Int)=some (dT (l3 t)):=e7 (by rw [List.getElem?_map,ht];rfl)
  have a2:av ((l3 s).map di) 2=some (di s.2.2):=rfl
  have a1:av ((l3 t).map di) 1=some (di t.2.1):=rfl
  refine ⟨_,_,rfl,aw (bO (cU.to (q:=false) (Et.s (lY (aY (bu (ae 0 rfl) (tV (ae 3 rfl) ah) rfl hs) ah rfl a2) (aY (bu (ae 0 rfl) (ae 3 rfl) rfl vC) ah rfl a1))) ?_) rfl),[3],rfl⟩
  rw [decide_eq_true es];rfl
 refine aw (bS (Ev.s (Ev.to (Ig (DT T.bb T.yG (ns:=R.map fun t=>t.2.1) (jd (own:=["_law_row"]) (fr:=[]) R (fun t=>dT (l3 t)) (fun t=>ti t.2.1) (fun i=>lcs ⟨rfl,rfl,by decide +kernel,by decide +kernel,by decide +kernel,by decide +kernel⟩) (cB (ae 0 rfl) rfl) (bK 0 (fun _=>by show List.Nodup (["_law_row"]:List Str);decide)) (by decide) (by omega) (fun t ht=>⟨_,rfl,by
  have a1:av ((l3 t).map di) 1=some (di t.2.1):=rfl
  exact aY (ae 0 rfl) ah rfl a1⟩) (fun dd=>by cases dd<;>rfl)) (kx _ _) (by rw [List.length_map];omega)) (bq T.bb (ae 0 rfl) (.inl rfl))) ?_)))
 rw [Dp (by rw [h1];exact nd),List.length_map,List.length_map,decide_eq_true rfl]
theorem Oj (n:Nat):(aq n).Pairwise (· <= ·):=by
 unfold aq
 rw [List.pairwise_map]
 exact (List.pairwise_lt_range (n:=n)).imp fun h=>by omega
abbrev nLG:List Str:=["_law_order_here", "_law_many", "_law_wishes_here", "_law_asker", "_law_better", "_law_one"]
abbrev nY:Stmt:=top 52
theorem Dq:bh nLG ["_law_order_here", "_law_many", "_law_wishes_here"] (au nY):=⟨rfl,rfl,rfl,by decide +kernel,rfl,by decide +kernel,by decide +kernel⟩
def HE (dd:List Dv)(t:Tr):Prop:=∃ (o:List Int) (n:Nat) (ts:List (Int×Int×Int)),n<=6/\o.Perm (aq (n+1))/\(∀ t ∈ ts,kW o t.2.1 t.2.2)/\dd=[dis o,di n,bJ ts]/\t=tb true
theorem NZ {f f1:Addr} {fd aT:FuncData} {k:Nat} (F:bj K "_law_good" "_law_good" nY f fd) (T:Txt mg) (pJ:Kn P w K mg base ao (k+1) "_law_whole" f1 aT ["_law_found"] (spT K yk)):aR P w K mg base ao (k+2) f fd ["_law_order_here", "_law_many", "_law_wishes_here"] (spT K HE):=by
 refine bC F.d Dq (fun dd t h=>by obtain ⟨_,_,_,_,_,_,rfl,_⟩:=h;rfl) fun dd t h=>?_
 obtain ⟨o,n,ts,n6,pm,bf,rfl,rfl⟩:=h
 refine ⟨_,.inl rfl,?_⟩
 have big : 1000<sizeLine:=by decide
 have ol:o.length=n+1:=by rw [pm.length_eq];unfold aq;rw [List.length_map,List.length_range]
 have nd:o.Nodup:=pm.nodup_iff.mpr (sM _)
 have UJ:sortI o=aq (n+1):=Du ((sortI_perm o).trans pm) (Ej o) (Oj _)
 refine ai (bO (cU.to (q:=false) (Et.s (Ew.et (fE (gh (eK (gk T.fZ T.fv pZ (ae 0 rfl) (by with_unfolding_all rfl)))) fun _=>(iu (lY (bq T.bb (lV (own:=["_law_one"]) (fr:=[]) o di (fun _=>true) ti (fun i=>lcs ⟨rfl,rfl,by decide +kernel,by decide +kernel,by decide +kernel,by decide +kernel⟩) (cB (ae 0 rfl) rfl) (bK 0 (fun _=>by show List.Nodup (["_law_one"]:List Str);decide)) (by decide) (by omega) (fun x hx=>⟨_,rfl,by exact iw (eK (aQ pJ (Nat.le_refl _) (ag (ae 0 rfl) aj) ⟨x,rfl,rfl⟩)),fun _=>by exact ae 0 rfl⟩) (fun dd=>by cases dd<;>rfl)) (.inl (kx _ _))) (bq T.bb (ae 0 rfl) (.inl rfl))))))) ?_) rfl) ?_
 ·rw [List.length_map,List.length_map,List.length_map,List.filter_eq_self.mpr (fun _ _=>rfl),decide_eq_true rfl];rfl
 have e1:er (ax (sortI o))=dis (sortI o):=cg _
 have e2:er (Tr.ow (((List.range ((n:Int)+1).toNat).map fun i=>(0+((i:Nat):Int))).map fun n=>Tr.fz (di n)))=dis (aq (n+1)):=by rw [kx,List.map_id',show ((n:Int)+1).toNat=n+1 by omega];rfl
 refine ai (bO (Et.s (fO (Pz T.xv (ae 0 rfl) rfl (by omega)) (sJ T.fv T.dJ (d9 (ae 1 rfl) ah) (by omega) (by omega)) (.inl ⟨_,_,rfl,rfl⟩) ?_)) ?_) ?_
 ·rw [e1];exact Nat.le_trans (ko _) (by decide)
 ·rw [e1,e2,UJ,sW (xH _)];rfl
 refine ai (cY (aZ.s (cB (ae 2 rfl) rfl)) (x6 3 4 5 (fun _=>Dq.nd)) (fun _=>[some (.fz (dis o)),some (ti n),some (.fz (bJ ts)),none,none,none]) rfl (fun _=>rfl) (fun j d hd=>?_)) (aw (bS (Ev.s Ui)))
 obtain ⟨t,ht,rfl⟩:=e8 hd
 obtain ⟨m1,m2,lt⟩:=(Su nd).mp (bf t (List.mem_of_getElem? ht))
 refine ⟨_,_,rfl,aw (bO (cU.to (q:=false) (Et.s (jH (xo (ae 0 rfl) rfl (ae 4 rfl) m1) (xo (ae 0 rfl) rfl (ae 5 rfl) m2))) ?_) rfl),[3,4,5],rfl⟩
 exact decide_eq_false (by omega)
end
end bM
namespace bM
open PySem L2 eY
section
variable {P:Program}{w:World}{K:PySem.W.Frag}{mg:Str->Option Value}{base:Heap}
theorem TX {W:Int}{c:List Int}{A:Nat}{S:Nat->List Int}(cl:∀ j:Nat,j<c.length->fi A S (j:Int)<=c.getD j 0*W){t:Int×Int×Int}(t0 : 0<=t.2.1)(t1:t.2.1<=c.length):ig W c A S t = !(kZ W c A S).contains t.2.1:=by
 have hc:(kZ W c A S).contains t.2.1=decide (t.2.1.toNat<c.length/\fi A S t.2.1=c.getD t.2.1.toNat 0*W):=by
  rw [Bool.eq_iff_iff,List.contains_iff_mem,decide_eq_true_iff]
  unfold kZ
  rw [List.mem_map]
  constructor
  ·rintro ⟨j,hj,e⟩
   obtain ⟨h1,h2⟩:=List.mem_filter.mp hj
   have h2:=of_decide_eq_true h2
   rw [<- e,Int.toNat_natCast]
   exact ⟨List.mem_range.mp h1,h2⟩
  ·rintro ⟨h1,h2⟩
   refine ⟨t.2.1.toNat,List.mem_filter.mpr ⟨List.mem_range.mpr h1,?_⟩,by omega⟩
   rw [show ((t.2.1.toNat:Nat):Int)=t.2.1 by omega]
   exact decide_eq_true h2
 rw [hc]
 unfold ig
 by_cases h:t.2.1=(c.length:Int)
 ·rw [decide_eq_true h,decide_eq_false (show ¬ (t.2.1.toNat<c.length/\_) from fun z=>by have:=z.1;omega)];rfl
 ·have:=cl t.2.1.toNat (by omega)
  rw [show ((t.2.1.toNat:Nat):Int)=t.2.1 by omega] at this
  rw [decide_eq_false h,Bool.false_or]
  by_cases e:fi A S t.2.1=c.getD t.2.1.toNat 0*W
  ·rw [decide_eq_true (show t.2.1.toNat<c.length/\_ from ⟨by omega,e⟩),decide_eq_false (by omega)];rfl
  ·rw [decide_eq_false (show ¬ (t.2.1.toNat<c.length/\_) from fun z=>e z.2),decide_eq_true (by omega)];rfl
theorem SD {W:Int}{c:List Int}{os:List (List Int)}{S:Nat->List Int}(ok:eu c os)(cl:∀ j:Nat,j<c.length->fi os.length S (j:Int)<=c.getD j 0*W):(i3 W c os S).Perm ((bz c.length os S os.length).filter (ig W c os.length S)):=by
 have p:=(qk c.length os S).filter (ig W c os.length S)
 refine (List.Perm.of_eq ?_).trans p
 unfold i3
 exact List.filter_congr fun t ht=>by
  have hi:=oZ ok ((qk _ _ _).mem_iff.mp ht)
  exact (TX cl hi.1 hi.2.1).symm
theorem QT {W:Int}{c:List Int}{os:List (List Int)}{S:Nat->List Int}{t:Int×Int×Int}{l:List (Int×Int×Int)}(h:i3 W c os S=t::l):∀ s ∈ i3 W c os S,fm (l3 t) (l3 s):=by
 have pw:((i3 W c os S).map l3).Pairwise fm:=(UH c.length os S).sublist (List.filter_sublist.map l3)
 rw [h,List.map_cons,List.pairwise_cons] at pw
 intro s hs
 rw [h] at hs
 rcases List.mem_cons.mp hs with e | hs
 ·rw [e];exact So.oB _
 ·exact pw.1 _ (List.mem_map_of_mem hs)
theorem TY {rest:List Int}{ts:List (Int×Int×Int)}{p:List Int}{x:Int}(P:j9 rest ts p x)(m:Nat):(p.drop m).map (fun y=>(cm rest ts y).2.1)=(p++[x]).drop (m+1):=by
 refine List.ext_getElem? fun i=>?_
 rw [List.getElem?_map,List.getElem?_drop,List.getElem?_drop]
 rcases Nat.lt_or_ge (m+i) p.length with h | h
 ·have e1:p[m+i]?=some p[m+i]:=List.getElem?_eq_getElem h
  have l2:m+1+i<(p++[x]).length:=by rw [List.length_append,List.length_singleton];omega
  have e2:(p++[x])[m+1+i]?=some (p++[x])[m+1+i]:=List.getElem?_eq_getElem l2
  have:=P.Lk (m+i) _ _ e1 (by rw [show m+i+1=m+1+i by omega];exact e2)
  rw [e1,e2,<- this];rfl
 ·rw [List.getElem?_eq_none h,List.getElem?_eq_none (by rw [List.length_append,List.length_singleton];omega)];rfl
theorem SE {c:List Int}{os:List (List Int)}{S:Nat->List Int}(ok:eu c os){rest:List Int}(hH:pC rest (dI c.length os S))(sx:rest ≠ [])(r7:rest.length<=7):ym (jt rest (dI c.length os S)) (bz c.length os S os.length):=by
 have AO:rest.headD 0 ∈ rest:=by
  cases rest with
  |nil=>exact absurd rfl sx
  |cons a l=>exact List.mem_cons_self ..
 obtain ⟨p,x,P,hc,e⟩:=Ht hH (rest.length+1) [] (rest.headD 0) ⟨.nil,(fun y h=>nomatch h),AO,fun i y z h=>by cases h⟩ (by show rest.length<rest.length+1+0;omega)
 have e:jt rest (dI c.length os S)=((p.drop (p.idxOf x)).map (cm rest (dI c.length os S))).reverse:=e
 generalize hts:dI c.length os S=ts at hH P e
 have xm:x ∈ p:=List.contains_iff_mem.mp hc
 have il:=List.idxOf_lt_length_iff.mpr xm
 have pl:=P.len
 have eq:p.drop (p.idxOf x)=x::p.drop (p.idxOf x+1):=by rw [List.drop_eq_getElem_cons il,List.getElem_idxOf il]
 have sub:∀ y ∈ p.drop (p.idxOf x),y ∈ rest:=fun y hy=>P.sub y (List.mem_of_mem_drop hy)
 have nx:=TY P (p.idxOf x)
 rw [List.drop_append_of_le_length (by omega)] at nx
 have nd:(p.drop (p.idxOf x)).Nodup:=P.nd.sublist (List.drop_sublist _ _)
 have same:(p.drop (p.idxOf x)).map (fun y=>(cm rest ts y).2.2)=p.drop (p.idxOf x):=(List.map_congr_left (g:=id) fun y hy=>(ur hH (sub y hy)).2.2.1).trans (List.map_id _)
 have ql:(p.drop (p.idxOf x)).length<=7:=by rw [List.length_drop];omega
 have mem:∀ y ∈ p.drop (p.idxOf x),cm rest ts y ∈ bz c.length os S os.length:=fun y hy=>by
  have:=(ur hH (sub y hy)).1
  rw [<- hts] at this ⊢
  exact (qk _ _ _).mem_iff.mp this
 generalize p.drop (p.idxOf x+1)=q' at eq nx
 rw [e]
 rw [eq] at nx nd same ql mem sub ⊢
 refine ⟨x,q'.reverse,?_,?_,?_,?_,?_,?_⟩
 ·rw [List.map_reverse,List.map_map]
  show ((x::q').map fun y=>(cm rest ts y).2.1).reverse=_
  rw [nx,List.reverse_append];rfl
 ·rw [List.map_reverse,List.map_map]
  show ((x::q').map fun y=>(cm rest ts y).2.2).reverse=_
  rw [same,List.reverse_cons]
 ·exact (List.Perm.cons x (List.reverse_perm q')).nodup_iff.mpr nd
 ·intro z
  have z:q'=[]:=List.reverse_eq_nil_iff.mp z
  subst z
  have h1:(cm rest ts x).2.1=x:=by simpa using nx
  have h2:(cm rest ts x).2.2=x:=by simpa using same
  exact (oZ ok (mem x (.head _))).2.2.2.2 (h1.trans h2.symm)
 ·rw [List.length_reverse,List.length_map];omega
 ·intro t ht
  obtain ⟨y,hy,rfl⟩:=List.mem_map.mp (List.mem_reverse.mp ht)
  exact mem y hy
theorem SF {c:List Int}{os:List (List Int)}{S:Nat->List Int}(ok:eu c os)(h:cW (bN c os S) (c.length+1)=[]):(cL (bN c os S) (c.length+1)).Perm (aq (c.length+1))/\∀ t ∈ bz c.length os S os.length,kW (cL (bN c os S) (c.length+1)) t.2.1 t.2.2:=by
 obtain ⟨h1,h2⟩:=TR h
 refine ⟨h1,fun t ht=>?_⟩
 have hi:=oZ ok ht
 have c6:=ok.c6
 have mp:(t.2.1.toNat,t.2.2.toNat) ∈ bN c os S:=List.mem_filter.mpr ⟨Ey.mpr ⟨by show t.2.1.toNat<=6;omega,by show t.2.2.toNat<=6;omega⟩,List.contains_iff_mem.mpr (List.mem_map.mpr ⟨t,ht,rfl⟩)⟩
 have nm:∀ y:Nat,y<c.length+1->(y:Int) ∈ aq (c.length+1):=fun y hy=>List.mem_map.mpr ⟨y,List.mem_range.mpr hy,by omega⟩
 have:=h2 _ mp (nm _ (by show t.2.1.toNat<_;omega)) (nm _ (by show t.2.2.toNat<_;omega))
 rw [show (((t.2.1.toNat,t.2.2.toNat).1:Nat):Int)=t.2.1 by show ((t.2.1.toNat:Nat):Int)=_;omega,show (((t.2.1.toNat,t.2.2.toNat).2:Nat):Int)=t.2.2 by show ((t.2.2.toNat:Nat):Int)=_;omega] at this
 exact this
theorem HF {ι:Type}{F:aO ι}{a b:Expr}{ρ:En}{pos:Pos}{u v:V}(ha:Ev F a ρ (.fz (.fl u)))(hb:Ev F b ρ (.fz (.fl v)))(hs:qL u v=true):Ev F (.Compare a [.Eq] [b] pos) ρ (tb (decide (u=v))) :=
 oG (fun _=>ud) ha hb (fun G H x y Q s hx hy k=>by rw [aB hx,aB hy];exact ⟨hs,k⟩) (fN _)
abbrev Vo:List Str:=["_law_found", "_law_counts_here", "_law_shares", "_law_wishes_here", "_law_left_here"]
abbrev nT:Stmt:=top 53
theorem Dm:bh Vo ["_law_found", "_law_counts_here", "_law_shares", "_law_wishes_here"] (au nT):=⟨rfl,rfl,rfl,by decide +kernel,rfl,by decide +kernel,by decide +kernel⟩
def HG (dd:List Dv)(t:Tr):Prop:=∃ (c:List Int) (os:List (List Int)) (W:Int) (S:Nat->List Int),eu c os/\0<W/\W<2 ^ 70/\(∀ a,a<os.length->gq W c.length (S a))/\(∀ j:Nat,j<c.length->fi os.length S (j:Int)<=c.getD j 0*W)/\dd=[er (mF W c os S),dis c,dc W os.length S,bJ (bz c.length os S os.length)]/\t=tb true
theorem Nu {f f1 f2 f3 f4:Addr} {fd aT fd2 j8 sy:FuncData} {k:Nat} (F:bj K "_law_right" "_law_right" nT f fd) (T:Txt mg) (Ol:Kn P w K mg base ao (k+5) "_law_left" f1 aT ["_law_counts_here", "_law_shares", "_law_wishes_here"] (spT K IH)) (wD:Kn P w K mg base ao (k+2) "_law_three" f2 fd2 ["_law_row"] (spT K yl)) (Om:Kn P w K mg base ao (k+3) "_law_ring" f3 j8 ["_law_rows", "_law_wishes_here"] (spT K HD)) (Oo:Kn P w K mg base ao (k+2) "_law_good" f4 sy ["_law_order_here", "_law_many", "_law_wishes_here"] (spT K HE)):aR P w K mg base ao (k+6) f fd ["_law_found", "_law_counts_here", "_law_shares", "_law_wishes_here"] (spT K HG):=by
 refine bC F.d Dm (fun dd t h=>by obtain ⟨_,_,_,_,_,_,_,_,_,rfl,_⟩:=h;rfl) fun dd t h=>?_
 obtain ⟨c,os,W,S,ok,w0,w1,b0,cl,rfl,rfl⟩:=h
 refine ⟨_,.inl rfl,?_⟩
 have big : 1000<sizeLine:=by decide
 have o6:=ok.o6
 have c6:=ok.c6
 have fl:∀ o ∈ os,(aM c.length o).length<=7:=fun o ho=>(oW c6 (ok.nd o ho) (ok.ck o ho)).1
 have wl:=lJ S fl os.length (Nat.le_refl _)
 have lp:=SD ok cl
 have pD:∀ l:List (Int×Int×Int),cF (bJ l)<=50:=fun l=>Nat.le_trans (qa (n:=1) fun d hd=>by
  obtain ⟨t,_,rfl⟩:=List.mem_map.mp hd
  exact t6 _) (by decide)
 refine ai (aH 4 (Ev.s (Ev.as (d:=bJ ((bz c.length os S os.length).filter (ig W c os.length S))) (aQ Ol (Nat.le_refl _) (ag (ae 1 rfl) (ag (ae 2 rfl) (ag (ae 3 rfl) aj))) ⟨c,W,os.length,S,bz c.length os S os.length,c6,ok.cnt,w0,w1,b0,o6,by omega,fun t ht=>⟨(oZ ok ht).1,(oZ ok ht).2.1⟩,rfl,rfl⟩) (t9 _))) (fun _=>Dm.nd)) ?_
 generalize Lr:(bz c.length os S os.length).filter (ig W c os.length S)=lf at lp
 generalize hJ:er (mF W c os S)=J
 unfold mF at hJ
 cases hl:i3 W c os S with
 |cons t l =>
  rw [hl] at hJ
  dsimp only at hJ
  have hJ:J=.tup [ds "left",di t.1,di t.2.1,di t.2.2]:=hJ.symm
  subst hJ
  have a0:av [ds "left",di t.1,di t.2.1,di t.2.2] 0=some (ds "left"):=rfl
  refine ai (bO (Et.s (Ew.et (fE (gh (eK (gk T.fZ T.tP sT (ae 0 rfl) (by with_unfolding_all rfl)))) fun _=>(fE (jG (bq T.bb (ae 0 rfl) (.inr rfl)) ah) fun _=>(iu (gh (eK (gk T.fZ T.yI xZ (aY (ae 0 rfl) ah rfl a0) (by with_unfolding_all rfl))))))))) rfl) ?_
  have tm:t ∈ lf:=lp.mem_iff.mp (by rw [hl];exact List.mem_cons_self ..)
  have least:l3 t ∈ lf.map l3/\∀ d ∈ lf.map l3,fm (l3 t) d:=⟨List.mem_map_of_mem tm,fun d hd=>by
   obtain ⟨s,hs,rfl⟩:=List.mem_map.mp hd
   exact QT hl s (lp.mem_iff.mpr hs)⟩
  have eI:(!bL (bJ lf) (.lst []))=true:=by
   cases h:lf with
   |nil=>rw [h] at tm;cases tm
   |cons _ _=>rfl
  have hw:¬ (HT.aK [ds "left",di t.1,di t.2.1,di t.2.2].length 0 (some 1)=0/\HT.aK [ds "left",di t.1,di t.2.1,di t.2.2].length [ds "left",di t.1,di t.2.1,di t.2.2].length none=[ds "left",di t.1,di t.2.1,di t.2.2].length):=fun z=>absurd (show (1:Nat)=0 from z.1) (by decide)
  have zE:cutD [ds "left",di t.1,di t.2.1,di t.2.2] (some 1) none=[di t.1,di t.2.1,di t.2.2]:=rfl
  refine p8 (fP (Et.s (fO (ae 4 rfl) (bT aj (Nat.zero_le _)) (.inl ⟨_,_,rfl,rfl⟩) (pD _))) eI (aw (bS (Ev.s (Ev.to (lS (p:=true) (q:=true) (Ev.to (HF (u:=.str "left") (v:=.str "left") (aY (ae 0 rfl) ah rfl a0) jE rfl) (by rw [decide_eq_true rfl])) fun _=>(Ev.to (lS (p:=true) (q:=true) (aQ wD (by show k+2<=k+5;omega) (ag (D0 (ae 0 rfl) rfl (lN ah) p7 hw) aj) ⟨t.1,t.2.1,t.2.2,by rw [zE];rfl,rfl⟩) fun _=>(lR (Ev.to (Tp (D0 (ae 0 rfl) rfl (lN ah) p7 hw) (Sh (m:=l3 t) (ds:=lf.map l3) T.UD (ae 4 rfl) (by rw [List.map_map];rfl) least) (.inr ⟨_,_,rfl,rfl⟩) ?_) ?_))) rfl)) rfl)))))
  ·rw [zE];exact Nat.le_trans (t6 (l3 t)) (by decide)
  ·rw [zE]
   show tb (bL (dT (l3 t)) (dT (l3 t)))=tb true
   rw [yf,decide_eq_true rfl]
 |nil =>
  rw [hl] at hJ lp
  dsimp only at hJ
  have Lr:lf=[]:=List.nil_perm.mp lp
  subst Lr
  by_cases hr:cW (bN c os S) (c.length+1)=[]
  ·rw [if_pos hr] at hJ
   have hJ:J=.tup [ds "good",dis (cL (bN c os S) (c.length+1))]:=by rw [<- hJ,<- cg];rfl
   subst hJ
   have a0:av [ds "good",dis (cL (bN c os S) (c.length+1))] 0=some (ds "good"):=rfl
   have a1:av [ds "good",dis (cL (bN c os S) (c.length+1))] 1=some (dis (cL (bN c os S) (c.length+1))):=rfl
   obtain ⟨g1,g2⟩:=SF ok hr
   refine ai (bO (Et.s (Ew.et (fE (gh (eK (gk T.fZ T.tP sT (ae 0 rfl) (by with_unfolding_all rfl)))) fun _=>(fE (jG (bq T.bb (ae 0 rfl) (.inr rfl)) ah) fun _=>(iu (gh (eK (gk T.fZ T.yI xZ (aY (ae 0 rfl) ah rfl a0) (by with_unfolding_all rfl))))))))) rfl) ?_
   refine ai (bO (Et.s (fO (ae 4 rfl) (bT aj (Nat.zero_le _)) (.inl ⟨_,_,rfl,rfl⟩) (pD _))) rfl) ?_
   refine ai (bO (Et.s (lY (bq T.bb (ae 0 rfl) (.inr rfl)) ah)) rfl) ?_
   refine ai (bO (Et.s (GK (u:=.str "good") (v:=.str "ring") (aY (ae 0 rfl) ah rfl a0) jE rfl)) (by decide +kernel)) ?_
   exact aw (bS (Ev.s (Ev.to (lS (p:=true) (q:=true) (Ev.to (HF (u:=.str "good") (v:=.str "good") (aY (ae 0 rfl) ah rfl a0) jE rfl) (by rw [decide_eq_true rfl])) fun _=>(lR (aQ Oo (by show k+2<=k+5;omega) (ag (aY (ae 0 rfl) ah rfl a1) (ag (bq T.bb (ae 1 rfl) (.inl rfl)) (ag (ae 3 rfl) aj))) ⟨_,c.length,_,c6,g1,g2,by rw [List.length_map];rfl,rfl⟩))) rfl)))
  ·rw [if_neg hr] at hJ
   have hJ:J=.tup [ds "ring",bJ (jt (cW (bN c os S) (c.length+1)) (dI c.length os S))]:=by rw [<- hJ,<- t9];rfl
   have rl:(cW (bN c os S) (c.length+1)).length<=7:=Nat.le_trans (List.length_filter_le _ _) (by rw [show (aq (c.length+1)).length=c.length+1 by unfold aq;rw [List.length_map,List.length_range]];omega)
   have ro:=SE ok (Hx (S:=S) ok) hr rl
   generalize jt (cW (bN c os S) (c.length+1)) (dI c.length os S)=R at hJ ro
   subst hJ
   have a0:av [ds "ring",bJ R] 0=some (ds "ring"):=rfl
   have a1:av [ds "ring",bJ R] 1=some (bJ R):=rfl
   refine ai (bO (Et.s (Ew.et (fE (gh (eK (gk T.fZ T.tP sT (ae 0 rfl) (by with_unfolding_all rfl)))) fun _=>(fE (jG (bq T.bb (ae 0 rfl) (.inr rfl)) ah) fun _=>(iu (gh (eK (gk T.fZ T.yI xZ (aY (ae 0 rfl) ah rfl a0) (by with_unfolding_all rfl))))))))) rfl) ?_
   refine ai (bO (Et.s (fO (ae 4 rfl) (bT aj (Nat.zero_le _)) (.inl ⟨_,_,rfl,rfl⟩) (pD _))) rfl) ?_
   refine ai (bO (Et.s (lY (bq T.bb (ae 0 rfl) (.inr rfl)) ah)) rfl) ?_
   exact p8 (fP (Et.s (GK (u:=.str "ring") (v:=.str "ring") (aY (ae 0 rfl) ah rfl a0) jE rfl)) (decide_eq_true rfl) (aw (bS (Ev.s (aQ Om (by show k+3<=k+5;omega) (ag (aY (ae 0 rfl) ah rfl a1) (ag (ae 3 rfl) aj)) ⟨R,_,ro,rfl,rfl⟩)))))
end
end bM
namespace bM
open PySem L2 eY
section
variable {P:Program}{w:World}{K:PySem.W.Frag}{mg:Str->Option Value}{base:Heap}
theorem QU (W:Int)(bX:List Int):er (gu W bX)=dC W bX:=by
 unfold gu dC
 rw [fu,List.map_map];rfl
theorem SG (W:Int)(r:List Int):fL (dC W r)=true:=xI TK _
theorem SH (W:Int)(r:List Int):cF (dC W r)<=2:=qa fun d hd=>by
 obtain ⟨p,_,rfl⟩:=List.mem_map.mp hd
 exact yh p
theorem HH {K:PySem.W.Frag}{G H:Hp}:∀ {dd:List Dv} {vs:List V} {f:List Addr},aE K G H (dd.map Tr.fz) vs f->f=[]
 |[],_,_,h=>h.2
 |d::dd,_,_,⟨v,r,f1,f2,h1,h2,h3,h4⟩=>by
  have e2:=HH (dd:=dd) h4
  rw [h2,e2,List.append_nil]
  exact h3.1
theorem FT {ι:Type}{F:aO ι}{ρ:En}{st:Stmt}(j:Nat){s:Str}{dd:List Dv}(h : ρ[j]?=some (some (.tp [tx s,.ow (dd.map Tr.fz)])))
  (hps:∀ i,PS (F.cx i) st (kB (I0 F.K "list" Gk (jk (uz F.K) (eQ j) (tC (.int 1)))))):Rn F st ρ (.nx (ρ.set j (some (.tp [tx s,.ow []])))):=by
 refine ⟨_,hps,fun D σ G0 H0 G H r k=>?_⟩
 obtain ⟨fp,r⟩:=r
 obtain ⟨v,f,s1,o1,nd,sw⟩:=r.Uw h
 obtain ⟨p,vs,fx,rfl,hp,ol,rfl⟩:=o1
 obtain ⟨va,r1,fa,fa',rfl,rfl,oa,ol⟩:=ol
 obtain ⟨vb,r2,fb,fb',rfl,rfl,ob,ol⟩:=ol
 obtain ⟨rfl,rfl⟩:=ol
 obtain ⟨b,ys,fy,rfl,hb,ob,rfl⟩:=ob
 have e:=HH ob
 subst e
 have ea:fa=[]:=oa.1
 subst ea
 have pb:p ≠ b:=fun z=>(List.nodup_cons.mp nd).1 (by rw [z];exact List.mem_cons_self ..)
 refine ⟨_,s1,p,_,1,.ref b,rfl,rfl,bY.of hp,rfl,.inl ⟨rfl,_,aN.of hb⟩,b,_,rfl,rfl,hb,?_⟩
 exact k σ G _ (sw _ _ (.upd (.tail _ (.head _))) ⟨p,_,_,rfl,by rw [bF pb];exact hp,⟨va,_,[],[b],rfl,rfl,⟨rfl,oa.2⟩,.ref b,[],[b],[],rfl,rfl,⟨b,[],[],rfl,d8,⟨rfl,rfl⟩,rfl⟩,rfl,rfl⟩,rfl⟩)
abbrev AU:List Str:=["_law_script", "_law_counts_here", "_law_orders_here", "_law_cells", "_law_shares", "_law_table", "_law_wishes_here", "_law_handed", "_law_found"]
abbrev gv:Stmt:=top 54
theorem jF:bh AU ["_law_script"] (au gv):=⟨rfl,rfl,rfl,by decide +kernel,rfl,by decide +kernel,by decide +kernel⟩
theorem TZ {f f1 f2 f3 f4 f5 f6 f7:Addr} {fd aT fd2 j8 sy AQ fd6 fd7:FuncData} {k:Nat} (F:bj K "law" "law" gv f fd) (T:Txt mg) (ny:Kn P w K mg base ao (k+1) "_law_cell_at" f1 aT ["_law_script", "_law_k"] (spT K yK)) (Nv:Kn P w K mg base ao (k+4) "_law_tabled" f2 fd2 ["_law_script"] (spT K FJ))
  (N0:Kn P w K mg base ao (k+3) "_law_drawn" f3 j8 ["_law_cells", "_law_counts_here", "_law_orders_here"] (spT K Hn)) (O5:Kn P w K mg base ao (k+2) "table_of" f4 sy ["counts", "orders"] (spT K Jr)) (Nx:Kn P w K mg base ao (k+2) "_law_wishes" f5 AQ ["_law_counts_here", "_law_orders_here", "_law_shares"] (spT K HC))
  (EK:Kn P w K mg base ao (k+7) "judged" f6 fd6 ["table", "shares"] (spT K Jt)) (Dr:Kn P w K mg base ao (k+6) "_law_right" f7 fd7 ["_law_found", "_law_counts_here", "_law_shares", "_law_wishes_here"] (spT K HG)):aR P w K mg base ao (k+8) f fd ["_law_script"] (spT K Ji):=by
 refine bC F.d jF (fun dd t h=>by obtain ⟨_,_,rfl,_⟩:=h;rfl) fun dd t h=>?_
 obtain ⟨ns,iP,rfl,rfl⟩:=h
 refine ⟨_,.inl rfl,?_⟩
 have big : 1000<sizeLine:=by decide
 have r1:k+1<=k+7:=by omega
 have r2:k+2<=k+7:=by omega
 have r3:k+3<=k+7:=by omega
 have r4:k+4<=k+7:=by omega
 have r6:k+6<=k+7:=by omega
 have ok:=P4 ns
 refine ai (Rr (Ev.s (aQ Nv r4 (ag (ae 0 rfl) aj) ⟨ns,rfl,rfl⟩)) (kv 1 2 (fun _=>jF.nd)) rfl) ?_
 generalize qX ns=cs at ok
 generalize qY ns=os at ok
 have o6:=ok.o6
 have o1:=ok.o1
 have c6:=ok.c6
 show aV _ _ [some (.fz (dis ns)),some (.fz (dis cs)),some (.fz (.lst (os.map dis))),none,none,none,none,none,none] _
 have e28:er (.ow ((cutD (ns.map di) (some 9) (some 15)).map .fz))=dis (cutD ns (some 9) (some 15)):=by rw [lU,sV]
 have sC:(cutD ns (some 9) (some 15)).length<=6:=by
  have:=Qw ns 9 15
  rw [show ((9:Nat):Int)=9 from rfl,show ((15:Nat):Int)=15 from rfl] at this
  rw [this,List.length_take,List.length_drop];omega
 refine ai (aH 3 (Ev.s (Ev.as (d:=dis (cutD ns (some 9) (some 15))) (sU (ae 0 rfl) rfl (lN ah) (lN ah)) e28)) (fun _=>jF.nd)) ?_
 generalize cutD ns (some 9) (some 15)=gN at sC
 show aV _ _ [some (.fz (dis ns)),some (.fz (dis cs)),some (.fz (.lst (os.map dis))),some (.fz (dis gN)),none,none,none,none,none] _
 have Ju:cF (er (.fz (dis gN)))<=50:=Nat.le_trans (ko gN) (by decide)
 obtain ⟨cells,c1,c6',T1⟩:∃ cells:List Int,1<=cells.length/\cells.length<=6/\Rn (uD P w K mg base AU "law" (au gv) f (k+7)) ((aP gv).getD 2 (.Pass ⟨0,0,0,0⟩)) [some (.fz (dis ns)),some (.fz (dis cs)),some (.fz (.lst (os.map dis))),some (.fz (dis gN)),none,none,none,none,none] (.nx [some (.fz (dis ns)),some (.fz (dis cs)),some (.fz (.lst (os.map dis))),some (.fz (dis cells)),none,none,none,none,none]):=by
  cases hq:gN.isEmpty with
  |true =>
   refine ⟨[cD ns 8],Nat.le_refl _,by show 1<=6;decide,fP (Et.s (x4 (ae 3 rfl) (bT aj (Nat.zero_le _)) (.inl ⟨_,_,rfl,rfl⟩) Ju)) ?_ (aw (aH 3 (Ev.s (Ev.as (d:=dis [cD ns 8]) (bT (ag (aQ ny r1 (ag (ae 0 rfl) (ag ah aj)) ⟨ns,8,by decide,rfl,rfl⟩) aj) (by show 1<=sizeLine;decide)) rfl)) (fun _=>jF.nd)))⟩
   show bL (.lst (gN.map di)) (.lst [])=true
   rw [eq_nil,hq]
  |false =>
   refine ⟨gN,?_,by omega,bO (Et.s (x4 (ae 3 rfl) (bT aj (Nat.zero_le _)) (.inl ⟨_,_,rfl,rfl⟩) Ju)) ?_⟩
   ·cases gN with
    |nil=>cases hq
    |cons _ _=>rw [List.length_cons];omega
   ·show bL (.lst (gN.map di)) (.lst [])=false
    rw [eq_nil,hq]
 refine ai T1 ?_
 obtain ⟨W,eW⟩:∃ W,bH cells=W:=⟨_,rfl⟩
 obtain ⟨S,hS⟩:∃ S:Nat->List Int,S=fun a:Nat=>cR cells cs os (0+(a:Int)):=⟨_,rfl⟩
 have b0:∀ a,a<os.length->gq W cs.length (S a):=fun a _=>by
  rw [hS,<- eW]
  exact TL c1 (by omega)
 have w0 : 0<W:=by rw [<- eW];exact xx c1
 have w1:W<2 ^ 70:=by
  have:=(qh cells).2
  rw [eW] at this
  have:(cells.length:Int)*10 ^ 9<=6*10 ^ 9:=Int.mul_le_mul_of_nonneg_right (by omega) (by decide)
  omega
 have cl:∀ j:Nat,j<cs.length->fi os.length S (j:Int)<=cs.getD j 0*W:=fun j hj=>by
  have:=Hz ok hj cells
  rw [<- eW,hS]
  refine Int.le_trans (Int.le_of_eq ?_) this
  unfold fi
  congr 1
  exact List.map_congr_left fun a _=>Sy (by omega)
 have Vp:er (.ow ((aq os.length).map fun a=>gu (bH cells) (cR cells cs os a)))=.lst ((List.range os.length).map fun a=>dC W (S a)):=by
  rw [fu,eW,hS]
  unfold aq
  rw [List.map_map]
  congr 1
  exact List.map_congr_left fun a _=>QU _ _
 refine ai (aH 4 (Ev.s (Ev.as (d:=.lst ((List.range os.length).map fun a=>dC W (S a))) (aQ N0 r3 (ag (ae 3 rfl) (ag (ae 1 rfl) (ag (ae 2 rfl) aj))) ⟨cells,cs,os,c1,by omega,ok,rfl,rfl⟩) Vp)) (fun _=>jF.nd)) ?_
 have Vq:er (.tp [ax cs,fF os])=e9 cs os:=by
  show Dv.tup [er _,er _]=_
  rw [cg,ke];rfl
 refine ai (aH 5 (Ev.s (Ev.as (d:=e9 cs os) (aQ O5 r2 (ag (km T.fv (ae 1 rfl) (.inl rfl)) (ag (jd (own:=["_law_order_here"]) (fr:=[]) os dis ax (fun i=>lcs ⟨rfl,rfl,by decide +kernel,by decide +kernel,by decide +kernel,by decide +kernel⟩) (cB (ae 2 rfl) rfl) (bK 0 (fun _=>by show List.Nodup (["_law_order_here"]:List Str);decide)) (by decide) (by omega) (fun o ho=>⟨_,rfl,by exact Ev.to (km T.fv (ae 0 rfl) (.inl rfl)) (by rw [gQ])⟩) (fun dd=>by cases dd<;>rfl)) aj)) ⟨cs,os,ok,?_,rfl⟩) Vq)) (fun _=>jF.nd)) ?_
 rotate_left
 ·show [er (.ow _),er (.ow _)]=_
  rw [lU,show er (Tr.ow (os.map ax))=.lst (os.map dis) from ke os]
 refine ai (aH 6 (Ev.s (aQ Nx r2 (ag (ae 1 rfl) (ag (ae 2 rfl) (ag (ae 4 rfl) aj))) ⟨cs,os,W,S,ok,w0,b0,rfl,rfl⟩)) (fun _=>jF.nd)) ?_
 have UK:er (.ow ((List.range os.length).map fun a=>Tr.ow ((((S a).map (fW W)).map dF).map .fz)))=.lst ((List.range os.length).map fun a=>dC W (S a)):=by
  rw [fu]
  congr 1
  exact List.map_congr_left fun a _=>lU _
 refine ai (oH 7 (qS (eX.as (d:=.lst ((List.range os.length).map fun a=>dC W (S a))) (zq (own:=["_law_row"]) (fr:=[]) (List.range os.length) (fun a=>dC W (S a)) (fun a=>Tr.ow ((((S a).map (fW W)).map dF).map .fz)) (cB (ae 4 rfl) rfl) (bK 0 (fun _=>by show List.Nodup (["_law_row"]:List Str);decide)) (by decide) (by rw [List.length_range];omega) (fun a ha=>⟨_,rfl,by exact km T.fv (ae 0 rfl) (.inl rfl)⟩) (fun dd=>by cases dd<;>rfl)) UK)) (fun i=>lcs ⟨rfl,rfl,by decide +kernel,by decide +kernel,by decide +kernel,by decide +kernel⟩) (fun _=>jF.nd)) ?_
 refine ai (aH 8 (Ev.s (aQ EK (Nat.le_refl _) (ag (ae 5 rfl) (ag (ae 7 rfl) aj)) ⟨cs,os,W,S,ok,w0,w1,b0,rfl,rfl⟩)) (fun _=>jF.nd)) ?_
 have okS:fL (.lst ((List.range os.length).map fun a=>dC W (S a)))=true:=xI (fun a=>SG W (S a)) _
 have dpS:cF (.lst ((List.range os.length).map fun a=>dC W (S a)))<=50:=Nat.le_trans (qa (n:=2) fun d hd=>by
  obtain ⟨a,_,rfl⟩:=List.mem_map.mp hd
  exact SH W (S a)) (by decide)
 refine ai (bO (Et.pk (Ew.et (fE (gh (eK (aQ Dr r6 (ag (ae 8 rfl) (ag (ae 1 rfl) (ag (ae 4 rfl) (ag (ae 6 rfl) aj)))) ⟨cs,os,W,S,ok,w0,w1,b0,cl,rfl,rfl⟩))) fun _=>(fE (fO (ae 7 rfl) (ae 4 rfl) (.inl ⟨_,_,rfl,rfl⟩) dpS) fun _=>(iu (fO (ae 5 rfl) (qq (ag (ae 1 rfl) (ag (ae 2 rfl) aj)) (by show 2<=sizeLine;decide)) (.inr ⟨_,_,rfl,rfl⟩) (Nat.le_trans (Rv _ _) (by decide)))))))) ?_) ?_
 ·show (!true || (!bL (.lst ((List.range os.length).map fun a=>dC W (S a))) (.lst ((List.range os.length).map fun a=>dC W (S a))) || !bL (e9 cs os) (e9 cs os)))=false
  rw [sW okS,sW (Ru _ _)];rfl
 obtain ⟨T8,h8⟩:∃ T8:Tr,Rn (uD P w K mg base AU "law" (au gv) f (k+7)) ((aP gv).getD 9 (.Pass ⟨0,0,0,0⟩)) [some (.fz (dis ns)),some (.fz (dis cs)),some (.fz (.lst (os.map dis))),some (.fz (dis cells)),some (.fz (dc W os.length S)),some (.fz (e9 cs os)),some (.fz (bJ (bz cs.length os S os.length))),some (.fz (dc W os.length S)),some (mF W cs os S)] (.nx [some (.fz (dis ns)),some (.fz (dis cs)),some (.fz (.lst (os.map dis))),some (.fz (dis cells)),some (.fz (dc W os.length S)),some (.fz (e9 cs os)),some (.fz (bJ (bz cs.length os S os.length))),some (.fz (dc W os.length S)),some T8]):=by
  unfold mF
  cases hl:i3 W cs os S with
  |cons t l =>
   dsimp only
   have a0:av [ds "left",di t.1,di t.2.1,di t.2.2] 0=some (ds "left"):=rfl
   exact ⟨_,bO (Et.s (yg (u:=.str "left") (v:=.str "left") (aY (ae 8 rfl) ah rfl a0) jE rfl)) (by rw [decide_eq_true rfl];rfl)⟩
  |nil =>
   dsimp only
   by_cases hr:cW (bN cs os S) (cs.length+1)=[]
   ·rw [if_pos hr]
    have e:ax (cL (bN cs os S) (cs.length+1))=.ow (((cL (bN cs os S) (cs.length+1)).map di).map Tr.fz):=by rw [List.map_map];rfl
    rw [e]
    have e2:er (.tp [tx "good",.ow (((cL (bN cs os S) (cs.length+1)).map di).map Tr.fz)])=.tup [ds "good",er (.ow (((cL (bN cs os S) (cs.length+1)).map di).map Tr.fz))]:=rfl
    exact ⟨_,fP (Et.pk (yg (u:=.str "good") (v:=.str "left") (aY (ae 8 rfl) ah e2 rfl) jE rfl)) (by decide +kernel) (aw (FT 8 rfl (fun i=>kj (Gj PySem.F.plainAttrs_list PySem.F.slot_list_clear PySem.F.type_list_clear D8 (uh xS (pv 8) xQ (fun _ _=>rfl))))))⟩
   ·rw [if_neg hr]
    generalize jt (cW (bN cs os S) (cs.length+1)) (dI cs.length os S)=R
    have e:tW R=.ow ((R.map fun t=>dT (l3 t)).map Tr.fz):=by rw [List.map_map];rfl
    rw [e]
    have e2:er (.tp [tx "ring",.ow ((R.map fun t=>dT (l3 t)).map Tr.fz)])=.tup [ds "ring",er (.ow ((R.map fun t=>dT (l3 t)).map Tr.fz))]:=rfl
    exact ⟨_,fP (Et.pk (yg (u:=.str "ring") (v:=.str "left") (aY (ae 8 rfl) ah e2 rfl) jE rfl)) (by decide +kernel) (aw (FT 8 rfl (fun i=>kj (Gj PySem.F.plainAttrs_list PySem.F.slot_list_clear PySem.F.type_list_clear D8 (uh xS (pv 8) xQ (fun _ _=>rfl))))))⟩
 refine ai h8 ?_
 exact aw (bS (Ev.s (aQ Dr r6 (ag (aQ EK (Nat.le_refl _) (ag (ae 5 rfl) (ag (ae 7 rfl) aj)) ⟨cs,os,W,S,ok,w0,w1,b0,rfl,rfl⟩) (ag (ae 1 rfl) (ag (ae 4 rfl) (ag (ae 6 rfl) aj)))) ⟨cs,os,W,S,ok,w0,w1,b0,cl,rfl,rfl⟩)))
end
end bM
namespace bM
open PySem L2
theorem sD {α:Type}{us:List α}(h:us.length=1):∃ a0,us=[a0]:=by
 rcases us with _ | ⟨a0,us⟩;· cases h
 rcases us with _ | ⟨b,us⟩
 ·exact ⟨a0,rfl⟩
 ·simp at h
theorem cM {α:Type}{us:List α}(h:us.length=2):∃ a0 a1,us=[a0,a1]:=by
 rcases us with _ | ⟨a0,us⟩;· cases h
 rcases us with _ | ⟨a1,us⟩;· cases h
 rcases us with _ | ⟨b,us⟩
 ·exact ⟨a0,a1,rfl⟩
 ·simp at h
theorem pE {α:Type}{us:List α}(h:us.length=3):∃ a0 a1 a2,us=[a0,a1,a2]:=by
 rcases us with _ | ⟨a0,us⟩;· cases h
 rcases us with _ | ⟨a1,us⟩;· cases h
 rcases us with _ | ⟨a2,us⟩;· cases h
 rcases us with _ | ⟨b,us⟩
 ·exact ⟨a0,a1,a2,rfl⟩
 ·simp at h
theorem us4 {α:Type}{us:List α}(h:us.length=4):∃ a0 a1 a2 a3,us=[a0,a1,a2,a3]:=by
 rcases us with _ | ⟨a0,us⟩;· cases h
 rcases us with _ | ⟨a1,us⟩;· cases h
 rcases us with _ | ⟨a2,us⟩;· cases h
 rcases us with _ | ⟨a3,us⟩;· cases h
 rcases us with _ | ⟨b,us⟩
 ·exact ⟨a0,a1,a2,a3,rfl⟩
 ·simp at h
theorem all_mk {l:PySem.W.OpenLaw} {w:World} {K:PySem.W.Frag} {h:Heap} {mg:Str->Option Value} {fa:Addr} (X:K.In h) (G:h.Ns mainGlobals mg) (hfa:mg "law" = some (.ref fa))
  {f1:Addr} {od1 an1:Option Addr} {sl1:Array (Option Value)} {oc1 kV1 dc1 pm1 Ls ct1:Value}
  {f2:Addr} {od2 an2:Option Addr} {mR:Array (Option Value)} {oc2 kV2 dc2 rQ Lv ct2:Value}
  {f3:Addr} {od3 AV:Option Addr} {sl3:Array (Option Value)} {oc3 AW AX AY vD AZ:Value}
  {vE:Addr} {do3:Value} {dd3:Option Addr} {dn3:Nat} {ds3:Array (Option Value)} {pA:Tok}
  {f4:Addr} {od4 an4:Option Addr} {sl4:Array (Option Value)} {oc4 kV4 dc4 pm4 Lw ct4:Value}
  {f5:Addr} {od5 an5:Option Addr} {sl5:Array (Option Value)} {oc5 kV5 dc5 pm5 Lx ct5:Value}
  {f6:Addr} {od6 an6:Option Addr} {sl6:Array (Option Value)} {oc6 kV6 dc6 pm6 Ly ct6:Value}
  {f7:Addr} {od7 an7:Option Addr} {sl7:Array (Option Value)} {oc7 kV7 dc7 pm7 vA ct7:Value}
  {f8:Addr} {od8 an8:Option Addr} {sl8:Array (Option Value)} {oc8 kV8 dc8 pm8 Lz ct8:Value}
  {f9:Addr} {od9 an9:Option Addr} {sl9:Array (Option Value)} {oc9 kV9 dc9 pm9 LA ct9:Value}
  {A0:Addr} {Vr Vs:Option Addr} {Vt:Array (Option Value)} {Vu Vv Vw Vx Jv Vy:Value}
  {A3:Addr} {Vz VA:Option Addr} {VB:Array (Option Value)} {VC VD VE VF Jw VG:Value}
  {A4:Addr} {VH VI:Option Addr} {VJ:Array (Option Value)} {VL VM VN VO Jx VP:Value}
  {A5:Addr} {VQ VR:Option Addr} {VS:Array (Option Value)} {VU VV VW VX Jy VY:Value}
  {A6:Addr} {VZ V0:Option Addr} {V1:Array (Option Value)} {V2 V3 V4 V5 Jz V6:Value}
  {A7:Addr} {V7 V8:Option Addr} {V9:Array (Option Value)} {Wa Wb Wc Wd JA We:Value}
  {A8:Addr} {Wf Wg:Option Addr} {Wh:Array (Option Value)} {Wi Wj Wk Wl JB Wm:Value}
  {A9:Addr} {Wn Wo:Option Addr} {Wq:Array (Option Value)} {Wr Ws Wt Wu JC Wv:Value}
  {Ba:Addr} {Ww Wx:Option Addr} {Wy:Array (Option Value)} {Wz WB WC WD JD WG:Value}
  {Bb:Addr} {WH WK:Option Addr} {WL:Array (Option Value)} {WM WN WO WQ JE WR:Value}
  {Bc:Addr} {WT WU:Option Addr} {WV:Array (Option Value)} {WW WX WY WZ JF W2:Value}
  {Bd:Addr} {W3 W4:Option Addr} {W5:Array (Option Value)} {W6 W7 W8 W9 JG Xa:Value}
  {Be:Addr} {Xb Xc:Option Addr} {Xd:Array (Option Value)} {Xe Xf Xg Xh JH Xi:Value}
  {Bf:Addr} {Xj Xk:Option Addr} {Xl:Array (Option Value)} {Xm Xn Xo Xp JI Xq:Value}
  {Bg:Addr} {Xr Xs:Option Addr} {Xu:Array (Option Value)} {Xv Xw Xx Xy JK Xz:Value}
  {Bh:Addr} {XA XB:Option Addr} {XC:Array (Option Value)} {XD XF XG XH JL XI:Value}
  {Bi:Addr} {XJ XM:Option Addr} {XN:Array (Option Value)} {XO XQ XR XS JM XT:Value}
  {Bj:Addr} {XU XW:Option Addr} {XX:Array (Option Value)} {XY XZ X0 X1 JN X2:Value}
  {Bk:Addr} {X3 X4:Option Addr} {X5:Array (Option Value)} {X6 X7 X8 X9 JO Yb:Value}
  {Bl:Addr} {Yc Yd:Option Addr} {Ye:Array (Option Value)} {Yg Yh Yi Yj JP Yk:Value}
  {Bm:Addr} {Yl Ym:Option Addr} {Yn:Array (Option Value)} {Yo Yp Yq Yr JQ Ys:Value}
  {Bn:Addr} {Yt Yu:Option Addr} {Yv:Array (Option Value)} {Yw Yx Yy Yz JR YB:Value}
  {Bo:Addr} {YC YD:Option Addr} {YF:Array (Option Value)} {YG YH YJ YK JS YL:Value}
  {Bp:Addr} {YM YN:Option Addr} {YQ:Array (Option Value)} {YR YS YT YV JT YW:Value}
  {Bq:Addr} {YX YY:Option Addr} {YZ:Array (Option Value)} {Y0 Y1 Y2 Y3 JU Y4:Value}
  {Br:Addr} {Y5 Y6:Option Addr} {Y7:Array (Option Value)} {Y8 Y9 Za Zb JV Zc:Value}
  {Bs:Addr} {Zd Ze:Option Addr} {Zf:Array (Option Value)} {Zg Zh Zi Zj JW Zk:Value}
  {Bt:Addr} {Zm Zn:Option Addr} {Zo:Array (Option Value)} {Zq Zr Zt Zu JX Zv:Value}
  {Bu:Addr} {Zw JY:Option Addr} {Zx:Array (Option Value)} {Zy JZ J0 J1 zF J4:Value}
  {gt1:Tok} {gt2:Tok}
  (a1:PySem.W.nsIn K mainGlobals "is_whole" = some (some (.ref f1)))
  (l1:K.lookup f1=some ⟨oc1,od1,.func (PySem.W.fnOf "is_whole" "is_whole" (aW n5) (aP n5) (au n5) .none kV1 dc1 pm1 an1 Ls ct1),sl1⟩)
  (c1:PySem.W.codeIn K Ls "is_whole" = true)
  (k1:PySem.W.keepIn K (.ref f1)=true)
  (a2:PySem.W.nsIn K mainGlobals "common_part" = some (some (.ref f2)))
  (l2:K.lookup f2=some ⟨oc2,od2,.func (PySem.W.fnOf "common_part" "common_part" (aW nB) (aP nB) (au nB) .none kV2 dc2 rQ an2 Lv ct2),mR⟩)
  (c2:PySem.W.codeIn K Lv "common_part" = true)
  (k2:PySem.W.keepIn K (.ref f2)=true)
  (a3:PySem.W.nsIn K mainGlobals "fraction" = some (some (.ref f3)))
  (l3:K.lookup f3=some ⟨oc3,od3,.func (PySem.W.fnOf "fraction" "fraction" (aW gO) (aP gO) (au gO) (.ref vE) AW AX AY AV vD AZ),sl3⟩)
  (d3:K.lookup vE=some ⟨do3,dd3,.seq #[.int 1 pA] dn3,ds3⟩)
  (c3:PySem.W.codeIn K vD "fraction" = true)
  (k3:PySem.W.keepIn K (.ref f3)=true)
  (a4:PySem.W.nsIn K mainGlobals "plus" = some (some (.ref f4)))
  (l4:K.lookup f4=some ⟨oc4,od4,.func (PySem.W.fnOf "plus" "plus" (aW oN) (aP oN) (au oN) .none kV4 dc4 pm4 an4 Lw ct4),sl4⟩)
  (c4:PySem.W.codeIn K Lw "plus" = true)
  (k4:PySem.W.keepIn K (.ref f4)=true)
  (a5:PySem.W.nsIn K mainGlobals "sum_of" = some (some (.ref f5)))
  (l5:K.lookup f5=some ⟨oc5,od5,.func (PySem.W.fnOf "sum_of" "sum_of" (aW ot) (aP ot) (au ot) .none kV5 dc5 pm5 an5 Lx ct5),sl5⟩)
  (c5:PySem.W.codeIn K Lx "sum_of" = true)
  (k5:PySem.W.keepIn K (.ref f5)=true)
  (a6:PySem.W.nsIn K mainGlobals "check_orders" = some (some (.ref f6)))
  (l6:K.lookup f6=some ⟨oc6,od6,.func (PySem.W.fnOf "check_orders" "check_orders" (aW nq) (aP nq) (au nq) .none kV6 dc6 pm6 an6 Ly ct6),sl6⟩)
  (c6:PySem.W.codeIn K Ly "check_orders" = true)
  (k6:PySem.W.keepIn K (.ref f6)=true)
  (a7:PySem.W.nsIn K mainGlobals "table_of" = some (some (.ref f7)))
  (l7:K.lookup f7=some ⟨oc7,od7,.func (PySem.W.fnOf "table_of" "table_of" (aW n8) (aP n8) (au n8) .none kV7 dc7 pm7 an7 vA ct7),sl7⟩)
  (c7:PySem.W.codeIn K vA "table_of" = true)
  (k7:PySem.W.keepIn K (.ref f7)=true)
  (a8:PySem.W.nsIn K mainGlobals "full_order" = some (some (.ref f8)))
  (l8:K.lookup f8=some ⟨oc8,od8,.func (PySem.W.fnOf "full_order" "full_order" (aW nM) (aP nM) (au nM) .none kV8 dc8 pm8 an8 Lz ct8),sl8⟩)
  (c8:PySem.W.codeIn K Lz "full_order" = true)
  (k8:PySem.W.keepIn K (.ref f8)=true)
  (a9:PySem.W.nsIn K mainGlobals "dealt_of" = some (some (.ref f9)))
  (l9:K.lookup f9=some ⟨oc9,od9,.func (PySem.W.fnOf "dealt_of" "dealt_of" (aW oe) (aP oe) (au oe) .none kV9 dc9 pm9 an9 LA ct9),sl9⟩)
  (c9:PySem.W.codeIn K LA "dealt_of" = true)
  (k9:PySem.W.keepIn K (.ref f9)=true)
  (mX:PySem.W.nsIn K mainGlobals "wishes" = some (some (.ref A0)))
  (l10:K.lookup A0=some ⟨Vu,Vr,.func (PySem.W.fnOf "wishes" "wishes" (aW oq) (aP oq) (au oq) .none Vv Vw Vx Vs Jv Vy),Vt⟩)
  (Bv:PySem.W.codeIn K Jv "wishes" = true)
  (vF:PySem.W.keepIn K (.ref A0)=true)
  (Bw:PySem.W.nsIn K mainGlobals "over_pairs" = some (some (.ref A3)))
  (Bx:K.lookup A3=some ⟨VC,Vz,.func (PySem.W.fnOf "over_pairs" "over_pairs" (aW nO) (aP nO) (au nO) .none VD VE VF VA Jw VG),VB⟩)
  (By:PySem.W.codeIn K Jw "over_pairs" = true)
  (vG:PySem.W.keepIn K (.ref A3)=true)
  (Bz:PySem.W.nsIn K mainGlobals "full_things" = some (some (.ref A4)))
  (BA:K.lookup A4=some ⟨VL,VH,.func (PySem.W.fnOf "full_things" "full_things" (aW nJ) (aP nJ) (au nJ) .none VM VN VO VI Jx VP),VJ⟩)
  (BC:PySem.W.codeIn K Jx "full_things" = true)
  (vH:PySem.W.keepIn K (.ref A4)=true)
  (BD:PySem.W.nsIn K mainGlobals "lined_up" = some (some (.ref A5)))
  (BE:K.lookup A5=some ⟨VU,VQ,.func (PySem.W.fnOf "lined_up" "lined_up" (aW oh) (aP oh) (au oh) .none VV VW VX VR Jy VY),VS⟩)
  (BF:PySem.W.codeIn K Jy "lined_up" = true)
  (vI:PySem.W.keepIn K (.ref A5)=true)
  (BG:PySem.W.nsIn K mainGlobals "ring_among" = some (some (.ref A6)))
  (BH:K.lookup A6=some ⟨V2,VZ,.func (PySem.W.fnOf "ring_among" "ring_among" (aW nP) (aP nP) (au nP) .none V3 V4 V5 V0 Jz V6),V1⟩)
  (BI:PySem.W.codeIn K Jz "ring_among" = true)
  (vJ:PySem.W.keepIn K (.ref A6)=true)
  (BJ:PySem.W.nsIn K mainGlobals "judged" = some (some (.ref A7)))
  (BK:K.lookup A7=some ⟨Wa,V7,.func (PySem.W.fnOf "judged" "judged" (aW ou) (aP ou) (au ou) .none Wb Wc Wd V8 JA We),V9⟩)
  (BL:PySem.W.codeIn K JA "judged" = true)
  (vK:PySem.W.keepIn K (.ref A7)=true)
  (BM:PySem.W.nsIn K mainGlobals "_law_cell_at" = some (some (.ref A8)))
  (BO:K.lookup A8=some ⟨Wi,Wf,.func (PySem.W.fnOf "_law_cell_at" "_law_cell_at" (aW nr) (aP nr) (au nr) .none Wj Wk Wl Wg JB Wm),Wh⟩)
  (c16:PySem.W.codeIn K JB "_law_cell_at" = true)
  (vL:PySem.W.keepIn K (.ref A8)=true)
  (BP:PySem.W.nsIn K mainGlobals "_law_stream" = some (some (.ref A9)))
  (BQ:K.lookup A9=some ⟨Wr,Wn,.func (PySem.W.fnOf "_law_stream" "_law_stream" (aW nC) (aP nC) (au nC) .none Ws Wt Wu Wo JC Wv),Wq⟩)
  (BR:PySem.W.codeIn K JC "_law_stream" = true)
  (vM:PySem.W.keepIn K (.ref A9)=true)
  (BU:PySem.W.nsIn K mainGlobals "_law_order" = some (some (.ref Ba)))
  (BV:K.lookup Ba=some ⟨Wz,Ww,.func (PySem.W.fnOf "_law_order" "_law_order" (aW nN) (aP nN) (au nN) .none WB WC WD Wx JD WG),Wy⟩)
  (BW:PySem.W.codeIn K JD "_law_order" = true)
  (vN:PySem.W.keepIn K (.ref Ba)=true)
  (BX:PySem.W.nsIn K mainGlobals "_law_orders" = some (some (.ref Bb)))
  (BZ:K.lookup Bb=some ⟨WM,WH,.func (PySem.W.fnOf "_law_orders" "_law_orders" (aW nF) (aP nF) (au nF) .none WN WO WQ WK JE WR),WL⟩)
  (B3:PySem.W.codeIn K JE "_law_orders" = true)
  (vO:PySem.W.keepIn K (.ref Bb)=true)
  (B4:PySem.W.nsIn K mainGlobals "_law_counts" = some (some (.ref Bc)))
  (B5:K.lookup Bc=some ⟨WW,WT,.func (PySem.W.fnOf "_law_counts" "_law_counts" (aW nG) (aP nG) (au nG) .none WX WY WZ WU JF W2),WV⟩)
  (B6:PySem.W.codeIn K JF "_law_counts" = true)
  (vP:PySem.W.keepIn K (.ref Bc)=true)
  (B7:PySem.W.nsIn K mainGlobals "_law_divisor" = some (some (.ref Bd)))
  (B8:K.lookup Bd=some ⟨W6,W3,.func (PySem.W.fnOf "_law_divisor" "_law_divisor" (aW nu) (aP nu) (au nu) .none W7 W8 W9 W4 JG Xa),W5⟩)
  (B9:PySem.W.codeIn K JG "_law_divisor" = true)
  (vQ:PySem.W.keepIn K (.ref Bd)=true)
  (Ca:PySem.W.nsIn K mainGlobals "_law_lowest" = some (some (.ref Be)))
  (Cb:K.lookup Be=some ⟨Xe,Xb,.func (PySem.W.fnOf "_law_lowest" "_law_lowest" (aW nH) (aP nH) (au nH) .none Xf Xg Xh Xc JH Xi),Xd⟩)
  (Cd:PySem.W.codeIn K JH "_law_lowest" = true)
  (vR:PySem.W.keepIn K (.ref Be)=true)
  (Ce:PySem.W.nsIn K mainGlobals "_law_turn_deal" = some (some (.ref Bf)))
  (Cg:K.lookup Bf=some ⟨Xm,Xj,.func (PySem.W.fnOf "_law_turn_deal" "_law_turn_deal" (aW nj) (aP nj) (au nj) .none Xn Xo Xp Xk JI Xq),Xl⟩)
  (Ci:PySem.W.codeIn K JI "_law_turn_deal" = true)
  (vS:PySem.W.keepIn K (.ref Bf)=true)
  (Cj:PySem.W.nsIn K mainGlobals "_law_any_deal" = some (some (.ref Bg)))
  (Ck:K.lookup Bg=some ⟨Xv,Xr,.func (PySem.W.fnOf "_law_any_deal" "_law_any_deal" (aW nk) (aP nk) (au nk) .none Xw Xx Xy Xs JK Xz),Xu⟩)
  (Cm:PySem.W.codeIn K JK "_law_any_deal" = true)
  (vT:PySem.W.keepIn K (.ref Bg)=true)
  (Cp:PySem.W.nsIn K mainGlobals "_law_drawn" = some (some (.ref Bh)))
  (Cr:K.lookup Bh=some ⟨XD,XA,.func (PySem.W.fnOf "_law_drawn" "_law_drawn" (aW kc) (aP kc) (au kc) .none XF XG XH XB JL XI),XC⟩)
  (Ct:PySem.W.codeIn K JL "_law_drawn" = true)
  (vU:PySem.W.keepIn K (.ref Bh)=true)
  (Cu:PySem.W.nsIn K mainGlobals "_law_full" = some (some (.ref Bi)))
  (Cv:K.lookup Bi=some ⟨XO,XJ,.func (PySem.W.fnOf "_law_full" "_law_full" (aW nU) (aP nU) (au nU) .none XQ XR XS XM JM XT),XN⟩)
  (Cw:PySem.W.codeIn K JM "_law_full" = true)
  (vV:PySem.W.keepIn K (.ref Bi)=true)
  (Cy:PySem.W.nsIn K mainGlobals "_law_plus" = some (some (.ref Bj)))
  (Cz:K.lookup Bj=some ⟨XY,XU,.func (PySem.W.fnOf "_law_plus" "_law_plus" (aW nV) (aP nV) (au nV) .none XZ X0 X1 XW JN X2),XX⟩)
  (CA:PySem.W.codeIn K JN "_law_plus" = true)
  (vW:PySem.W.keepIn K (.ref Bj)=true)
  (CB:PySem.W.nsIn K mainGlobals "_law_under" = some (some (.ref Bk)))
  (gN:K.lookup Bk=some ⟨X6,X3,.func (PySem.W.fnOf "_law_under" "_law_under" (aW nQ) (aP nQ) (au nQ) .none X7 X8 X9 X4 JO Yb),X5⟩)
  (sC:PySem.W.codeIn K JO "_law_under" = true)
  (vX:PySem.W.keepIn K (.ref Bk)=true)
  (CC:PySem.W.nsIn K mainGlobals "_law_tabled" = some (some (.ref Bl)))
  (CD:K.lookup Bl=some ⟨Yg,Yc,.func (PySem.W.fnOf "_law_tabled" "_law_tabled" (aW nI) (aP nI) (au nI) .none Yh Yi Yj Yd JP Yk),Ye⟩)
  (CF:PySem.W.codeIn K JP "_law_tabled" = true)
  (vY:PySem.W.keepIn K (.ref Bl)=true)
  (CG:PySem.W.nsIn K mainGlobals "_law_whole" = some (some (.ref Bm)))
  (CH:K.lookup Bm=some ⟨Yo,Yl,.func (PySem.W.fnOf "_law_whole" "_law_whole" (aW nR) (aP nR) (au nR) .none Yp Yq Yr Ym JQ Ys),Yn⟩)
  (CI:PySem.W.codeIn K JQ "_law_whole" = true)
  (vZ:PySem.W.keepIn K (.ref Bm)=true)
  (CJ:PySem.W.nsIn K mainGlobals "_law_column" = some (some (.ref Bn)))
  (CK:K.lookup Bn=some ⟨Yw,Yt,.func (PySem.W.fnOf "_law_column" "_law_column" (aW nK) (aP nK) (au nK) .none Yx Yy Yz Yu JR YB),Yv⟩)
  (CL:PySem.W.codeIn K JR "_law_column" = true)
  (v5:PySem.W.keepIn K (.ref Bn)=true)
  (CM:PySem.W.nsIn K mainGlobals "_law_wishes" = some (some (.ref Bo)))
  (CN:K.lookup Bo=some ⟨YG,YC,.func (PySem.W.fnOf "_law_wishes" "_law_wishes" (aW nL) (aP nL) (au nL) .none YH YJ YK YD JS YL),YF⟩)
  (CO:PySem.W.codeIn K JS "_law_wishes" = true)
  (v7:PySem.W.keepIn K (.ref Bo)=true)
  (CP:PySem.W.nsIn K mainGlobals "_law_left" = some (some (.ref Bp)))
  (CQ:K.lookup Bp=some ⟨YR,YM,.func (PySem.W.fnOf "_law_left" "_law_left" (aW nW) (aP nW) (au nW) .none YS YT YV YN JT YW),YQ⟩)
  (CT:PySem.W.codeIn K JT "_law_left" = true)
  (v8:PySem.W.keepIn K (.ref Bp)=true)
  (CU:PySem.W.nsIn K mainGlobals "_law_three" = some (some (.ref Bq)))
  (CV:K.lookup Bq=some ⟨Y0,YX,.func (PySem.W.fnOf "_law_three" "_law_three" (aW nS) (aP nS) (au nS) .none Y1 Y2 Y3 YY JU Y4),YZ⟩)
  (CW:PySem.W.codeIn K JU "_law_three" = true)
  (v9:PySem.W.keepIn K (.ref Bq)=true)
  (CY:PySem.W.nsIn K mainGlobals "_law_ring" = some (some (.ref Br)))
  (CZ:K.lookup Br=some ⟨Y8,Y5,.func (PySem.W.fnOf "_law_ring" "_law_ring" (aW nX) (aP nX) (au nX) .none Y9 Za Zb Y6 JV Zc),Y7⟩)
  (C0:PySem.W.codeIn K JV "_law_ring" = true)
  (wc:PySem.W.keepIn K (.ref Br)=true)
  (C1:PySem.W.nsIn K mainGlobals "_law_good" = some (some (.ref Bs)))
  (C2:K.lookup Bs=some ⟨Zg,Zd,.func (PySem.W.fnOf "_law_good" "_law_good" (aW nY) (aP nY) (au nY) .none Zh Zi Zj Ze JW Zk),Zf⟩)
  (C3:PySem.W.codeIn K JW "_law_good" = true)
  (we:PySem.W.keepIn K (.ref Bs)=true)
  (C4:PySem.W.nsIn K mainGlobals "_law_right" = some (some (.ref Bt)))
  (C5:K.lookup Bt=some ⟨Zq,Zm,.func (PySem.W.fnOf "_law_right" "_law_right" (aW nT) (aP nT) (au nT) .none Zr Zt Zu Zn JX Zv),Zo⟩)
  (C6:PySem.W.codeIn K JX "_law_right" = true)
  (wg:PySem.W.keepIn K (.ref Bt)=true)
  (C7:PySem.W.nsIn K mainGlobals "law" = some (some (.ref Bu)))
  (C8:K.lookup Bu=some ⟨Zy,Zw,.func (PySem.W.fnOf "law" "law" (aW gv) (aP gv) (au gv) .none JZ J0 J1 JY zF J4),Zx⟩)
  (C9:PySem.W.codeIn K zF "law" = true)
  (Dc:PySem.W.keepIn K (.ref Bu)=true)
  (wG:PySem.W.nsIn K mainGlobals "isinstance" = some none)
  (yM:PySem.W.nsIn K mainGlobals "int" = some none)
  (yo:PySem.W.nsIn K mainGlobals "bool" = some none)
  (yp:PySem.W.nsIn K mainGlobals "list" = some none)
  (xO:PySem.W.nsIn K mainGlobals "tuple" = some none)
  (yN:PySem.W.nsIn K mainGlobals "len" = some none)
  (xP:PySem.W.nsIn K mainGlobals "range" = some none)
  (yO:PySem.W.nsIn K mainGlobals "zip" = some none)
  (yP:PySem.W.nsIn K mainGlobals "any" = some none)
  (wH:PySem.W.nsIn K mainGlobals "enumerate" = some none)
  (yQ:PySem.W.nsIn K mainGlobals "set" = some none)
  (yR:PySem.W.nsIn K mainGlobals "abs" = some none)
  (yS:PySem.W.nsIn K mainGlobals "sum" = some none)
  (xB:PySem.W.nsIn K mainGlobals "sorted" = some none)
  (wK:PySem.W.nsIn K mainGlobals "reversed" = some none)
  (yT:PySem.W.nsIn K mainGlobals "str" = some none)
  (yU:PySem.W.nsIn K mainGlobals "min" = some none)
  (qw:PySem.W.nsIn K mainGlobals "MOST" = some (some (.int 6 gt1)))
  (pI:PySem.W.nsIn K mainGlobals "MOST_COUNT" = some (some (.int 9 gt2)))
  : ∃ fd:FuncData,(∀ (s:Shared) (v:Value),BindsTo s fd ⟨[v],[]⟩ [("_law_script",v)])/\∀ base:Heap,K.In base->base.Ns mainGlobals mg->aR l.prog w K mg base ao 8 fa fd ["_law_script"] (ui K):=by
 have e:=hfa.symm.trans (PySem.W.mg_of X G C7)
 cases e
 have T:Txt mg:=⟨PySem.W.mg_none_of X G wG,PySem.W.mg_none_of X G yM,PySem.W.mg_none_of X G yo,PySem.W.mg_none_of X G yp,PySem.W.mg_none_of X G xO,PySem.W.mg_none_of X G yN,PySem.W.mg_none_of X G xP,PySem.W.mg_none_of X G yO,PySem.W.mg_none_of X G yP,PySem.W.mg_none_of X G wH,PySem.W.mg_none_of X G yQ,PySem.W.mg_none_of X G yR,PySem.W.mg_none_of X G yS,PySem.W.mg_none_of X G xB,PySem.W.mg_none_of X G wK,PySem.W.mg_none_of X G yT,PySem.W.mg_none_of X G yU,⟨_,PySem.W.mg_of X G qw⟩,⟨_,PySem.W.mg_of X G pI⟩⟩
 have F1:=bG (st:=n5) l1 c1 k1
 have b1:=F1.binds (ps:=["number"]) fun _ _ _ _ _ _ us hl=>by
  obtain ⟨_,rfl⟩:=sD hl
  rfl
 have F2:=bG (st:=nB) l2 c2 k2
 have b2:=F2.binds (ps:=["one", "other"]) fun _ _ _ _ _ _ us hl=>by
  obtain ⟨_,_,rfl⟩:=cM hl
  rfl
 have F3:=Rg (st:=gO) l3 c3 k3
 have b3:Binds K _ ["top", "bottom"] []:=fun s us hK hl=>match us,hl with | [u,v],_=>PySem.W.binds_K (fd:=PySem.W.fnOf "fraction" "fraction" (aW gO) (aP gO) (au gO) (.ref vE) AW AX AY AV vD AZ) hK rfl d3 rfl rfl rfl
 have Dd:Binds K _ ["top", "bottom"] [.int 1 pA]:=fun s us hK hl=>by
  cases us with
  |nil=>exact absurd hl (by simp)
  |cons u r=>cases r with
   |nil=>exact PySem.W.binds_K (fd:=PySem.W.fnOf "fraction" "fraction" (aW gO) (aP gO) (au gO) (.ref vE) AW AX AY AV vD AZ) hK rfl d3 rfl rfl rfl
   |cons v r=>exact absurd hl (by simp only [List.length_append,List.length_cons,List.length_nil];omega)
 have F4:=bG (st:=oN) l4 c4 k4
 have b4:=F4.binds (ps:=["one", "other"]) fun _ _ _ _ _ _ us hl=>by
  obtain ⟨_,_,rfl⟩:=cM hl
  rfl
 have F5:=bG (st:=ot) l5 c5 k5
 have b5:=F5.binds (ps:=["some"]) fun _ _ _ _ _ _ us hl=>by
  obtain ⟨_,rfl⟩:=sD hl
  rfl
 have F6:=bG (st:=nq) l6 c6 k6
 have b6:=F6.binds (ps:=["orders", "many"]) fun _ _ _ _ _ _ us hl=>by
  obtain ⟨_,_,rfl⟩:=cM hl
  rfl
 have F7:=bG (st:=n8) l7 c7 k7
 have b7:=F7.binds (ps:=["counts", "orders"]) fun _ _ _ _ _ _ us hl=>by
  obtain ⟨_,_,rfl⟩:=cM hl
  rfl
 have F8:=bG (st:=nM) l8 c8 k8
 have b8:=F8.binds (ps:=["table", "asker"]) fun _ _ _ _ _ _ us hl=>by
  obtain ⟨_,_,rfl⟩:=cM hl
  rfl
 have F9:=bG (st:=oe) l9 c9 k9
 have b9:=F9.binds (ps:=["shares", "one"]) fun _ _ _ _ _ _ us hl=>by
  obtain ⟨_,_,rfl⟩:=cM hl
  rfl
 have LC:=bG (st:=oq) l10 Bv vF
 have b10:=LC.binds (ps:=["table", "shares"]) fun _ _ _ _ _ _ us hl=>by
  obtain ⟨_,_,rfl⟩:=cM hl
  rfl
 have LD:=bG (st:=nO) Bx By vG
 have b11:=LD.binds (ps:=["table", "shares"]) fun _ _ _ _ _ _ us hl=>by
  obtain ⟨_,_,rfl⟩:=cM hl
  rfl
 have LI:=bG (st:=nJ) BA BC vH
 have b12:=LI.binds (ps:=["counts", "shares"]) fun _ _ _ _ _ _ us hl=>by
  obtain ⟨_,_,rfl⟩:=cM hl
  rfl
 have LJ:=bG (st:=oh) BE BF vI
 have b13:=LJ.binds (ps:=["many", "pairs"]) fun _ _ _ _ _ _ us hl=>by
  obtain ⟨_,_,rfl⟩:=cM hl
  rfl
 have LK:=bG (st:=nP) BH BI vJ
 have b14:=LK.binds (ps:=["rest", "wished"]) fun _ _ _ _ _ _ us hl=>by
  obtain ⟨_,_,rfl⟩:=cM hl
  rfl
 have LL:=bG (st:=ou) BK BL vK
 have b15:=LL.binds (ps:=["table", "shares"]) fun _ _ _ _ _ _ us hl=>by
  obtain ⟨_,_,rfl⟩:=cM hl
  rfl
 have LN:=bG (st:=nr) BO c16 vL
 have b16:=LN.binds (ps:=["_law_script", "_law_k"]) fun _ _ _ _ _ _ us hl=>by
  obtain ⟨_,_,rfl⟩:=cM hl
  rfl
 have LO:=bG (st:=nC) BQ BR vM
 have b17:=LO.binds (ps:=["_law_cell", "_law_many"]) fun _ _ _ _ _ _ us hl=>by
  obtain ⟨_,_,rfl⟩:=cM hl
  rfl
 have LQ:=bG (st:=nN) BV BW vN
 have b18:=LQ.binds (ps:=["_law_cell", "_law_many"]) fun _ _ _ _ _ _ us hl=>by
  obtain ⟨_,_,rfl⟩:=cM hl
  rfl
 have LR:=bG (st:=nF) BZ B3 vO
 have b19:=LR.binds (ps:=["_law_cells", "_law_many"]) fun _ _ _ _ _ _ us hl=>by
  obtain ⟨_,_,rfl⟩:=cM hl
  rfl
 have LU:=bG (st:=nG) B5 B6 vP
 have b20:=LU.binds (ps:=["_law_cell", "_law_many"]) fun _ _ _ _ _ _ us hl=>by
  obtain ⟨_,_,rfl⟩:=cM hl
  rfl
 have LV:=bG (st:=nu) B8 B9 vQ
 have b21:=LV.binds (ps:=["_law_one", "_law_other"]) fun _ _ _ _ _ _ us hl=>by
  obtain ⟨_,_,rfl⟩:=cM hl
  rfl
 have LW:=bG (st:=nH) Cb Cd vR
 have b22:=LW.binds (ps:=["_law_top", "_law_bottom"]) fun _ _ _ _ _ _ us hl=>by
  obtain ⟨_,_,rfl⟩:=cM hl
  rfl
 have LX:=bG (st:=nj) Cg Ci vS
 have b23:=LX.binds (ps:=["_law_cell", "_law_counts_here", "_law_orders_here"]) fun _ _ _ _ _ _ us hl=>by
  obtain ⟨_,_,_,rfl⟩:=pE hl
  rfl
 have LY:=bG (st:=nk) Ck Cm vT
 have b24:=LY.binds (ps:=["_law_cell", "_law_counts_here", "_law_askers"]) fun _ _ _ _ _ _ us hl=>by
  obtain ⟨_,_,_,rfl⟩:=pE hl
  rfl
 have LZ:=bG (st:=kc) Cr Ct vU
 have b25:=LZ.binds (ps:=["_law_cells", "_law_counts_here", "_law_orders_here"]) fun _ _ _ _ _ _ us hl=>by
  obtain ⟨_,_,_,rfl⟩:=pE hl
  rfl
 have L0:=bG (st:=nU) Cv Cw vV
 have b26:=L0.binds (ps:=["_law_counts_here", "_law_order_here"]) fun _ _ _ _ _ _ us hl=>by
  obtain ⟨_,_,rfl⟩:=cM hl
  rfl
 have L1:=bG (st:=nV) Cz CA vW
 have b27:=L1.binds (ps:=["_law_one", "_law_other"]) fun _ _ _ _ _ _ us hl=>by
  obtain ⟨_,_,rfl⟩:=cM hl
  rfl
 have L4:=bG (st:=nQ) gN sC vX
 have b28:=L4.binds (ps:=["_law_one", "_law_other"]) fun _ _ _ _ _ _ us hl=>by
  obtain ⟨_,_,rfl⟩:=cM hl
  rfl
 have L5:=bG (st:=nI) CD CF vY
 have b29:=L5.binds (ps:=["_law_script"]) fun _ _ _ _ _ _ us hl=>by
  obtain ⟨_,rfl⟩:=sD hl
  rfl
 have L6:=bG (st:=nR) CH CI vZ
 have b30:=L6.binds (ps:=["_law_found"]) fun _ _ _ _ _ _ us hl=>by
  obtain ⟨_,rfl⟩:=sD hl
  rfl
 have L7:=bG (st:=nK) CK CL v5
 have b31:=L7.binds (ps:=["_law_shares", "_law_one"]) fun _ _ _ _ _ _ us hl=>by
  obtain ⟨_,_,rfl⟩:=cM hl
  rfl
 have L8:=bG (st:=nL) CN CO v7
 have b32:=L8.binds (ps:=["_law_counts_here", "_law_orders_here", "_law_shares"]) fun _ _ _ _ _ _ us hl=>by
  obtain ⟨_,_,_,rfl⟩:=pE hl
  rfl
 have L9:=bG (st:=nW) CQ CT v8
 have b33:=L9.binds (ps:=["_law_counts_here", "_law_shares", "_law_wishes_here"]) fun _ _ _ _ _ _ us hl=>by
  obtain ⟨_,_,_,rfl⟩:=pE hl
  rfl
 have Ma:=bG (st:=nS) CV CW v9
 have b34:=Ma.binds (ps:=["_law_row"]) fun _ _ _ _ _ _ us hl=>by
  obtain ⟨_,rfl⟩:=sD hl
  rfl
 have Mb:=bG (st:=nX) CZ C0 wc
 have b35:=Mb.binds (ps:=["_law_rows", "_law_wishes_here"]) fun _ _ _ _ _ _ us hl=>by
  obtain ⟨_,_,rfl⟩:=cM hl
  rfl
 have Mf:=bG (st:=nY) C2 C3 we
 have b36:=Mf.binds (ps:=["_law_order_here", "_law_many", "_law_wishes_here"]) fun _ _ _ _ _ _ us hl=>by
  obtain ⟨_,_,_,rfl⟩:=pE hl
  rfl
 have Mg:=bG (st:=nT) C5 C6 wg
 have b37:=Mg.binds (ps:=["_law_found", "_law_counts_here", "_law_shares", "_law_wishes_here"]) fun _ _ _ _ _ _ us hl=>by
  obtain ⟨_,_,_,_,rfl⟩:=us4 hl
  rfl
 have F38:=bG (st:=gv) C8 C9 Dc
 refine ⟨PySem.W.fnOf "law" "law" (aW gv) (aP gv) (au gv) .none JZ J0 J1 JY zF J4,fun s v=>.of_eq rfl,fun base _ _=>?_⟩
 have K1:=Kn.mk (base:=base) (P:=l.prog) (w:=w) (N9 (k:=0) F1 T ) (PySem.W.mg_of X G a1) k1 b1
 have K2:=Kn.mk (base:=base) (P:=l.prog) (w:=w) (MF (k:=0) F2 T ) (PySem.W.mg_of X G a2) k2 b2
 have K3:=Kn.mk (base:=base) (P:=l.prog) (w:=w) (Oa (k:=0) F3 T K1 K2) (PySem.W.mg_of X G a3) k3 b3
 have K4:=Kn.mk (base:=base) (P:=l.prog) (w:=w) (Sj (k:=0) F4 T K3) (PySem.W.mg_of X G a4) k4 b4
 have K5:=Kn.mk (base:=base) (P:=l.prog) (w:=w) (P6 (k:=0) F5 T K3 Dd K4) (PySem.W.mg_of X G a5) k5 b5
 have K6:=Kn.mk (base:=base) (P:=l.prog) (w:=w) (Mv (k:=0) F6 T ) (PySem.W.mg_of X G a6) k6 b6
 have K7:=Kn.mk (base:=base) (P:=l.prog) (w:=w) (Oc (k:=0) F7 T K6) (PySem.W.mg_of X G a7) k7 b7
 have K8:=Kn.mk (base:=base) (P:=l.prog) (w:=w) (M8 (k:=1) F8 T ) (PySem.W.mg_of X G a8) k8 b8
 have K9:=Kn.mk (base:=base) (P:=l.prog) (w:=w) (Oe (k:=0) F9 T K5) (PySem.W.mg_of X G a9) k9 b9
 have Mh:=Kn.mk (base:=base) (P:=l.prog) (w:=w) (P5 (k:=0) LC T K8 K3 Dd) (PySem.W.mg_of X G mX) vF b10
 have K11:=Kn.mk (base:=base) (P:=l.prog) (w:=w) (Nh (k:=0) LD T Mh) (PySem.W.mg_of X G Bw) vG b11
 have K12:=Kn.mk (base:=base) (P:=l.prog) (w:=w) (MQ (k:=0) LI T K9 K3 Dd) (PySem.W.mg_of X G Bz) vH b12
 have K13:=Kn.mk (base:=base) (P:=l.prog) (w:=w) (Og (k:=0) LJ T ) (PySem.W.mg_of X G BD) vI b13
 have K14:=Kn.mk (base:=base) (P:=l.prog) (w:=w) (Ni (k:=0) LK T ) (PySem.W.mg_of X G BG) vJ b14
 have K15:=Kn.mk (base:=base) (P:=l.prog) (w:=w) (P7 (k:=0) LL T Mh K12 K13 K11 K14) (PySem.W.mg_of X G BJ) vK b15
 have Mi:=Kn.mk (base:=base) (P:=l.prog) (w:=w) (Mx (k:=0) LN T ) (PySem.W.mg_of X G BM) vL b16
 have wk:=Kn.mk (base:=base) (P:=l.prog) (w:=w) (MJ (k:=0) LO T ) (PySem.W.mg_of X G BP) vM b17
 have K18:=Kn.mk (base:=base) (P:=l.prog) (w:=w) (M9 (k:=0) LQ T wk) (PySem.W.mg_of X G BU) vN b18
 have K19:=Kn.mk (base:=base) (P:=l.prog) (w:=w) (MK (k:=0) LR T K18) (PySem.W.mg_of X G BX) vO b19
 have K20:=Kn.mk (base:=base) (P:=l.prog) (w:=w) (ML (k:=0) LU T wk) (PySem.W.mg_of X G B4) vP b20
 have K21:=Kn.mk (base:=base) (P:=l.prog) (w:=w) (My (k:=0) LV T ) (PySem.W.mg_of X G B7) vQ b21
 have Mj:=Kn.mk (base:=base) (P:=l.prog) (w:=w) (MM (k:=0) LW T K21) (PySem.W.mg_of X G Ca) vR b22
 have bM:=Kn.mk (base:=base) (P:=l.prog) (w:=w) (Mp (k:=0) LX T wk) (PySem.W.mg_of X G Ce) vS b23
 have K24:=Kn.mk (base:=base) (P:=l.prog) (w:=w) (Mr (k:=0) LY T wk) (PySem.W.mg_of X G Cj) vT b24
 have K25:=Kn.mk (base:=base) (P:=l.prog) (w:=w) (Nb (k:=0) LZ T K24 bM Mj) (PySem.W.mg_of X G Cp) vU b25
 have K26:=Kn.mk (base:=base) (P:=l.prog) (w:=w) (NT (k:=0) L0 T ) (PySem.W.mg_of X G Cu) vV b26
 have K27:=Kn.mk (base:=base) (P:=l.prog) (w:=w) (NV (k:=0) L1 T Mj) (PySem.W.mg_of X G Cy) vW b27
 have K28:=Kn.mk (base:=base) (P:=l.prog) (w:=w) (Nm (k:=0) L4 T ) (PySem.W.mg_of X G CB) vX b28
 have K29:=Kn.mk (base:=base) (P:=l.prog) (w:=w) (MO (k:=0) L5 T Mi K20 K19) (PySem.W.mg_of X G CC) vY b29
 have Mk:=Kn.mk (base:=base) (P:=l.prog) (w:=w) (Np (k:=0) L6 T ) (PySem.W.mg_of X G CG) vZ b30
 have K31:=Kn.mk (base:=base) (P:=l.prog) (w:=w) (MR (k:=0) L7 T K27) (PySem.W.mg_of X G CJ) v5 b31
 have K32:=Kn.mk (base:=base) (P:=l.prog) (w:=w) (MS (k:=0) L8 T K26) (PySem.W.mg_of X G CM) v7 b32
 have K33:=Kn.mk (base:=base) (P:=l.prog) (w:=w) (NW (k:=0) L9 T K31 K28) (PySem.W.mg_of X G CP) v8 b33
 have Ml:=Kn.mk (base:=base) (P:=l.prog) (w:=w) (Nt (k:=0) Ma T Mk) (PySem.W.mg_of X G CU) v9 b34
 have K35:=Kn.mk (base:=base) (P:=l.prog) (w:=w) (NY (k:=0) Mb T Ml) (PySem.W.mg_of X G CY) wc b35
 have K36:=Kn.mk (base:=base) (P:=l.prog) (w:=w) (NZ (k:=0) Mf T Mk) (PySem.W.mg_of X G C1) we b36
 have K37:=Kn.mk (base:=base) (P:=l.prog) (w:=w) (Nu (k:=0) Mg T K33 Ml K35 K36) (PySem.W.mg_of X G C4) wg b37
 exact Tv (TZ (k:=0) F38 T Mi K29 K25 K7 K32 K15 K37)
theorem walk {l:PySem.W.OpenLaw}{q:Program}{loose:List Str}{XP:(Str->Option Value)->Heap->Prop}{YP:World->Heap->Prop}{d:DefRec}{K:Params->PySem.W.Frag}(hn:l.most=some 63)(rA:d.params.defaults=[])
  (hY:∀ (w:World) (h:Heap),YP w h->(K w.params).In h)
  (F:∀ (w:World) (mg:Str->Option Value) (fa:Addr) (h:Heap),(K w.params).In h->h.Ns mainGlobals mg->mg d.name=some (.ref fa) ->
   ∃ fd:FuncData,(∀ (s:Shared) (u:Value),BindsTo s fd ⟨[u],[]⟩ [("_law_script",u)])/\∀ base:Heap,(K w.params).In base->base.Ns mainGlobals mg->aR l.prog w (K w.params) mg base ao 8 fa fd ["_law_script"] (ui (K w.params))) :
  PySem.W.WalkO q loose XP YP l.row.toRowW d [] (fun f vs=>PySem.call f vs) :=
 L2.Ra (n:=63) (k:=8) (x := "_law_script") (CX:=fun _=>ao) (sp:=fun w=>ui (K w.params)) hn (by decide) rA ⟨rfl,by decide,by decide⟩ hY F (fun _ _ a ns hl _ hS=>⟨a,ns,rfl,hS,hl,fun _=>rfl⟩) fun _ _ _ _ _ z=>z
end bM
open PySem PySem.W PyProof.Rows
set_option maxRecDepth 100000 in
set_option maxHeartbeats 0 in
theorem PySem.Challenge.cw_lotmeal_k23_judged_with_a_paper_holds : PySem.Challenge.rw_lotmeal_k23_judged_with_a_paper.Holds := by
 w_on;o_law
 refine holds_open (q:=fT.hV) (loose:=["fraction"]) (Xt:=fT.hX) (XP:=XL fT.hV []) (Yf:=(kHook fT.hK fT.hA fT.ub).obs) (Ya:=(kHook fT.hK fT.hA fT.ub).val) (YP:=(kHook fT.hK fT.hA fT.ub).says) fT.hL (Hook.of _) (Hook.keeps _) (fun s e=>xl_of s (Bool.and_eq_true_iff.mp e).1) XL.keeps (by rfl) (by rfl) (by rfl) (fun s e=>recFacts_of (Bool.and_eq_true_iff.mp e).2) (by rfl) (by first | assumption | decide +kernel) (by decide +kernel) ⟨rfl,rfl,rfl,rfl,rfl,by decide +kernel⟩ ?hw ?hc
 case hw=>w_witness2
 k_fill
 refine bM.walk (l:=PySem.Challenge.rw_lotmeal_k23_judged_with_a_paper) rfl rfl (fun w h Y=>PySem.W.kIn_of Y) ?F
 case F =>
  intro w mg fa h KX G rB
  refine' bM.all_mk KX G rB ?a1 ?l1 ?c1 ?k1 ?a2 ?l2 ?c2 ?k2 ?a3 ?l3 ?d3 ?c3 ?k3 ?a4 ?l4 ?c4 ?k4 ?a5 ?l5 ?c5 ?k5 ?a6 ?l6 ?c6 ?k6 ?a7 ?l7 ?c7 ?k7 ?a8 ?l8 ?c8 ?k8 ?a9 ?l9 ?c9 ?k9 ?mX ?l10 ?Bv ?vF ?Bw ?Bx ?By ?vG ?Bz ?BA ?BC ?vH ?BD ?BE ?BF ?vI ?BG ?BH ?BI ?vJ ?BJ ?BK ?BL ?vK ?BM ?BO ?c16 ?vL ?BP ?BQ ?BR ?vM ?BU ?BV ?BW ?vN ?BX ?BZ ?B3 ?vO ?B4 ?B5 ?B6 ?vP ?B7 ?B8 ?B9 ?vQ ?Ca ?Cb ?Cd ?vR ?Ce ?Cg ?Ci ?vS ?Cj ?Ck ?Cm ?vT ?Cp ?Cr ?Ct ?vU ?Cu ?Cv ?Cw ?vV ?Cy ?Cz ?CA ?vW ?CB ?gN ?sC ?vX ?CC ?CD ?CF ?vY ?CG ?CH ?CI ?vZ ?CJ ?CK ?CL ?v5 ?CM ?CN ?CO ?v7 ?CP ?CQ ?CT ?v8 ?CU ?CV ?CW ?v9 ?CY ?CZ ?C0 ?wc ?C1 ?C2 ?C3 ?we ?C4 ?C5 ?C6 ?wg ?C7 ?C8 ?C9 ?Dc ?wG ?yM ?yo ?yp ?xO ?yN ?xP ?yO ?yP ?wH ?yQ ?yR ?yS ?xB ?wK ?yT ?yU ?qw ?pI
  (case a1=>k_is)
  (case l1=>k_is)
  (case c1=>k_is)
  (case k1=>k_is)
  (case a2=>k_is)
  (case l2=>k_is)
  (case c2=>k_is)
  (case k2=>k_is)
  (case a3=>k_is)
  (case l3=>k_is)
  (case d3=>k_is)
  (case c3=>k_is)
  (case k3=>k_is)
  (case a4=>k_is)
  (case l4=>k_is)
  (case c4=>k_is)
  (case k4=>k_is)
  (case a5=>k_is)
  (case l5=>k_is)
  (case c5=>k_is)
  (case k5=>k_is)
  (case a6=>k_is)
  (case l6=>k_is)
  (case c6=>k_is)
  (case k6=>k_is)
  (case a7=>k_is)
  (case l7=>k_is)
  (case c7=>k_is)
  (case k7=>k_is)
  (case a8=>k_is)
  (case l8=>k_is)
  (case c8=>k_is)
  (case k8=>k_is)
  (case a9=>k_is)
  (case l9=>k_is)
  (case c9=>k_is)
  (case k9=>k_is)
  (case mX=>k_is)
  (case l10=>k_is)
  (case Bv=>k_is)
  (case vF=>k_is)
  (case Bw=>k_is)
  (case Bx=>k_is)
  (case By=>k_is)
  (case vG=>k_is)
  (case Bz=>k_is)
  (case BA=>k_is)
  (case BC=>k_is)
  (case vH=>k_is)
  (case BD=>k_is)
  (case BE=>k_is)
  (case BF=>k_is)
  (case vI=>k_is)
  (case BG=>k_is)
  (case BH=>k_is)
  (case BI=>k_is)
  (case vJ=>k_is)
  (case BJ=>k_is)
  (case BK=>k_is)
  (case BL=>k_is)
  (case vK=>k_is)
  (case BM=>k_is)
  (case BO=>k_is)
  (case c16=>k_is)
  (case vL=>k_is)
  (case BP=>k_is)
  (case BQ=>k_is)
  (case BR=>k_is)
  (case vM=>k_is)
  (case BU=>k_is)
  (case BV=>k_is)
  (case BW=>k_is)
  (case vN=>k_is)
  (case BX=>k_is)
  (case BZ=>k_is)
  (case B3=>k_is)
  (case vO=>k_is)
  (case B4=>k_is)
  (case B5=>k_is)
  (case B6=>k_is)
  (case vP=>k_is)
  (case B7=>k_is)
  (case B8=>k_is)
  (case B9=>k_is)
  (case vQ=>k_is)
  (case Ca=>k_is)
  (case Cb=>k_is)
  (case Cd=>k_is)
  (case vR=>k_is)
  (case Ce=>k_is)
  (case Cg=>k_is)
  (case Ci=>k_is)
  (case vS=>k_is)
  (case Cj=>k_is)
  (case Ck=>k_is)
  (case Cm=>k_is)
  (case vT=>k_is)
  (case Cp=>k_is)
  (case Cr=>k_is)
  (case Ct=>k_is)
  (case vU=>k_is)
  (case Cu=>k_is)
  (case Cv=>k_is)
  (case Cw=>k_is)
  (case vV=>k_is)
  (case Cy=>k_is)
  (case Cz=>k_is)
  (case CA=>k_is)
  (case vW=>k_is)
  (case CB=>k_is)
  (case gN=>k_is)
  (case sC=>k_is)
  (case vX=>k_is)
  (case CC=>k_is)
  (case CD=>k_is)
  (case CF=>k_is)
  (case vY=>k_is)
  (case CG=>k_is)
  (case CH=>k_is)
  (case CI=>k_is)
  (case vZ=>k_is)
  (case CJ=>k_is)
  (case CK=>k_is)
  (case CL=>k_is)
  (case v5=>k_is)
  (case CM=>k_is)
  (case CN=>k_is)
  (case CO=>k_is)
  (case v7=>k_is)
  (case CP=>k_is)
  (case CQ=>k_is)
  (case CT=>k_is)
  (case v8=>k_is)
  (case CU=>k_is)
  (case CV=>k_is)
  (case CW=>k_is)
  (case v9=>k_is)
  (case CY=>k_is)
  (case CZ=>k_is)
  (case C0=>k_is)
  (case wc=>k_is)
  (case C1=>k_is)
  (case C2=>k_is)
  (case C3=>k_is)
  (case we=>k_is)
  (case C4=>k_is)
  (case C5=>k_is)
  (case C6=>k_is)
  (case wg=>k_is)
  (case C7=>k_is)
  (case C8=>k_is)
  (case C9=>k_is)
  (case Dc=>k_is)
  (case wG=>k_is)
  (case yM=>k_is)
  (case yo=>k_is)
  (case yp=>k_is)
  (case xO=>k_is)
  (case yN=>k_is)
  (case xP=>k_is)
  (case yO=>k_is)
  (case yP=>k_is)
  (case wH=>k_is)
  (case yQ=>k_is)
  (case yR=>k_is)
  (case yS=>k_is)
  (case xB=>k_is)
  (case wK=>k_is)
  (case yT=>k_is)
  (case yU=>k_is)
  (case qw=>k_is)
  (case pI=>k_is)
#print axioms PySem.Challenge.cw_lotmeal_k23_judged_with_a_paper_holds
